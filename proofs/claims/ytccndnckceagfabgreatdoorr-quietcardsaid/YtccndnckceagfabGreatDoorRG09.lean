/-
  The letters of a set of registers, the program's and the document's.
  Live: the document's and the program's; the statement on Live, walked.
  The core of a program: plain mathematics.
-/
import Derived.Test.YtccndnckceagfabGreatDoorRG03
import Derived.Test.YtccndnckceagfabGreatDoorRHRunA
namespace Go.Proofs.YtccndnckceagfabGreatDoorR
open Go.RowKit
namespace Sp
/-- the letters of a set of registers, in the order of their bytes; the first n looked at -/
def letT (S : Nat → Bool) : Nat → ByteArray
  | 0 => ⟨#[]⟩
  | n + 1 => if S n = true then letT S n ++ ⟨#[UInt8.ofNat (reg n).toNat]⟩ else letT S n
theorem letT_size (S : Nat → Bool) (n : Nat) : (letT S n).size ≤ n := by
  induction n with
  | zero => exact Nat.le_refl _
  | succ n ih =>
    simp only [letT]
    split
    · rw [ByteArray.size_append]
      have : (⟨#[UInt8.ofNat (reg n).toNat]⟩ : ByteArray).size = 1 := rfl
      omega
    · omega
theorem letT_congr {S T : Nat → Bool} (n : Nat) (h : ∀ k, k < n → S k = T k) : letT S n = letT T n := by
  induction n with
  | zero => rfl
  | succ n ih =>
    simp only [letT]
    rw [ih (fun k hk => h k (by omega)), h n (by omega)]
theorem letT_yes {S : Nat → Bool} {n : Nat} (h : S n = true) : letT S (n + 1) = letT S n ++ ⟨#[UInt8.ofNat (reg n).toNat]⟩ := by simp only [letT]; rw [if_pos h]
theorem letT_no {S : Nat → Bool} {n : Nat} (h : S n = false) : letT S (n + 1) = letT S n := by simp only [letT]; rw [if_neg (by rw [h]; simp)]
/-- the place of a register in the order of the bytes -/
def ord (n : Nat) : Nat := (26 + n) % 52
theorem letP_ord (n : Nat) (h : n < 52) : letP ((ord n : Nat) : Int) = reg n := by
  have : ∀ i : _root_.Fin 52, letP ((ord i.val : Nat) : Int) = reg i.val := by decide
  exact this ⟨n, h⟩
theorem rv_ord (n : Nat) (h : n < 52) : rv (ord n) = reg n := by
  have : ∀ i : _root_.Fin 52, rv (ord i.val) = reg i.val := by decide
  exact this ⟨n, h⟩
theorem lreg_bd (n : Nat) (h : n < 52) : 0 ≤ reg n ∧ reg n ≤ 255 := by
  have : ∀ i : _root_.Fin 52, 0 ≤ reg i.val ∧ reg i.val ≤ 255 := by decide
  exact this ⟨n, h⟩
end Sp
theorem one_cell (v : Int) (h0 : 0 ≤ v) (h1 : v ≤ 255) : Lib.strCells ⟨#[UInt8.ofNat v.toNat]⟩ = [.int .u8 v] := by
  unfold Lib.strCells
  simp only [List.map_cons, List.map_nil]
  rw [u8_of v h0 h1]
theorem own_empty (w : World) : (w.alloc (.cells #[] 5)).ownsRow w.heap.size 5 1 (.slice (some ⟨w.heap.size, 0, none⟩) 0 0) 0 [] :=
  ⟨rfl, Or.inr ⟨w.heap.size, 0, #[], rfl, Nat.le_refl _, heap_alloc_new w _, Nat.le_refl _, by unfold maxLen; omega, rfl, rfl⟩⟩

end Go.Proofs.YtccndnckceagfabGreatDoorR

namespace Go.Proofs.YtccndnckceagfabGreatDoorR
open Go.RowKit
namespace Sp
/-- whether a register is live ahead of instruction i, as the document says -/
noncomputable def wantB (c : Nat → Int) (n : Nat) (v : Int) (i : Nat) : Bool := @decide (Want c n v i) (Classical.propDecidable _)
theorem wantB_iff (c : Nat → Int) (n : Nat) (v : Int) (i : Nat) : wantB c n v i = true ↔ Want c n v i := by simp [wantB]
theorem wantB_eq {c : Nat → Int} {n : Nat} {v : Int} {i : Nat} {b : Bool} (h : b = true ↔ Want c n v i) : wantB c n v i = b := by
  rw [Bool.eq_iff_iff, wantB_iff]
  exact h.symm
/-- the letters of the registers that are live ahead of instruction i -/
noncomputable def liveT (s : ByteArray) (i : Nat) : ByteArray := letT (fun k => wantB (B s) (s.size / 4) (reg k) i) 52
def LiveR (s : ByteArray) (i : Int) (t : ByteArray) (e : Int) : Prop :=
  (e ≠ 0 ∧ FormedR s e ∧ t = ⟨#[]⟩) ∨ (FormedR s 0 ∧ ¬ (0 ≤ i ∧ i < (s.size / 4 : Nat)) ∧ e = 2 ∧ t = ⟨#[]⟩) ∨ (FormedR s 0 ∧ (0 ≤ i ∧ i < (s.size / 4 : Nat)) ∧ e = 0 ∧ t = liveT s i.toNat)
theorem LiveR.det {s : ByteArray} {i : Int} {t t' : ByteArray} {e e' : Int} (h : LiveR s i t e) (k : LiveR s i t' e') : t = t' ∧ e = e' := by
  rcases h with ⟨a, b, c⟩ | ⟨a, b, c, d⟩ | ⟨a, b, c, d⟩ <;> rcases k with ⟨a', b', c'⟩ | ⟨a', b', c', d'⟩ | ⟨a', b', c', d'⟩
  · exact ⟨c.trans c'.symm, b.eq b'⟩
  · exact absurd (b.eq a') a
  · exact absurd (b.eq a') a
  · exact absurd (b'.eq a) a'
  · exact ⟨d.trans d'.symm, c.trans c'.symm⟩
  · exact absurd b' b
  · exact absurd (b'.eq a) a'
  · exact absurd b b'
  · exact ⟨d.trans d'.symm, c.trans c'.symm⟩
end Sp
theorem regs_cut (k : Nat) (hk : k < 52) : (⟨#[65, 66, 67, 68, 69, 70, 71, 72, 73, 74, 75, 76, 77, 78, 79, 80, 81, 82, 83, 84, 85, 86, 87, 88, 89, 90, 97, 98, 99, 100, 101, 102, 103, 104, 105, 106, 107, 108, 109, 110, 111, 112, 113, 114, 115, 116, 117, 118, 119, 120, 121, 122]⟩ : ByteArray).extract k (k + 1) = ⟨#[UInt8.ofNat (Sp.reg k).toNat]⟩ := by
  have : ∀ i : Fin 52, (⟨#[65, 66, 67, 68, 69, 70, 71, 72, 73, 74, 75, 76, 77, 78, 79, 80, 81, 82, 83, 84, 85, 86, 87, 88, 89, 90, 97, 98, 99, 100, 101, 102, 103, 104, 105, 106, 107, 108, 109, 110, 111, 112, 113, 114, 115, 116, 117, 118, 119, 120, 121, 122]⟩ : ByteArray).extract i.val (i.val + 1) = ⟨#[UInt8.ofNat (Sp.reg i.val).toNat]⟩ := by decide +kernel
  exact this ⟨k, hk⟩

def LivePost (s : ByteArray) (i : Int) (w : World) (e : Ending) (w' : World) : Prop :=
  ∃ t f, e = .returned (.tuple #[.string t, .int .i64 f]) ∧ Sp.LiveR s i t f ∧ Below w.heap.size w w'

end Go.Proofs.YtccndnckceagfabGreatDoorR

namespace Go.Proofs.YtccndnckceagfabGreatDoorR.Sp

/-- does a register stand in the program? -/
def Stands (c : Nat → Int) (n : Nat) (v : Int) : Prop := ∃ i, i < n ∧ (rdAt c v i = true ∨ wrAt c v i = true)
/-- do two registers meet? -/
def Meet (c : Nat → Int) (n : Nat) (v u : Int) : Prop := v ≠ u ∧ ((Want c n v 0 ∧ Want c n u 0) ∨ ∃ i, i < n ∧ ((wrAt c v i = true ∧ Want c n u (i + 1)) ∨ (wrAt c u i = true ∧ Want c n v (i + 1))))
theorem Meet.symm {c : Nat → Int} {n : Nat} {v u : Int} (h : Meet c n v u) : Meet c n u v := by
  obtain ⟨h1, h2⟩ := h
  refine ⟨fun e => h1 e.symm, ?_⟩
  rcases h2 with ⟨a, b⟩ | ⟨i, hi, h⟩
  · exact Or.inl ⟨b, a⟩
  · exact Or.inr ⟨i, hi, h.symm⟩

/-- how many below n are in the set -/
def cT (S : Nat → Bool) : Nat → Nat
  | 0 => 0
  | n + 1 => cT S n + if S n = true then 1 else 0
theorem cT_le (S : Nat → Bool) (n : Nat) : cT S n ≤ n := by
  induction n with
  | zero => exact Nat.le_refl _
  | succ n ih => simp only [cT]; split <;> omega
theorem cT_congr {S T : Nat → Bool} (n : Nat) (h : ∀ k, k < n → S k = T k) : cT S n = cT T n := by
  induction n with
  | zero => rfl
  | succ n ih => simp only [cT]; rw [ih (fun k hk => h k (by omega)), h n (by omega)]
theorem cT_mono {S T : Nat → Bool} (n : Nat) (h : ∀ k, k < n → S k = true → T k = true) : cT S n ≤ cT T n := by
  induction n with
  | zero => exact Nat.le_refl _
  | succ n ih =>
    have := ih (fun k hk => h k (by omega))
    simp only [cT]
    by_cases e : S n = true
    · rw [if_pos e, if_pos (h n (by omega) e)]; omega
    · rw [if_neg e]; split <;> omega
theorem cT_lt {S T : Nat → Bool} {n j : Nat} (h : ∀ k, k < n → S k = true → T k = true) (hj : j < n) (h0 : S j = false) (h1 : T j = true) : cT S n < cT T n := by
  induction n with
  | zero => omega
  | succ n ih =>
    simp only [cT]
    by_cases e : j = n
    · subst e
      have := cT_mono j (fun k hk => h k (by omega))
      rw [h0, if_pos h1]
      simp
      omega
    · have := ih (fun k hk => h k (by omega)) (by omega)
      by_cases e : S n = true
      · rw [if_pos e, if_pos (h n (by omega) e)]; omega
      · rw [if_neg e]; split <;> omega
theorem cT_add (S : Nat → Bool) (a b : Nat) : cT S (a + b) = cT S a + cT (fun x => S (a + x)) b := by
  induction b with
  | zero => rfl
  | succ b ih =>
    rw [← Nat.add_assoc]
    simp only [cT]
    rw [ih]
    omega
theorem ord_lt (k : Nat) : ord k < 52 := Nat.mod_lt _ (by omega)
theorem ord_ord (k : Nat) (h : k < 52) : ord (ord k) = k := by unfold ord; omega
theorem cT_ord (S : Nat → Bool) : cT (fun k => S (ord k)) 52 = cT S 52 := by
  rw [show (52 : Nat) = 26 + 26 from rfl, cT_add, cT_add S]
  have h1 : cT (fun k => S (ord k)) 26 = cT (fun x => S (26 + x)) 26 := cT_congr 26 (fun k hk => by rw [show ord k = 26 + k from by unfold ord; omega])
  have h2 : cT (fun x => S (ord (26 + x))) 26 = cT S 26 := cT_congr 26 (fun k hk => by rw [show ord (26 + k) = k from by unfold ord; omega])
  rw [h1, h2]
  omega

/-- each register of the set meets c of it, or more -/
def Dense (M : Nat → Nat → Bool) (c : Int) (L : Nat → Bool) : Prop := ∀ r, r < 52 → L r = true → c ≤ cT (fun x => M r x && L x) 52
/-- what is left of S: it holds every dense part of S -/
structure IsCore (S : Nat → Bool) (M : Nat → Nat → Bool) (c : Int) (L : Nat → Bool) : Prop where
  sub : ∀ r, r < 52 → L r = true → S r = true
  dense : Dense M c L
  all : ∀ D, (∀ r, r < 52 → D r = true → S r = true) → Dense M c D → ∀ r, r < 52 → D r = true → L r = true
/-- what is so while registers are taken away -/
structure Peel (S : Nat → Bool) (M : Nat → Nat → Bool) (c : Int) (L : Nat → Bool) : Prop where
  sub : ∀ r, r < 52 → L r = true → S r = true
  all : ∀ D, (∀ r, r < 52 → D r = true → S r = true) → Dense M c D → ∀ r, r < 52 → D r = true → L r = true
theorem Peel.start (S : Nat → Bool) (M : Nat → Nat → Bool) (c : Int) : Peel S M c S := ⟨fun _ _ h => h, fun _ h _ => h⟩
theorem Peel.away {S : Nat → Bool} {M : Nat → Nat → Bool} {c : Int} {L : Nat → Bool} (h : Peel S M c L) (r : Nat) (hr : (cT (fun x => M r x && L x) 52 : Int) < c) : Peel S M c (fun x => L x && x != r) := by
  refine ⟨fun x hx hl => h.sub x hx (by simp only [Bool.and_eq_true] at hl; exact hl.1), fun D h1 h2 x hx hd => ?_⟩
  have hl := h.all D h1 h2
  simp only [Bool.and_eq_true, bne_iff_ne]
  refine ⟨hl x hx hd, fun e => ?_⟩
  subst e
  have a := h2 x hx hd
  have b := cT_mono (S := fun y => M x y && D y) (T := fun y => M x y && L y) 52 (fun k hk e => by
    simp only [Bool.and_eq_true] at e ⊢
    exact ⟨e.1, hl k hk e.2⟩)
  omega
theorem Peel.fin {S : Nat → Bool} {M : Nat → Nat → Bool} {c : Int} {L : Nat → Bool} (h : Peel S M c L) (hd : Dense M c L) : IsCore S M c L := ⟨h.sub, hd, h.all⟩
theorem IsCore.eq {S : Nat → Bool} {M : Nat → Nat → Bool} {c : Int} {L K : Nat → Bool} (h : IsCore S M c L) (k : IsCore S M c K) : ∀ r, r < 52 → L r = K r := fun r hr => by
  rw [Bool.eq_iff_iff]
  exact ⟨k.all L h.sub h.dense r hr, h.all K k.sub k.dense r hr⟩
theorem Dense.congr {M N : Nat → Nat → Bool} {c : Int} {L K : Nat → Bool} (hM : ∀ r x, r < 52 → x < 52 → M r x = N r x) (hL : ∀ r, r < 52 → L r = K r) (h : Dense M c L) : Dense N c K := fun r hr hk => by
  have := h r hr (by rw [hL r hr]; exact hk)
  rw [cT_congr (S := fun x => M r x && L x) (T := fun x => N r x && K x) 52 (fun x hx => by rw [hM r x hr hx, hL x hx])] at this
  exact this
theorem IsCore.congr {S T : Nat → Bool} {M N : Nat → Nat → Bool} {c : Int} {L : Nat → Bool} (hS : ∀ r, r < 52 → S r = T r) (hM : ∀ r x, r < 52 → x < 52 → M r x = N r x) (h : IsCore S M c L) : IsCore T N c L :=
  ⟨fun r hr hl => by rw [← hS r hr]; exact h.sub r hr hl, h.dense.congr hM (fun _ _ => rfl), fun D h1 h2 => h.all D (fun r hr hd => by rw [hS r hr]; exact h1 r hr hd) (h2.congr (fun r x hr hx => (hM r x hr hx).symm) (fun _ _ => rfl))⟩
theorem dense_ord {M : Nat → Nat → Bool} {c : Int} {L : Nat → Bool} (h : Dense M c L) : Dense (fun r x => M (ord r) (ord x)) c (fun r => L (ord r)) := fun r _ hl => by
  have := h (ord r) (ord_lt r) hl
  rw [← cT_ord] at this
  exact this
/-- the same in the other order of the registers -/
theorem core_ord {S : Nat → Bool} {M : Nat → Nat → Bool} {c : Int} {L : Nat → Bool} (h : IsCore S M c L) : IsCore (fun r => S (ord r)) (fun r x => M (ord r) (ord x)) c (fun r => L (ord r)) := by
  refine ⟨fun r _ hl => h.sub _ (ord_lt r) hl, dense_ord h.dense, fun D h1 h2 r hr hd => ?_⟩
  have d2 := dense_ord h2
  have d3 : Dense M c (fun r => D (ord r)) := d2.congr (fun r x hr hx => by show M (ord (ord r)) (ord (ord x)) = M r x; rw [ord_ord r hr, ord_ord x hx]) (fun _ _ => rfl)
  exact h.all (fun r => D (ord r)) (fun x hx hdx => by
    have : S (ord (ord x)) = true := h1 (ord x) (ord_lt x) hdx
    rwa [ord_ord x hx] at this) d3 (ord r) (ord_lt r) (by show D (ord (ord r)) = true; rw [ord_ord r hr]; exact hd)

/-! ### Letters as texts -/
theorem letT_erase (P : Nat → Bool) (n : Nat) : ∀ i, i < (letT P n).size → ∃ k, k < n ∧ P k = true ∧ B (letT P n) i = ((UInt8.ofNat (reg k).toNat).toNat : Int) ∧ (letT P n).extract 0 i ++ (letT P n).extract (i + 1) (letT P n).size = letT (fun x => P x && x != k) n := by
  induction n with
  | zero => intro i hi; exact absurd hi (Nat.not_lt_zero _)
  | succ n ih =>
    intro i hi
    cases hP : P n
    · rw [letT_no hP] at hi ⊢
      obtain ⟨k, hk, h1, h2, h3⟩ := ih i hi
      exact ⟨k, by omega, h1, h2, by rw [letT_no (S := fun x => P x && x != k) (by simp [hP])]; exact h3⟩
    · rw [letT_yes hP] at hi ⊢
      have hs1 : (⟨#[UInt8.ofNat (reg n).toNat]⟩ : ByteArray).size = 1 := rfl
      have hsz : (letT P n ++ (⟨#[UInt8.ofNat (reg n).toNat]⟩ : ByteArray)).size = (letT P n).size + 1 := by rw [ByteArray.size_append, hs1]
      rw [hsz] at hi ⊢
      by_cases e : i < (letT P n).size
      · obtain ⟨k, hk, h1, h2, h3⟩ := ih i e
        refine ⟨k, by omega, h1, ?_, ?_⟩
        · rw [← h2, ← B_get _ i (by rw [hsz]; omega), ← B_get _ i e, ByteArray.getElem_append_left e]
        · rw [letT_yes (S := fun x => P x && x != k) (by simp [hP]; omega), ← h3, ByteArray.append_assoc]
          congr 1
          · apply ByteArray.ext
            apply Array.ext'
            simp [ByteArray.data_extract]
            rw [List.take_append_of_le_length (by rw [Array.length_toList]; exact Nat.le_of_lt e)]
          · apply ByteArray.ext
            apply Array.ext'
            simp [ByteArray.data_extract]
            have hl : (letT P n).data.toList.length = (letT P n).size := Array.length_toList
            rw [List.drop_append_of_le_length (by rw [hl]; omega), List.take_of_length_le (by rw [List.length_append, List.length_drop, hl]; simp; omega), List.take_of_length_le (by rw [List.length_drop, hl]; omega)]
      · have ei : i = (letT P n).size := by omega
        subst ei
        refine ⟨n, by omega, hP, ?_, ?_⟩
        · rw [← B_get _ _ (by rw [hsz]; omega), ByteArray.getElem_append_right (Nat.le_refl _)]
          simp only [Nat.sub_self]
          rfl
        · rw [letT_no (S := fun x => P x && x != n) (by simp)]
          rw [letT_congr (S := fun x => P x && x != n) (T := P) n (fun k hk => by simp; omega)]
          apply ByteArray.ext
          apply Array.ext'
          simp [ByteArray.data_extract]
/-- how many of the first j bytes f takes -/
def cB (f : Int → Bool) (l : ByteArray) : Nat → Nat
  | 0 => 0
  | j + 1 => cB f l j + if f (B l j) = true then 1 else 0
theorem cB_le (f : Int → Bool) (l : ByteArray) (j : Nat) : cB f l j ≤ j := by
  induction j with
  | zero => exact Nat.le_refl _
  | succ j ih => simp only [cB]; split <;> omega
theorem cB_app (f : Int → Bool) (l m : ByteArray) : ∀ j, j ≤ l.size → cB f (l ++ m) j = cB f l j
  | 0, _ => rfl
  | j + 1, h => by
    simp only [cB]
    rw [cB_app f l m j (by omega)]
    have e : B (l ++ m) j = B l j := by
      rw [← B_get (l ++ m) j (by rw [ByteArray.size_append]; omega), ← B_get l j (by omega), ByteArray.getElem_append_left (by omega)]
    rw [e]
theorem cB_letT (f : Int → Bool) (P : Nat → Bool) (n : Nat) (hn : n ≤ 52) : cB f (letT P n) (letT P n).size = cT (fun k => f (reg k) && P k) n := by
  induction n with
  | zero => rfl
  | succ n ih =>
    have ih' := ih (by omega)
    have rb := lreg_bd n (by omega)
    simp only [cT]
    by_cases hP : P n = true
    rotate_left
    · have hP' : P n = false := by simpa using hP
      rw [letT_no hP', ih', if_neg (by simp [hP'])]
      omega
    · rw [letT_yes hP]
      have hs1 : (⟨#[UInt8.ofNat (reg n).toNat]⟩ : ByteArray).size = 1 := rfl
      have hsz : (letT P n ++ (⟨#[UInt8.ofNat (reg n).toNat]⟩ : ByteArray)).size = (letT P n).size + 1 := by rw [ByteArray.size_append, hs1]
      rw [hsz]
      simp only [cB]
      rw [cB_app f _ _ _ (Nat.le_refl _), ih']
      have e : B (letT P n ++ (⟨#[UInt8.ofNat (reg n).toNat]⟩ : ByteArray)) (letT P n).size = reg n := by
        rw [← B_get _ _ (by rw [hsz]; omega), ByteArray.getElem_append_right (Nat.le_refl _)]
        simp only [Nat.sub_self]
        show ((UInt8.ofNat (reg n).toNat).toNat : Int) = reg n
        rw [UInt8.toNat_ofNat']
        omega
      rw [e]
      simp [hP]
theorem letT_len (P : Nat → Bool) (n : Nat) : (letT P n).size = cT P n := by
  induction n with
  | zero => rfl
  | succ n ih =>
    simp only [cT]
    cases hP : P n
    · rw [letT_no hP, ih]; simp
    · rw [letT_yes hP, ByteArray.size_append, ih, if_pos rfl]; rfl
theorem reg_back (k : Nat) (h : k < 52) : ((UInt8.ofNat (reg k).toNat).toNat : Int) = reg k := by
  have := lreg_bd k h
  rw [UInt8.toNat_ofNat']
  omega
theorem regs_inj {k j : Nat} (hk : k < 52) (hj : j < 52) (h : reg k = reg j) : k = j := by
  unfold reg at h
  repeat' split at h
  all_goals omega
end Go.Proofs.YtccndnckceagfabGreatDoorR.Sp
