/-
  Contracts of the document's own small functions: what each returns.
  Contracts of the document's own functions, further: shapes, what is read, what is written, what shows, blocks.
  Contracts of the document's own functions, further: blocks, first, fits.
  The document's own test whether a text is a program.
  The document's own function next: the slice of the instructions to which one may go on.
  Ways through a program, plain mathematics: what a search by marking finds.
  The document's own search: is there a way to an instruction that reads the register?
  The document's own Check: what it answers.
-/
import Derived.Test.YtccndnckceagfabGreatDoorRRows
import Derived.Test.YtccndnckceagfabGreatDoorRSpec
import Derived.WalkKit
import Derived.WalkSpells
import Derived.WalkLawsBesides
import Derived.Deep.QuietTactic
import Derived.BigQuiet
import Derived.Deep.OwnRows
import Derived.Deep.RegionWith
namespace Go.Proofs.YtccndnckceagfabGreatDoorR
open Go.RowKit

theorem quiet_eq {P : Program} {f : FuncId} {args : Array Value} {w : World} {n : Nat} {v : Value}
    (h : Calls P f args (w.drewN n) fun e w' => e = .returned v ∧ w.drewN n = w') : Calls P f args (w.drewN n) fun e w'' => e = .returned v ∧ ∃ m, w'' = w.drewN m :=
  h.mono fun _ _ ⟨he, hm⟩ => ⟨he, n, hm.symm⟩
theorem quiet_eq2 {P : Program} {f : FuncId} {args : Array Value} {w : World} {a n : Nat} {v : Value}
    (h : Calls P f args (w.drewN (a + n)) fun e w' => e = .returned v ∧ w.drewN (a + n) = w') : Calls P f args (w.drewN (a + n)) fun e w'' => e = .returned v ∧ ∃ m, w'' = w.drewN (a + m) :=
  h.mono fun _ _ ⟨he, hm⟩ => ⟨he, n, hm.symm⟩
theorem ret_bool {a b : Bool} (h : a = b) : Ending.returned (.bool a) = .returned (.bool b) := by rw [h]
theorem ret_int {k : IntKind} {a b : Int} (h : a = b) : Ending.returned (.int k a) = .returned (.int k b) := by rw [h]
theorem ret_str {a b : ByteArray} (h : a = b) : Ending.returned (.string a) = .returned (.string b) := by rw [h]

end Go.Proofs.YtccndnckceagfabGreatDoorR

namespace Go.Proofs.YtccndnckceagfabGreatDoorR
open Go.RowKit

end Go.Proofs.YtccndnckceagfabGreatDoorR

namespace Go.Proofs.YtccndnckceagfabGreatDoorR
open Go.RowKit

end Go.Proofs.YtccndnckceagfabGreatDoorR

namespace Go.Proofs.YtccndnckceagfabGreatDoorR
open Go.RowKit

end Go.Proofs.YtccndnckceagfabGreatDoorR

namespace Go.Proofs.YtccndnckceagfabGreatDoorR
open Go.RowKit

/-- v is a slice of just these numbers, in a block of its own from B on -/
def IntsAt (w : World) (B : Nat) (v : Value) (l : List Nat) : Prop :=
  (l = [] ∧ v = .slice none 0 0) ∨ ∃ b, v = .slice (some ⟨b, 0, none⟩) l.length l.length ∧ B ≤ b ∧ w.rowIs b 3 l.length (fun j => .int .i64 (l.getD j 0 : Nat))

end Go.Proofs.YtccndnckceagfabGreatDoorR

namespace Go.Proofs.YtccndnckceagfabGreatDoorR.Sp

structure Good (c : Nat → Int) (n : Nat) : Prop where
  pos : 0 < n
  jmp : ∀ i, i < n → c (4 * i) = 106 → 48 ≤ c (4 * i + 1) ∧ c (4 * i + 1) - 48 < blocksTo c n
  cnd : ∀ i, i < n → c (4 * i) = 63 → (48 ≤ c (4 * i + 2) ∧ c (4 * i + 2) - 48 < blocksTo c n) ∧ (48 ≤ c (4 * i + 3) ∧ c (4 * i + 3) - 48 < blocksTo c n)
  last : endB (c (4 * (n - 1))) = true

theorem okIns_of_progB {c : Nat → Int} {size : Nat} {regs : Int} (h : progB c size regs = true) : ∀ i, i < size / 4 → okIns c (blocksTo c (size / 4)) regs i = true := by
  unfold progB at h
  simp only [Bool.and_eq_true] at h
  intro i hi
  exact List.all_eq_true.1 h.2 i (List.mem_range.2 hi)
theorem size_of_progB {c : Nat → Int} {size : Nat} {regs : Int} (h : progB c size regs = true) : 4 ≤ size ∧ size % 4 = 0 ∧ blocksTo c (size / 4) ≤ 10 ∧ endB (c (4 * (size / 4 - 1))) = true := by
  unfold progB at h
  simp only [Bool.and_eq_true, decide_eq_true_eq] at h
  obtain ⟨⟨⟨⟨h1, h2⟩, h3⟩, h4⟩, _⟩ := h
  exact ⟨by omega, h2, h3, h4⟩
theorem fit_of_okIns {c : Nat → Int} {nb : Nat} {regs : Int} {i : Nat} (h : okIns c nb regs i = true) (k : Nat) (hk : k < 3) : fitB (c (4 * i + k + 1)) (B (shp (c (4 * i)) (decide (0 < regs))) k) regs nb = true := by
  unfold okIns at h
  rw [Bool.and_eq_true] at h
  exact List.all_eq_true.1 h.2 k (List.mem_range.2 hk)
theorem shp_106 (m : Bool) : shp 106 m = ⟨#[66, 46, 46]⟩ := by simp [shp, arithB]
theorem shp_63 (m : Bool) : shp 63 m = ⟨#[82, 66, 66]⟩ := by simp [shp, arithB]
theorem fit_B {c regs : Int} {n : Nat} (h : fitB c 66 regs n = true) : 49 ≤ c ∧ c ≤ 57 ∧ c - 48 < n := by
  simp [fitB, digB] at h
  omega
theorem good_of_progB {c : Nat → Int} {size : Nat} {regs : Int} (h : progB c size regs = true) : Good c (size / 4) := by
  obtain ⟨h1, h2, h3, h4⟩ := size_of_progB h
  refine ⟨by omega, fun i hi ho => ?_, fun i hi ho => ?_, h4⟩
  · have k := fit_of_okIns (okIns_of_progB h i hi) 0 (by omega)
    rw [ho, shp_106, show B ⟨#[66, 46, 46]⟩ 0 = 66 from rfl] at k
    have := fit_B k
    simp only [Nat.add_zero] at this
    omega
  · have k1 := fit_of_okIns (okIns_of_progB h i hi) 1 (by omega)
    have k2 := fit_of_okIns (okIns_of_progB h i hi) 2 (by omega)
    rw [ho, shp_63, show B ⟨#[82, 66, 66]⟩ 1 = 66 from rfl] at k1
    rw [ho, shp_63, show B ⟨#[82, 66, 66]⟩ 2 = 66 from rfl] at k2
    have a1 := fit_B k1
    have a2 := fit_B k2
    rw [show 4 * i + 1 + 1 = 4 * i + 2 from rfl] at a1
    rw [show 4 * i + 2 + 1 = 4 * i + 3 from rfl] at a2
    omega

theorem fst_lt (c : Nat → Int) (n k : Nat) (h : k < blocksTo c n) : fst c n k < n := by
  obtain ⟨h1, h2, _⟩ := fst_spec c n k (by omega)
  by_cases e : fst c n k = n
  · rw [e] at h2; omega
  · omega
theorem nextL_lt {c : Nat → Int} {n : Nat} (g : Good c n) {i : Nat} (hi : i < n) : ∀ j, j ∈ nextL c n i → j < n := by
  intro j hj
  unfold nextL at hj
  by_cases h1 : c (4 * i) = 114
  · rw [if_pos h1] at hj; cases hj
  rw [if_neg h1] at hj
  by_cases h2 : c (4 * i) = 106
  · rw [if_pos h2] at hj
    have := g.jmp i hi h2
    have e : j = _ := List.mem_singleton.1 hj
    rw [e]
    exact fst_lt c n _ (by omega)
  rw [if_neg h2] at hj
  by_cases h3 : c (4 * i) = 63
  · rw [if_pos h3] at hj
    have := g.cnd i hi h3
    rcases List.mem_cons.1 hj with e | hj
    · rw [e]; exact fst_lt c n _ (by omega)
    · have e : j = _ := List.mem_singleton.1 hj
      rw [e]; exact fst_lt c n _ (by omega)
  rw [if_neg h3] at hj
  have e : j = i + 1 := List.mem_singleton.1 hj
  by_cases e2 : i = n - 1
  · have := g.last
    rw [← e2] at this
    simp [endB, h1, h2, h3] at this
  · omega

theorem nextL_len (c : Nat → Int) (n i : Nat) : (nextL c n i).length ≤ 2 := by
  unfold nextL
  split
  · simp
  split
  · simp
  split <;> simp
theorem want_rd {c : Nat → Int} {n : Nat} {v : Int} {i : Nat} (h : rdAt c v i = true) : Want c n v i := ⟨0, h⟩
theorem want_step {c : Nat → Int} {n : Nat} {v : Int} {i j : Nat} (hw : wrAt c v i = false) (hj : j ∈ nextL c n i) (h : Want c n v j) : Want c n v i := by
  obtain ⟨k, hk⟩ := h
  refine ⟨k + 1, ?_⟩
  simp only [wantN, Bool.or_eq_true, Bool.and_eq_true]
  exact Or.inr ⟨by simp [hw], List.any_eq_true.2 ⟨j, hj, hk⟩⟩

/-- all that is marked below m is neither read at, nor leads on to what is not marked -/
def Closed (c : Nat → Int) (n : Nat) (v : Int) (S : Nat → Bool) (m : Nat) : Prop :=
  ∀ k, k < m → S k = true → rdAt c v k = false ∧ (wrAt c v k = true ∨ ∀ j, j ∈ nextL c n k → S j = true)
theorem closed_no {c : Nat → Int} {n : Nat} {v : Int} {S : Nat → Bool} (hd : ∀ j, S j = true → j < n) (hc : Closed c n v S n) {i : Nat} (hi : S i = true) : ¬ Want c n v i := by
  rintro ⟨k, hk⟩
  induction k generalizing i with
  | zero => have := (hc i (hd i hi) hi).1
            simp only [wantN] at hk
            rw [this] at hk; cases hk
  | succ k ih =>
    obtain ⟨h1, h2⟩ := hc i (hd i hi) hi
    simp only [wantN, h1, Bool.false_or, Bool.and_eq_true] at hk
    obtain ⟨hw, ha⟩ := hk
    obtain ⟨j, hj, hjk⟩ := List.any_eq_true.1 ha
    rcases h2 with h2 | h2
    · rw [h2] at hw; cases hw
    · exact ih (h2 j hj) hjk

/-- how many below n are not marked -/
def cnt (S : Nat → Bool) : Nat → Nat
  | 0 => 0
  | n + 1 => cnt S n + (if S n = true then 0 else 1)
theorem cnt_congr {S T : Nat → Bool} {n : Nat} (h : ∀ j, j < n → S j = T j) : cnt S n = cnt T n := by
  induction n with
  | zero => rfl
  | succ n ih => simp only [cnt]; rw [ih (fun j hj => h j (by omega)), h n (by omega)]
theorem cnt_le {S T : Nat → Bool} (n : Nat) (h : ∀ j, S j = true → T j = true) : cnt T n ≤ cnt S n := by
  induction n with
  | zero => exact Nat.le_refl _
  | succ n ih =>
    simp only [cnt]
    by_cases e : S n = true
    · rw [if_pos e, if_pos (h n e)]; omega
    · rw [if_neg e]; split <;> omega
theorem cnt_lt {S T : Nat → Bool} {n j : Nat} (h : ∀ j, S j = true → T j = true) (hj : j < n) (h0 : S j = false) (h1 : T j = true) : cnt T n < cnt S n := by
  induction n with
  | zero => omega
  | succ n ih =>
    simp only [cnt]
    by_cases e : j = n
    · subst e
      have := cnt_le j h
      rw [if_pos h1, h0]
      simp
      omega
    · have := ih (by omega)
      by_cases e : S n = true
      · rw [if_pos e, if_pos (h n e)]; omega
      · rw [if_neg e]; split <;> omega
/-- letter k, in rising order -/
def reg (k : Nat) : Int := if k < 26 then 65 + k else 71 + k
theorem reg_let (k : Nat) (h : k < 52) : letB (reg k) = true := by
  unfold reg letB lowB uppB
  split <;> simp <;> omega
theorem let_reg {v : Int} (h : letB v = true) : ∃ k, k < 52 ∧ reg k = v := by
  simp [letB, lowB, uppB] at h
  unfold reg
  rcases h with h | h
  · exact ⟨(v - 71).toNat, by omega, by rw [if_neg (by omega)]; omega⟩
  · exact ⟨(v - 65).toNat, by omega, by rw [if_pos (by omega)]; omega⟩
def argB (v : Int) : Bool := v == 97 || v == 98 || v == 65 || v == 66
/-- may a register be read unset? -/
def Unset (c : Nat → Int) (n : Nat) : Prop := ∃ v, letB v = true ∧ argB v = false ∧ Want c n v 0
/-- e is the error of Check, but not ErrSecret -/
def FormedR (s : ByteArray) (e : Int) : Prop :=
  (256 < s.size ∧ e = 1) ∨ (s.size ≤ 256 ∧ progB (B s) s.size 0 = false ∧ e = 3) ∨ (s.size ≤ 256 ∧ progB (B s) s.size 0 = true ∧ Unset (B s) (s.size / 4) ∧ e = 4) ∨ (s.size ≤ 256 ∧ progB (B s) s.size 0 = true ∧ ¬ Unset (B s) (s.size / 4) ∧ e = 0)
theorem FormedR.eq {s : ByteArray} {e f : Int} (h : FormedR s e) (k : FormedR s f) : e = f := by
  rcases h with ⟨a, h⟩ | ⟨a, b, h⟩ | ⟨a, b, c, h⟩ | ⟨a, b, c, h⟩ <;> rcases k with ⟨a', k⟩ | ⟨a', b', k⟩ | ⟨a', b', c', k⟩ | ⟨a', b', c', k⟩ <;> first | exact absurd c' c | exact absurd c c' | (rw [h, k]; done) | omega | (rw [b] at b'; cases b')
theorem FormedR.zero {s : ByteArray} (h : FormedR s 0) : s.size ≤ 256 ∧ progB (B s) s.size 0 = true ∧ ¬ Unset (B s) (s.size / 4) := by
  rcases h with ⟨_, h⟩ | ⟨_, _, h⟩ | ⟨_, _, _, h⟩ | ⟨a, b, c, _⟩
  · omega
  · omega
  · omega
  · exact ⟨a, b, c⟩
def shwAt (c : Nat → Int) (i : Nat) : Bool := shwB (c (4 * i)) (c (4 * i + 1)) (c (4 * i + 2)) (c (4 * i + 3))
/-- what Check answers -/
def CheckR (s : ByteArray) (n e : Int) : Prop :=
  (e ≠ 0 ∧ FormedR s e ∧ n = 0) ∨ (FormedR s 0 ∧ (∃ i, i < s.size / 4 ∧ shwAt (B s) i = true) ∧ n = 0 ∧ e = 5) ∨ (FormedR s 0 ∧ (∀ i, i < s.size / 4 → shwAt (B s) i = false) ∧ n = (s.size / 4 : Nat) ∧ e = 0)
theorem CheckR.eq {s : ByteArray} {n e m f : Int} (h : CheckR s n e) (k : CheckR s m f) : n = m ∧ e = f := by
  rcases h with ⟨a, b, h⟩ | ⟨a, b, h, h'⟩ | ⟨a, b, h, h'⟩ <;> rcases k with ⟨a', b', k⟩ | ⟨a', b', k, k'⟩ | ⟨a', b', k, k'⟩
  · exact ⟨by rw [h, k], b.eq b'⟩
  · exact absurd (b.eq a') a
  · exact absurd (b.eq a') a
  · exact absurd (b'.eq a) a'
  · exact ⟨by rw [h, k], by rw [h', k']⟩
  · obtain ⟨i, hi, b⟩ := b
    rw [b' i hi] at b; cases b
  · exact absurd (b'.eq a) a'
  · obtain ⟨i, hi, b'⟩ := b'
    rw [b i hi] at b'; cases b'
  · exact ⟨by rw [h, k], by rw [h', k']⟩
end Go.Proofs.YtccndnckceagfabGreatDoorR.Sp

namespace Go.Proofs.YtccndnckceagfabGreatDoorR
open Go.RowKit

theorem hid {p : Prop} (h : p) : Hid p := h
def isT : Value → Bool
  | .bool true => true
  | _ => false
/-- how many of the n cells of block b do not hold true -/
def cntW (w : World) (b n : Nat) : Nat := Sp.cnt (fun j => match w.cell? ⟨b, j, none⟩ with | some v => isT v | none => false) n

theorem cntW_row {w : World} {b t n : Nat} {S : Nat → Bool} (h : w.rowIs b t n (fun j => .bool (S j))) : cntW w b n = Sp.cnt S n := by
  refine Sp.cnt_congr fun j hj => ?_
  rw [h.cell hj]
  cases S j <;> rfl

/-- what holds of the marks S at all times of the search from i -/
structure WInv (w wr : World) (s : ByteArray) (i : Nat) (v : Int) (S : Nat → Bool) : Prop where
  row : wr.rowIs w.heap.size 4 (s.size / 4) (fun j => .bool (S j))
  bel : Below w.heap.size w wr
  dom : ∀ j, S j = true → j < s.size / 4
  snd : ∀ j, S j = true → Sp.Want (Sp.B s) (s.size / 4) v j → Sp.Want (Sp.B s) (s.size / 4) v i
  at0 : S i = true

theorem WInv.mark {w wr : World} {s : ByteArray} {i : Nat} {v : Int} {S : Nat → Bool} (I : WInv w wr s i v S) {j : Nat} (hj : j < s.size / 4) (hw : Sp.Want (Sp.B s) (s.size / 4) v j → Sp.Want (Sp.B s) (s.size / 4) v i) :
    WInv w (wr.setCell ⟨w.heap.size, j, none⟩ (.bool true)) s i v (fun x => x == j || S x) :=
  ⟨(I.row.set j (.bool true)).congr (fun x _ => by by_cases e : x = j <;> simp [e]),
   I.bel.setCell (Nat.le_refl _) _,
   fun x hx => by
     by_cases e : x = j
     · omega
     · exact I.dom x (by simpa [e] using hx),
   fun x hx => by
     by_cases e : x = j
     · rw [e]; exact hw
     · exact I.snd x (by simpa [e] using hx),
   by simp [I.at0]⟩
theorem WInv.move {w wr wr' : World} {s : ByteArray} {i : Nat} {v : Int} {S : Nat → Bool} (I : WInv w wr s i v S) (hb : Below wr.heap.size wr wr') : WInv w wr' s i v S :=
  ⟨I.row.of_block (hb.block _ I.row.lt), I.bel.trans (hb.mono I.bel.size), I.dom, I.snd, I.at0⟩

theorem getD_mem {L : List Nat} {q : Nat} (h : q < L.length) : L.getD q 0 ∈ L := by
  rw [List.getD_eq_getElem?_getD, List.getElem?_eq_getElem h]
  exact List.getElem_mem h
theorem mem_getD {L : List Nat} {t : Nat} (h : t ∈ L) : ∃ q, q < L.length ∧ L.getD q 0 = t := by
  obtain ⟨q, hq, e⟩ := List.getElem_of_mem h
  exact ⟨q, hq, by rw [List.getD_eq_getElem?_getD, List.getElem?_eq_getElem hq]; exact e⟩
theorem info_bool : (Tryz.prog.info? 4).map (fun i => (i.zero, i.size, i.bytes)) = some (some (.bool false), 1, 1) := by kernel_rfl

end Go.Proofs.YtccndnckceagfabGreatDoorR

namespace Go.Proofs.YtccndnckceagfabGreatDoorR
open Go.RowKit

theorem regs_at (k : Nat) (hk : k < 52) : Sp.B ⟨#[65, 66, 67, 68, 69, 70, 71, 72, 73, 74, 75, 76, 77, 78, 79, 80, 81, 82, 83, 84, 85, 86, 87, 88, 89, 90, 97, 98, 99, 100, 101, 102, 103, 104, 105, 106, 107, 108, 109, 110, 111, 112, 113, 114, 115, 116, 117, 118, 119, 120, 121, 122]⟩ k = Sp.reg k := by
  have : ∀ k : Fin 52, Sp.B ⟨#[65, 66, 67, 68, 69, 70, 71, 72, 73, 74, 75, 76, 77, 78, 79, 80, 81, 82, 83, 84, 85, 86, 87, 88, 89, 90, 97, 98, 99, 100, 101, 102, 103, 104, 105, 106, 107, 108, 109, 110, 111, 112, 113, 114, 115, 116, 117, 118, 119, 120, 121, 122]⟩ k.val = Sp.reg k.val := by decide +kernel
  exact this ⟨k, hk⟩
theorem regs_index (k : Nat) (hk : k < 52) (W : World) : (Instr.index 9 (.string ⟨#[65, 66, 67, 68, 69, 70, 71, 72, 73, 74, 75, 76, 77, 78, 79, 80, 81, 82, 83, 84, 85, 86, 87, 88, 89, 90, 97, 98, 99, 100, 101, 102, 103, 104, 105, 106, 107, 108, 109, 110, 111, 112, 113, 114, 115, 116, 117, 118, 119, 120, 121, 122]⟩) (.int .i64 (k : Int))).run Tryz.prog W = .ok (.int .u8 (Sp.reg k)) W := by
  have hsz : (⟨#[65, 66, 67, 68, 69, 70, 71, 72, 73, 74, 75, 76, 77, 78, 79, 80, 81, 82, 83, 84, 85, 86, 87, 88, 89, 90, 97, 98, 99, 100, 101, 102, 103, 104, 105, 106, 107, 108, 109, 110, 111, 112, 113, 114, 115, 116, 117, 118, 119, 120, 121, 122]⟩ : ByteArray).size = 52 := rfl
  rw [run_index_string W 9 _ .i64 _ Tryz.underlying9, dif_pos (by rw [hsz]; omega)]
  have h2 := Sp.B_get ⟨#[65, 66, 67, 68, 69, 70, 71, 72, 73, 74, 75, 76, 77, 78, 79, 80, 81, 82, 83, 84, 85, 86, 87, 88, 89, 90, 97, 98, 99, 100, 101, 102, 103, 104, 105, 106, 107, 108, 109, 110, 111, 112, 113, 114, 115, 116, 117, 118, 119, 120, 121, 122]⟩ k (by rw [hsz]; exact hk)
  rw [regs_at k hk] at h2
  exact congrArg (fun z => Result.ok (Value.int .u8 z) W) h2

end Go.Proofs.YtccndnckceagfabGreatDoorR
