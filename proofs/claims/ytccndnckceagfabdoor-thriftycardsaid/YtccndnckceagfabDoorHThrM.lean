/-
  How many slots are taken, and cores with more colours: plain mathematics.
-/
import Derived.Test.YtccndnckceagfabDoorHCmp2
namespace Go.Proofs.YtccndnckceagfabDoor
open Go.RowKit
namespace Sp
/-- the letters of a set rise -/
theorem letT_rise (P : Nat → Bool) (n : Nat) (hn : n ≤ 52) : (∀ j, j < (letT P n).size → ∃ k, k < n ∧ P k = true ∧ B (letT P n) j = reg k) ∧ ∀ i j, i < j → j < (letT P n).size → B (letT P n) i < B (letT P n) j := by
  induction n with
  | zero => exact ⟨fun j h => absurd h (Nat.not_lt_zero _), fun i j _ h => absurd h (Nat.not_lt_zero _)⟩
  | succ n ih =>
    obtain ⟨h1, h2⟩ := ih (by omega)
    by_cases hP : P n = true
    · have hs1 : (⟨#[UInt8.ofNat (reg n).toNat]⟩ : ByteArray).size = 1 := rfl
      have hsz : (letT P n ++ (⟨#[UInt8.ofNat (reg n).toNat]⟩ : ByteArray)).size = (letT P n).size + 1 := by rw [ByteArray.size_append, hs1]
      have old : ∀ j, j < (letT P n).size → B (letT P n ++ (⟨#[UInt8.ofNat (reg n).toNat]⟩ : ByteArray)) j = B (letT P n) j := fun j hj => by
        rw [← B_get _ j (by rw [hsz]; omega), ← B_get _ j hj, ByteArray.getElem_append_left hj]
      have new : B (letT P n ++ (⟨#[UInt8.ofNat (reg n).toNat]⟩ : ByteArray)) (letT P n).size = reg n := by
        rw [← B_get _ _ (by rw [hsz]; omega), ByteArray.getElem_append_right (Nat.le_refl _)]
        simp only [Nat.sub_self]
        exact reg_back n (by omega)
      rw [letT_yes hP, hsz]
      refine ⟨fun j hj => ?_, fun i j hij hj => ?_⟩
      · by_cases e : j < (letT P n).size
        · obtain ⟨k, a, b, c⟩ := h1 j e
          exact ⟨k, by omega, b, by rw [old j e]; exact c⟩
        · have ej : j = (letT P n).size := by omega
          rw [ej, new]
          exact ⟨n, by omega, hP, rfl⟩
      · by_cases e : j < (letT P n).size
        · rw [old j e, old i (by omega)]
          exact h2 i j hij e
        · have ej : j = (letT P n).size := by omega
          rw [ej, new, old i (by omega)]
          obtain ⟨k, a, _, c⟩ := h1 i (by omega)
          rw [c]
          unfold reg
          repeat' split
          all_goals omega
    · have hP' : P n = false := by simpa using hP
      rw [letT_no hP']
      exact ⟨fun j hj => by
        obtain ⟨k, a, b, c⟩ := h1 j hj
        exact ⟨k, by omega, b, c⟩, h2⟩
theorem letT_has (P : Nat → Bool) (n : Nat) : n ≤ 52 → ∀ k, k < n → P k = true → ∃ j, j < (letT P n).size ∧ B (letT P n) j = reg k := by
  induction n with
  | zero => intro _ k hk; omega
  | succ n ih =>
    intro hn k hk hPk
    by_cases hP : P n = true
    · have hs1 : (⟨#[UInt8.ofNat (reg n).toNat]⟩ : ByteArray).size = 1 := rfl
      have hsz : (letT P n ++ (⟨#[UInt8.ofNat (reg n).toNat]⟩ : ByteArray)).size = (letT P n).size + 1 := by rw [ByteArray.size_append, hs1]
      rw [letT_yes hP, hsz]
      by_cases e : k = n
      · subst e
        refine ⟨(letT P k).size, by omega, ?_⟩
        rw [← B_get _ _ (by rw [hsz]; omega), ByteArray.getElem_append_right (Nat.le_refl _)]
        simp only [Nat.sub_self]
        exact reg_back k (by omega)
      · obtain ⟨j, hj, ej⟩ := ih (by omega) k (by omega) hPk
        refine ⟨j, by omega, ?_⟩
        rw [← B_get _ j (by rw [hsz]; omega), ByteArray.getElem_append_left hj, B_get _ j hj]
        exact ej
    · have hP' : P n = false := by simpa using hP
      rw [letT_no hP']
      by_cases e : k = n
      · subst e; exact absurd hPk hP
      · exact ih (by omega) k (by omega) hPk

/-! ### Texts within texts -/
def Wth (a b : ByteArray) : Prop := ∀ i, i < a.size → ∃ j, j < b.size ∧ B a i = B b j
theorem letT_wth {P Q : Nat → Bool} (h : ∀ k, k < 52 → Q k = true → P k = true) : Wth (letT Q 52) (letT P 52) := by
  intro i hi
  obtain ⟨k, hk, hQ, e⟩ := (letT_rise Q 52 (Nat.le_refl _)).1 i hi
  obtain ⟨j, hj, e2⟩ := letT_has P 52 (Nat.le_refl _) k hk (h k hk hQ)
  exact ⟨j, hj, by rw [e, e2]⟩
theorem core_less {S : Nat → Bool} {M : Nat → Nat → Bool} {c : Int} {P Q : Nat → Bool} (hP : IsCore S M c P) (hQ : IsCore S M (c + 1) Q) : ∀ r, r < 52 → Q r = true → P r = true :=
  hP.all Q hQ.sub (fun r hr h => by have := hQ.dense r hr h; omega)
theorem coreR_less {s : ByteArray} {c : Int} (hc : 1 ≤ c ∧ c ≤ 51) {l m : ByteArray} {e f : Int} (h1 : CoreR s c l e) (h2 : CoreR s (c + 1) m f) : e = f ∧ Wth m l := by
  rcases h1 with ⟨a, b, d⟩ | ⟨_, b, _⟩ | ⟨a, _, d, P, g, t⟩
  · rcases h2 with ⟨a', b', d'⟩ | ⟨a', _⟩ | ⟨a', _⟩
    · exact ⟨b.eq b', by rw [d']; exact fun i hi => absurd hi (Nat.not_lt_zero _)⟩
    · exact absurd (b.eq a') a
    · exact absurd (b.eq a') a
  · exact absurd (by omega) b
  · rcases h2 with ⟨a', b', _⟩ | ⟨_, b', _⟩ | ⟨_, _, d', Q, g', t'⟩
    · exact absurd (b'.eq a) a'
    · exact absurd (by omega) b'
    · exact ⟨d.trans d'.symm, by rw [t, t']; exact letT_wth (core_less g g')⟩
/-! ### Counting -/
theorem nodup_count {P : Nat → Bool} : ∀ (L : List Nat), L.Nodup → (∀ r ∈ L, r < 52 ∧ P r = true) → ∀ Q : Nat → Bool, (∀ r ∈ L, Q r = true) → L.length ≤ cT Q 52
  | [], _, _, Q, _ => Nat.zero_le _
  | r :: L, hn, hL, Q, hQ => by
    rw [List.nodup_cons] at hn
    have hr := (hL r (by simp)).1
    have h1 := nodup_count L hn.2 (fun x hx => hL x (by simp [hx])) (fun x => Q x && x != r) (fun x hx => by
      have hne : x ≠ r := fun e => hn.1 (e ▸ hx)
      simp [hQ x (by simp [hx]), hne])
    have h2 := cT_lt (S := fun x => Q x && x != r) (T := Q) (n := 52) (j := r) (fun x _ hx => by
      simp only [Bool.and_eq_true] at hx
      exact hx.1) hr (by simp) (hQ r (by simp))
    rw [List.length_cons]
    omega
/-- letters, each once -/
structure Once (l : ByteArray) : Prop where
  dif : ∀ i j, i < j → j < l.size → B l i ≠ B l j
theorem once_count {l : ByteArray} (h : Once l) {P : Nat → Bool} (hP : ∀ i, i < l.size → ∃ r : Nat, r < 52 ∧ P r = true ∧ rgO (B l i) = r) : l.size ≤ cT P 52 := by
  have inj : ∀ a b : Int, ∀ r : Nat, rgO a = r → rgO b = r → a = b := by
    intro a b r ha hb
    unfold rgO lowB uppB at ha hb
    simp only [decide_eq_true_eq] at ha hb
    repeat' split at ha
    all_goals (repeat' split at hb)
    all_goals omega
  have hn : ((List.range l.size).map fun i => (rgO (B l i)).toNat).Nodup := by
    rw [List.nodup_iff_pairwise_ne, List.pairwise_map]
    refine List.Pairwise.imp_of_mem ?_ List.pairwise_lt_range
    intro i j hi hj hij e
    rw [List.mem_range] at hi hj
    obtain ⟨r, _, _, er⟩ := hP i hi
    obtain ⟨q, _, _, eq⟩ := hP j hj
    rw [er, eq, Int.toNat_natCast, Int.toNat_natCast] at e
    subst e
    exact h.dif i j hij hj (inj _ _ r er eq)
  have hm : ∀ r ∈ (List.range l.size).map (fun i => (rgO (B l i)).toNat), r < 52 ∧ P r = true := by
    intro r hr
    rw [List.mem_map] at hr
    obtain ⟨i, hi, rfl⟩ := hr
    obtain ⟨r, h1, h2, h3⟩ := hP i (List.mem_range.1 hi)
    rw [h3, Int.toNat_natCast]
    exact ⟨h1, h2⟩
  have := nodup_count _ hn hm P (fun r hr => (hm r hr).2)
  rw [List.length_map, List.length_range] at this
  exact this
/-! ### Which slots stand in what the compiler lays -/
section
variable {k : Int} {C : List Ins} {L : List (Nat × Nat)} {H : Int → Int} {lv : Nat → Int → Bool}
/-- slots are homes -/
def SlH (H : Int → Int) (i : Ins) : Prop := ∀ p : Int, 10 ≤ p → (i.o = 62 ∧ i.d = p ∨ i.o = 60 ∧ i.x = p ∨ i.o = 126 ∧ i.d = p) → ∃ r : Nat, r < 52 ∧ H r = p
theorem mvL_sl {to frm : Int} (ht : 10 ≤ to → ∃ r : Nat, r < 52 ∧ H r = to) (hf : 10 ≤ frm → ∃ r : Nat, r < 52 ∧ H r = frm) : ∀ i ∈ mvL to frm, SlH H i := by
  intro i hi
  unfold mvL at hi
  split at hi
  · cases hi
  · rw [List.mem_singleton] at hi
    subst hi
    intro p hp h
    rcases h with ⟨_, h⟩ | ⟨_, h⟩ | ⟨_, h⟩
    · subst h; exact ht hp
    · subst h; exact hf hp
    · subst h; exact ht hp
theorem low_sl {p : Int} (h : p < 10) : 10 ≤ p → ∃ r : Nat, r < 52 ∧ H r = p := fun h' => by omega
theorem home_sl {r : Int} (h0 : 0 ≤ r) (h1 : r < 52) : 10 ≤ H r → ∃ q : Nat, q < 52 ∧ H q = H r := fun _ => ⟨r.toNat, by omega, by rw [Int.toNat_of_nonneg h0]⟩
theorem home_sl' (h : Homes k C L H lv) {r : Int} (hr : r = -1 ∨ (0 ≤ r ∧ r < 52 ∧ H r ≠ -1)) : 10 ≤ H r → ∃ q : Nat, q < 52 ∧ H q = H r := by
  rcases hr with e | e
  · rw [e, h.none]
    exact fun h' => by omega
  · exact home_sl e.1 e.2.1
theorem ftL_sl (h : Homes k C L H lv) {r other : Int} (hr : r = -1 ∨ (0 ≤ r ∧ r < 52 ∧ H r ≠ -1)) (ho : other < 10) : ∀ i ∈ ftL H r other, SlH H i := by
  intro i hi
  unfold ftL at hi
  split at hi
  · exact mvL_sl (low_sl ho) (home_sl' h hr) i hi
  · cases hi
theorem ftP_low (h : Homes k C L H lv) {r other : Int} (hr : 0 ≤ r ∧ r < 52 ∧ H r ≠ -1) (ho : Rg k other) : ftP H r other < 10 := by
  have := ftP_rg h hr ho
  have hk := h.k6
  unfold Rg at this
  omega
theorem brgL_sl (h : Homes k C L H lv) {p r : Int} (hp : Plc k p) (hps : 10 ≤ p → ∃ q : Nat, q < 52 ∧ H q = p) (hr : 0 ≤ r ∧ r < 52 ∧ H r ≠ -1) : ∀ i ∈ brgL H k p r, SlH H i := by
  intro i hi
  have hk := h.k6
  unfold brgL at hi
  split at hi
  · cases hi
  · rw [List.mem_append] at hi
    have hrc := rch_rg hk hp
    rcases hi with hi | hi
    · exact ftL_sl h (Or.inr hr) (by unfold Rg at hrc; omega) i hi
    · exact mvL_sl hps (low_sl (ftP_low h hr hrc)) i hi
theorem clr_sl (h : Homes k C L H lv) : ∀ i ∈ clrR k ++ clrS H, SlH H i := by
  intro i hi
  have hk := h.k6
  rw [List.mem_append] at hi
  rcases hi with hi | hi
  · unfold clrR at hi
    rw [List.mem_map] at hi
    obtain ⟨p, hp, rfl⟩ := hi
    rw [List.mem_range] at hp
    intro q hq hx
    rcases hx with ⟨ho, _⟩ | ⟨ho, _⟩ | ⟨_, hd⟩
    · exact absurd (show (126 : Int) = 62 from ho) (by decide)
    · exact absurd (show (126 : Int) = 60 from ho) (by decide)
    · have hd : ((p : Int) + 1) = q := hd
      omega
  · unfold clrS at hi
    rw [List.mem_map] at hi
    obtain ⟨r, hr, rfl⟩ := hi
    rw [List.mem_filter, List.mem_range] at hr
    intro q hq hx
    rcases hx with ⟨ho, _⟩ | ⟨ho, _⟩ | ⟨_, hd⟩
    · exact absurd (show (126 : Int) = 62 from ho) (by decide)
    · exact absurd (show (126 : Int) = 60 from ho) (by decide)
    · exact ⟨r, hr.1, hd⟩
theorem fol_sl (h : Homes k C L H lv) (hS : ∀ j (hj : j < C.length), InsS C[j]) (q : Nat) (hq : q < C.length) : ∀ i ∈ fol H k C[q], SlH H i := by
  obtain ⟨rd, rx, ry⟩ := h.regs hS q hq
  have hk := h.k6
  have hf := (hS q hq).f
  have hn := (hS q hq).no
  intro i hi
  unfold fol at hi
  by_cases h61 : C[q].o = 61
  · rw [if_pos h61] at hi
    obtain ⟨fd, fx, _⟩ := hf.two (Or.inl h61)
    unfold Rg at fd fx
    have hd : 0 ≤ C[q].d ∧ C[q].d < 52 ∧ H C[q].d ≠ -1 := by
      rcases rd with e | e
      · omega
      · exact e
    have hx : 0 ≤ C[q].x ∧ C[q].x < 52 ∧ H C[q].x ≠ -1 := by
      rcases rx with e | e
      · omega
      · exact e
    exact brgL_sl h (h.plc hd) (home_sl hd.1 hd.2.1) hx i hi
  rw [if_neg h61] at hi
  by_cases h114 : C[q].o = 114
  · rw [if_pos h114] at hi
    obtain ⟨_, fx, _⟩ := hf.ret h114
    unfold Rg at fx
    have hx : 0 ≤ C[q].x ∧ C[q].x < 52 ∧ H C[q].x ≠ -1 := by
      rcases rx with e | e
      · omega
      · exact e
    rw [List.mem_append] at hi
    rcases hi with hi | hi
    · unfold endM at hi
      rw [List.mem_append] at hi
      rcases hi with hi | hi
      · exact brgL_sl h (Or.inl (by unfold Rg; omega)) (low_sl (by omega)) hx i hi
      · exact clr_sl h i hi
    · rw [List.mem_singleton] at hi
      subst hi
      intro p hp hx
      rcases hx with ⟨ho, _⟩ | ⟨ho, _⟩ | ⟨ho, _⟩
      · exact absurd (show (114 : Int) = 62 from ho) (by decide)
      · exact absurd (show (114 : Int) = 60 from ho) (by decide)
      · exact absurd (show (114 : Int) = 126 from ho) (by decide)
  rw [if_neg h114] at hi
  unfold wrkL at hi
  rw [List.mem_append, List.mem_append, List.mem_cons] at hi
  rcases hi with (hi | hi) | hi | hi
  · exact ftL_sl h rx (by omega) i hi
  · exact ftL_sl h ry (by omega) i hi
  · subst hi
    intro p hp hx
    have e : (wrkI H k C[q]).o = C[q].o := rfl
    rw [e] at hx
    rcases hx with ⟨ho, _⟩ | ⟨ho, _⟩ | ⟨ho, _⟩
    · exact absurd ho hn.1
    · exact absurd ho hn.2.1
    · exact absurd ho hn.2.2
  · rcases rd with e | e
    · rw [e, h.none] at hi
      unfold mvL rch at hi
      rw [if_neg (show ¬ (10 : Int) ≤ -1 by omega), if_pos rfl] at hi
      cases hi
    · have hr := rch_rg hk (h.plc e)
      exact mvL_sl (home_sl e.1 e.2.1) (low_sl (by unfold Rg at hr; omega)) i hi
theorem cmp_sl (h : Homes k C L H lv) (hS : ∀ j (hj : j < C.length), InsS C[j]) : ∀ i ∈ cmpL H k (lv 0) C, SlH H i := by
  intro i hi
  have hbeg : ∀ n, n < 4 → ∀ i ∈ begA H (lv 0) n, SlH H i := by
    intro n hn i hi
    unfold begA at hi
    split at hi
    · rename_i hl
      have hr := h.lvr 0 _ hl
      exact mvL_sl (home_sl hr.1 hr.2.1) (low_sl (by omega)) i hi
    · cases hi
  unfold cmpL at hi
  rw [List.mem_append] at hi
  rcases hi with hi | hi
  · unfold begL at hi
    rw [List.mem_append, List.mem_append, List.mem_append] at hi
    rcases hi with hi | hi | hi | hi
    · exact hbeg 0 (by omega) i hi
    · exact hbeg 1 (by omega) i hi
    · exact hbeg 2 (by omega) i hi
    · exact hbeg 3 (by omega) i hi
  · rw [List.mem_flatMap] at hi
    obtain ⟨j, hj, hi⟩ := hi
    obtain ⟨q, hq, rfl⟩ := List.getElem_of_mem hj
    exact fol_sl h hS q hq i hi
end
/-- the byte v names a slot in instruction q of a text -/
def NmAt (c : Nat → Int) (v : Int) (q : Nat) : Prop := ((c (4 * q) = 62 ∨ c (4 * q) = 126) ∧ c (4 * q + 1) = v ∨ c (4 * q) = 60 ∧ c (4 * q + 2) = v)
/-- what named answers: letters, each once, each of a slot that is named -/
structure NmR (t l : ByteArray) : Prop where
  once : Once l
  nm : ∀ i, i < l.size → letB (B l i) = true ∧ ∃ q, 4 * q + 3 < t.size ∧ NmAt (B t) (B l i) q
theorem slO_ltr {v : Int} (h : letB v = true) : ∃ r : Nat, r < 52 ∧ rgO v = r ∧ slO v = 10 + r := by
  obtain ⟨r, hr, e⟩ := let_rv h
  have e1 : B alpha r = v := by
    rw [alpha_at r hr, ← e]
    unfold rv
    split <;> omega
  have e2 := alpha_yes r v hr e1
  exact ⟨r, hr, e2, by unfold slO; rw [e2, if_neg (by omega)]⟩
end Sp
theorem named_few {s t l : ByteArray} {k : Int} {H : Nat → Int} {K : Nat → Bool} (hk : 6 ≤ k ∧ k ≤ 10) (hp : Sp.progB (Sp.B s) s.size 0 = true) (hm : MadeOf s t k H K) (hl : Sp.NmR t l) : l.size ≤ Sp.cT K 52 := by
  refine Nat.le_trans (Sp.once_count hl.once (P := fun r => decide (10 ≤ H r)) (fun i hi => ?_)) hm.hs.few
  obtain ⟨hlet, q, hq, hnm⟩ := hl.nm i hi
  obtain ⟨r, hr, e1, e2⟩ := Sp.slO_ltr hlet
  have hS := fun j hj => Sp.form_S ((src_rd hp).form j hj)
  have hrd := Sp.rd_of k (by omega) t hm.md.prog
  have hqn : q < (Sp.codeK k (Sp.B t) (t.size / 4)).length := by rw [hrd.len]; omega
  have hform := hrd.form q hqn
  have hmem : (Sp.codeK k (Sp.B t) (t.size / 4))[q] ∈ Sp.cmpL (Sp.HX H) k (Sp.lvX (Sp.rounds (Sp.codeTo (Sp.B s) (s.size / 4)) (Sp.blksTo (Sp.B s) (s.size / 4)) (Sp.blocksTo (Sp.B s) (s.size / 4))) (Sp.codeTo (Sp.B s) (s.size / 4)).length 0) (Sp.codeTo (Sp.B s) (s.size / 4)) := by
    rw [← hm.md.code]
    exact List.getElem_mem hqn
  have hsl := Sp.cmp_sl hm.hs.hom hS _ hmem
  have eo := Sp.form_o hform
  have key : ((Sp.codeK k (Sp.B t) (t.size / 4))[q].o = 62 ∧ (Sp.codeK k (Sp.B t) (t.size / 4))[q].d = 10 + (r : Int) ∨ (Sp.codeK k (Sp.B t) (t.size / 4))[q].o = 60 ∧ (Sp.codeK k (Sp.B t) (t.size / 4))[q].x = 10 + (r : Int) ∨ (Sp.codeK k (Sp.B t) (t.size / 4))[q].o = 126 ∧ (Sp.codeK k (Sp.B t) (t.size / 4))[q].d = 10 + (r : Int)) := by
    unfold Sp.NmAt at hnm
    generalize (Sp.codeK k (Sp.B t) (t.size / 4))[q] = ins at *
    have hlr : ∀ v, Sp.letB v = true → Sp.regB v k = true → False := by
      intro v h1 h2
      unfold Sp.regB at h2
      rw [if_neg (by omega)] at h2
      simp [Sp.letB, Sp.lowB, Sp.uppB, Sp.digB] at h1 h2
      omega
    cases hform with
    | ar ho _ _ _ => have := Sp.arith_ops ho; omega
    | num ho _ _ _ => omega
    | two ho _ _ => omega
    | sto ho _ _ => omega
    | jmp ho _ => omega
    | cnd ho _ _ _ => omega
    | ret ho _ _ => omega
    | put _ ho ha hb =>
      refine Or.inl ⟨ho, ?_⟩
      rcases hnm with ⟨_, h⟩ | ⟨h, _⟩
      · show Sp.slO (Sp.B t (4 * q + 1)) = _
        rw [h]
        exact e2
      · omega
    | get _ ho ha hb =>
      refine Or.inr (Or.inl ⟨ho, ?_⟩)
      rcases hnm with ⟨h, _⟩ | ⟨_, h⟩
      · omega
      · show Sp.slO (Sp.B t (4 * q + 2)) = _
        rw [h]
        exact e2
    | clrS _ ho ha =>
      refine Or.inr (Or.inr ⟨ho, ?_⟩)
      rcases hnm with ⟨_, h⟩ | ⟨h, _⟩
      · show Sp.slO (Sp.B t (4 * q + 1)) = _
        rw [h]
        exact e2
      · omega
    | clrR _ ho ha =>
      exfalso
      rcases hnm with ⟨_, h⟩ | ⟨h, _⟩
      · rw [h] at ha
        exact hlr _ hlet ha
      · omega
  obtain ⟨r', hr', e3⟩ := hsl (10 + (r : Int)) (by omega) key
  have e4 : H r' = 10 + (r : Int) := by
    rw [Sp.HX_at H (by omega) (by omega), Int.toNat_natCast] at e3
    exact e3
  have e5 := hm.hs.hom.home r' (by omega) (by omega)
  rw [e3] at e5
  have hrr : r' = r := by omega
  subst hrr
  refine ⟨r', hr', ?_, e1⟩
  simp only [decide_eq_true_eq]
  omega
theorem core_size {s t : ByteArray} {k : Int} {H : Nat → Int} {K : Nat → Bool} (hk : 6 ≤ k ∧ k ≤ 10) (hf : Sp.FormedR s 0) (hm : MadeOf s t k H K) {h : ByteArray} {e : Int} (hc : Sp.CoreR s (k - 2) h e) : e = 0 ∧ h.size = Sp.cT K 52 := by
  rcases hc with ⟨a, b, _⟩ | ⟨_, b, _⟩ | ⟨_, _, d, P, g, t'⟩
  · exact absurd (b.eq hf) a
  · exact absurd (by omega) b
  · refine ⟨d, ?_⟩
    rw [t', Sp.letT_len, ← Sp.cT_ord K]
    exact Sp.cT_congr 52 (fun r hr => g.eq hm.hs.core r hr)
end Go.Proofs.YtccndnckceagfabDoor
