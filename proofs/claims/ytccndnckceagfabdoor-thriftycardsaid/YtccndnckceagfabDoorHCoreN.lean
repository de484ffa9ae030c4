/-
  The program's graph is the document's; the program's Core.
-/
import Derived.Test.YtccndnckceagfabDoorHCoreQ
namespace Go.Proofs.YtccndnckceagfabDoor
open Go.RowKit
namespace Sp
theorem putI_iff (G : Nat → Bool) (o : Nat) (r : Int) (j : Nat) : putI G o r j = true ↔ (G j = true ∨ (0 ≤ r ∧ j = o + r.toNat)) := by
  unfold putI
  by_cases h : 0 ≤ r
  · rw [if_pos h]
    show (if j = o + r.toNat then true else G j) = true ↔ _
    by_cases e : j = o + r.toNat
    · rw [if_pos e]; simp [e, h]
    · rw [if_neg e]; simp [e]
  · rw [if_neg h]; simp [h]
theorem maTo_iff (G : Nat → Bool) (r : Nat) (S : Nat → Bool) (j : Nat) : ∀ m, (maTo G r S m j = true ↔ (G j = true ∨ ∃ x, x < m ∧ x ≠ r ∧ S x = true ∧ (j = 52 + r * 52 + x ∨ j = 52 + x * 52 + r)))
  | 0 => by simp [maTo]
  | m + 1 => by
    have ih := maTo_iff G r S j m
    simp only [maTo]
    by_cases h : m ≠ r ∧ S m = true
    · rw [if_pos h, putI_iff, putI_iff, ih]
      constructor
      · rintro ((( g | ⟨x, h1, h2, h3, h4⟩) | ⟨_, e⟩) | ⟨_, e⟩)
        · exact Or.inl g
        · exact Or.inr ⟨x, by omega, h2, h3, h4⟩
        · exact Or.inr ⟨m, by omega, h.1, h.2, Or.inl (by rw [e, Int.toNat_natCast])⟩
        · exact Or.inr ⟨m, by omega, h.1, h.2, Or.inr (by rw [e, Int.toNat_natCast])⟩
      · rintro (g | ⟨x, h1, h2, h3, h4⟩)
        · exact Or.inl (Or.inl (Or.inl g))
        · by_cases e : x = m
          · subst e
            rcases h4 with e | e
            · exact Or.inl (Or.inr ⟨by omega, by rw [e, Int.toNat_natCast]⟩)
            · exact Or.inr ⟨by omega, by rw [e, Int.toNat_natCast]⟩
          · exact Or.inl (Or.inl (Or.inr ⟨x, by omega, h2, h3, h4⟩))
    · rw [if_neg h, ih]
      constructor
      · rintro (g | ⟨x, h1, h2⟩)
        · exact Or.inl g
        · exact Or.inr ⟨x, by omega, h2⟩
      · rintro (g | ⟨x, h1, h2, h3, h4⟩)
        · exact Or.inl g
        · by_cases e : x = m
          · subst e; exact absurd ⟨h2, h3⟩ h
          · exact Or.inr ⟨x, by omega, h2, h3, h4⟩
/-- r meets a register of S, the cell being j -/
def Cell (r : Nat) (S : Nat → Bool) (j : Nat) : Prop := ∃ x, x < 52 ∧ x ≠ r ∧ S x = true ∧ (j = 52 + r * 52 + x ∨ j = 52 + x * 52 + r)
theorem maG_iff (G : Nat → Bool) (r : Int) (S : Nat → Bool) (j : Nat) : maG G r S j = true ↔ (G j = true ∨ (0 ≤ r ∧ Cell r.toNat S j)) := by
  unfold maG
  by_cases h : 0 ≤ r
  · rw [if_pos h, maTo_iff]
    constructor
    · rintro (g | g)
      · exact Or.inl g
      · exact Or.inr ⟨h, g⟩
    · rintro (g | g)
      · exact Or.inl g
      · exact Or.inr g.2
  · rw [if_neg h]; simp [h]
theorem stG_iff (G : Nat → Bool) (i : Ins) (j : Nat) : stG G i j = true ↔ (G j = true ∨ ((j : Int) = i.d ∨ (j : Int) = i.x ∨ (j : Int) = i.y)) := by
  unfold stG
  rw [putI_iff, putI_iff, putI_iff]
  constructor
  · rintro (((g | ⟨h, e⟩) | ⟨h, e⟩) | ⟨h, e⟩)
    · exact Or.inl g
    · exact Or.inr (by omega)
    · exact Or.inr (by omega)
    · exact Or.inr (by omega)
  · rintro (g | g)
    · exact Or.inl (Or.inl (Or.inl g))
    · rcases g with e | e | e
      · exact Or.inl (Or.inl (Or.inr (by omega)))
      · exact Or.inl (Or.inr (by omega))
      · exact Or.inr (by omega)
theorem ofTo_iff (C : List Ins) (R : Nat → Nat → Bool) (n j : Nat) : ∀ m, (ofTo C R n m j = true ↔ ∃ i, i < m ∧ (((j : Int) = (C.getD i noIns).d ∨ (j : Int) = (C.getD i noIns).x ∨ (j : Int) = (C.getD i noIns).y) ∨ (i + 1 < n ∧ 0 ≤ (C.getD i noIns).d ∧ Cell (C.getD i noIns).d.toNat (R (i + 1)) j)))
  | 0 => by simp [ofTo]
  | m + 1 => by
    have ih := ofTo_iff C R n j m
    simp only [ofTo]
    have key : (if m + 1 < n then maG (stG (ofTo C R n m) (C.getD m noIns)) (C.getD m noIns).d (R (m + 1)) else stG (ofTo C R n m) (C.getD m noIns)) j = true ↔ (ofTo C R n m j = true ∨ (((j : Int) = (C.getD m noIns).d ∨ (j : Int) = (C.getD m noIns).x ∨ (j : Int) = (C.getD m noIns).y) ∨ (m + 1 < n ∧ 0 ≤ (C.getD m noIns).d ∧ Cell (C.getD m noIns).d.toNat (R (m + 1)) j))) := by
      by_cases h : m + 1 < n
      · rw [if_pos h, maG_iff, stG_iff]
        constructor
        · rintro ((g | g) | g)
          · exact Or.inl g
          · exact Or.inr (Or.inl g)
          · exact Or.inr (Or.inr ⟨h, g⟩)
        · rintro (g | g | g)
          · exact Or.inl (Or.inl g)
          · exact Or.inl (Or.inr g)
          · exact Or.inr g.2
      · rw [if_neg h, stG_iff]
        constructor
        · rintro (g | g)
          · exact Or.inl g
          · exact Or.inr (Or.inl g)
        · rintro (g | g | g)
          · exact Or.inl g
          · exact Or.inr g
          · exact absurd g.1 h
    rw [key, ih]
    constructor
    · rintro (⟨i, h1, h2⟩ | h2)
      · exact ⟨i, by omega, h2⟩
      · exact ⟨m, by omega, h2⟩
    · rintro ⟨i, h1, h2⟩
      by_cases e : i = m
      · subst e; exact Or.inr h2
      · exact Or.inl ⟨i, by omega, h2⟩
theorem ofZ_iff (G S : Nat → Bool) (j : Nat) : ∀ m, (ofZ G S m j = true ↔ (G j = true ∨ ∃ r, r < m ∧ S r = true ∧ Cell r S j))
  | 0 => by simp [ofZ]
  | m + 1 => by
    have ih := ofZ_iff G S j m
    simp only [ofZ]
    by_cases h : S m = true
    · rw [if_pos h, maG_iff, ih, Int.toNat_natCast]
      constructor
      · rintro ((g | ⟨r, h1, h2⟩) | g)
        · exact Or.inl g
        · exact Or.inr ⟨r, by omega, h2⟩
        · exact Or.inr ⟨m, by omega, h, g.2⟩
      · rintro (g | ⟨r, h1, h2, h3⟩)
        · exact Or.inl (Or.inl g)
        · by_cases e : r = m
          · subst e; exact Or.inr ⟨by omega, h3⟩
          · exact Or.inl (Or.inr ⟨r, by omega, h2, h3⟩)
    · rw [if_neg h, ih]
      constructor
      · rintro (g | ⟨r, h1, h2⟩)
        · exact Or.inl g
        · exact Or.inr ⟨r, by omega, h2⟩
      · rintro (g | ⟨r, h1, h2, h3⟩)
        · exact Or.inl g
        · by_cases e : r = m
          · subst e; exact absurd h2 h
          · exact Or.inr ⟨r, by omega, h2, h3⟩
theorem cell_lt {r : Nat} {S : Nat → Bool} {j : Nat} (h : Cell r S j) : 52 ≤ j := by
  obtain ⟨x, _, _, _, e | e⟩ := h <;> omega
theorem cell_at {r a b : Nat} (hr : r < 52) (ha : a < 52) (hb : b < 52) {S : Nat → Bool} : Cell r S (52 + a * 52 + b) ↔ (a ≠ b ∧ ((a = r ∧ S b = true) ∨ (b = r ∧ S a = true))) := by
  constructor
  · rintro ⟨x, h1, h2, h3, e | e⟩
    · have e1 : a = r ∧ b = x := by omega
      obtain ⟨rfl, rfl⟩ := e1
      exact ⟨fun e => h2 e.symm, Or.inl ⟨rfl, h3⟩⟩
    · have e1 : a = x ∧ b = r := by omega
      obtain ⟨rfl, rfl⟩ := e1
      exact ⟨h2, Or.inr ⟨rfl, h3⟩⟩
  · rintro ⟨hne, ⟨rfl, h⟩ | ⟨rfl, h⟩⟩
    · exact ⟨b, hb, fun e => hne e.symm, h, Or.inl rfl⟩
    · exact ⟨a, ha, hne, h, Or.inr rfl⟩
/-- what the program's graph says of a program -/
theorem graph_of {c : Nat → Int} {size : Nat} (h : progB c size 0 = true) {G : Nat → Bool} (hG : G = ofZ (ofTo (codeTo c (size / 4)) (rounds (codeTo c (size / 4)) (blksTo c (size / 4)) (blocksTo c (size / 4))) (size / 4) (size / 4)) (rounds (codeTo c (size / 4)) (blksTo c (size / 4)) (blocksTo c (size / 4)) 0) 52) :
    (∀ r, r < 52 → (G r = true ↔ Stands c (size / 4) (rv r))) ∧ (∀ a b, a < 52 → b < 52 → (G (52 + a * 52 + b) = true ↔ Meet c (size / 4) (rv a) (rv b))) := by
  obtain ⟨s1, s2, s3, s4⟩ := size_of_progB h
  have hpos := blocks_pos c (size / 4) (by omega) s4
  have hi : ∀ i, i < size / 4 → InsIs c i := fun i hn => insIs_of (dok_of_progB h i hn)
  have LE := fun r (hr : r < 52) k (hk : k < size / 4) => live_eq h hi (by omega) hr k hk
  have GD := good_of_progB h
  subst hG
  generalize hR : rounds (codeTo c (size / 4)) (blksTo c (size / 4)) (blocksTo c (size / 4)) = R at *
  generalize hn : size / 4 = n at *
  have CD : ∀ i, i < n → (codeTo c n).getD i noIns = insAt c i := fun i hin => code_at c n i hin
  refine ⟨fun r hr => ?_, fun a b ha hb => ?_⟩
  · rw [ofZ_iff, ofTo_iff]
    constructor
    · rintro (⟨i, h1, h2 | h2⟩ | ⟨x, _, _, hc⟩)
      · rw [CD i h1] at h2
        refine ⟨i, h1, ?_⟩
        rcases h2 with e | e | e
        · exact Or.inr (((hi i h1).wr r hr).2 e)
        · exact Or.inl (((hi i h1).rd r hr).2 (Or.inl e))
        · exact Or.inl (((hi i h1).rd r hr).2 (Or.inr e))
      · have := cell_lt h2.2.2; omega
      · have := cell_lt hc; omega
    · rintro ⟨i, h1, h2⟩
      refine Or.inl ⟨i, h1, Or.inl ?_⟩
      rw [CD i h1]
      rcases h2 with e | e
      · rcases ((hi i h1).rd r hr).1 e with e | e
        · exact Or.inr (Or.inl e)
        · exact Or.inr (Or.inr e)
      · exact Or.inl (((hi i h1).wr r hr).1 e)
  · have rvne : a ≠ b → rv a ≠ rv b := fun e e2 => e (by
      unfold rv at e2
      repeat' split at e2
      all_goals omega)
    have inner : ∀ i, i < n → ∀ r, r < 52 → wrAt c (rv r) i = true → i + 1 < n := fun i hin r hr hw => by
      by_cases e : i = n - 1
      · have := GD.last
        rw [← e] at this
        unfold wrAt wrB at hw
        simp only [Bool.and_eq_true, Bool.or_eq_true, beq_iff_eq] at hw
        simp only [endB, Bool.or_eq_true, beq_iff_eq] at this
        have := hw.1
        simp only [arithB, Bool.or_eq_true, beq_iff_eq] at this
        omega
      · omega
    rw [ofZ_iff, ofTo_iff]
    constructor
    · rintro (⟨i, h1, h2 | ⟨h2, h3, h4⟩⟩ | ⟨r, h1, h2, h3⟩)
      · rw [CD i h1] at h2
        have bd := (hi i h1).bd
        omega
      · rw [CD i h1] at h3 h4
        have bd := (hi i h1).bd
        obtain ⟨hne, h5⟩ := (cell_at (by omega) ha hb).1 h4
        refine ⟨rvne hne, Or.inr ⟨i, h1, ?_⟩⟩
        rcases h5 with ⟨e, h5⟩ | ⟨e, h5⟩
        · exact Or.inl ⟨((hi i h1).wr a ha).2 (by omega), (LE b hb (i + 1) h2).1 h5⟩
        · exact Or.inr ⟨((hi i h1).wr b hb).2 (by omega), (LE a ha (i + 1) h2).1 h5⟩
      · obtain ⟨hne, h5⟩ := (cell_at h1 ha hb).1 h3
        refine ⟨rvne hne, Or.inl ?_⟩
        rcases h5 with ⟨e, h5⟩ | ⟨e, h5⟩
        · subst e
          exact ⟨(LE a ha 0 (by omega)).1 h2, (LE b hb 0 (by omega)).1 h5⟩
        · subst e
          exact ⟨(LE a ha 0 (by omega)).1 h5, (LE b hb 0 (by omega)).1 h2⟩
    · rintro ⟨hne, ⟨w1, w2⟩ | ⟨i, h1, ⟨hw, hl⟩ | ⟨hw, hl⟩⟩⟩
      · have hab : a ≠ b := fun e => hne (by rw [e])
        exact Or.inr ⟨a, ha, (LE a ha 0 (by omega)).2 w1, (cell_at ha ha hb).2 ⟨hab, Or.inl ⟨rfl, (LE b hb 0 (by omega)).2 w2⟩⟩⟩
      · have hab : a ≠ b := fun e => hne (by rw [e])
        have h2 := inner i h1 a ha hw
        have ed := ((hi i h1).wr a ha).1 hw
        refine Or.inl ⟨i, h1, Or.inr ⟨h2, by rw [CD i h1]; omega, ?_⟩⟩
        rw [CD i h1, ← ed, Int.toNat_natCast]
        exact (cell_at ha ha hb).2 ⟨hab, Or.inl ⟨rfl, (LE b hb (i + 1) h2).2 hl⟩⟩
      · have hab : a ≠ b := fun e => hne (by rw [e])
        have h2 := inner i h1 b hb hw
        have ed := ((hi i h1).wr b hb).1 hw
        refine Or.inl ⟨i, h1, Or.inr ⟨h2, by rw [CD i h1]; omega, ?_⟩⟩
        rw [CD i h1, ← ed, Int.toNat_natCast]
        exact (cell_at hb ha hb).2 ⟨hab, Or.inr ⟨rfl, (LE a ha (i + 1) h2).2 hl⟩⟩
noncomputable def standsB (c : Nat → Int) (n : Nat) (k : Nat) : Bool := @decide (Stands c n (reg k)) (Classical.propDecidable _)
noncomputable def meetB (c : Nat → Int) (n : Nat) (k j : Nat) : Bool := @decide (Meet c n (reg k) (reg j)) (Classical.propDecidable _)
theorem standsB_iff (c : Nat → Int) (n k : Nat) : standsB c n k = true ↔ Stands c n (reg k) := by simp [standsB]
theorem meetB_iff (c : Nat → Int) (n k j : Nat) : meetB c n k j = true ↔ Meet c n (reg k) (reg j) := by simp [meetB]
/-- what Core answers -/
def CoreR (s : ByteArray) (c : Int) (t : ByteArray) (e : Int) : Prop :=
  (e ≠ 0 ∧ FormedR s e ∧ t = ⟨#[]⟩) ∨ (FormedR s 0 ∧ ¬ (1 ≤ c ∧ c ≤ 52) ∧ e = 2 ∧ t = ⟨#[]⟩) ∨ (FormedR s 0 ∧ (1 ≤ c ∧ c ≤ 52) ∧ e = 0 ∧ ∃ P, IsCore (standsB (B s) (s.size / 4)) (meetB (B s) (s.size / 4)) c P ∧ t = letT P 52)
theorem CoreR.det {s : ByteArray} {i : Int} {t t' : ByteArray} {e e' : Int} (h : CoreR s i t e) (k : CoreR s i t' e') : t = t' ∧ e = e' := by
  rcases h with ⟨a, b, c⟩ | ⟨a, b, c, d⟩ | ⟨a, b, c, P, d, g⟩ <;> rcases k with ⟨a', b', c'⟩ | ⟨a', b', c', d'⟩ | ⟨a', b', c', P', d', g'⟩
  · exact ⟨c.trans c'.symm, b.eq b'⟩
  · exact absurd (b.eq a') a
  · exact absurd (b.eq a') a
  · exact absurd (b'.eq a) a'
  · exact ⟨d.trans d'.symm, c.trans c'.symm⟩
  · exact absurd b' b
  · exact absurd (b'.eq a) a'
  · exact absurd b b'
  · exact ⟨by rw [g, g']; exact letT_congr 52 (fun k hk => d.eq d' k hk), c.trans c'.symm⟩
end Sp
def CorePost (s : ByteArray) (c : Int) (w : World) (e : Ending) (w' : World) : Prop :=
  ∃ t f, e = .returned (.tuple #[.string t, .int .i64 f]) ∧ Sp.CoreR s c t f ∧ Below w.heap.size w w'

set_option maxRecDepth 20000 in
set_option maxHeartbeats 2000000 in
theorem pcore_any (s : ByteArray) (c : Int) (w : World) (hs : s.size ≤ maxLen) (hA : ArgsAt w) :
    Calls Tryd.prog 11 #[.string s, .int .i64 c] w fun e w' => CorePost s c w e w' := by
  have HRS := hid (readSource_any s w hs hA)
  clear hA
  go_enter Tryd.func11, Tryd.ntmps11
  go_wp2_with fail
  refine HRS.out.mono ?_
  rintro e w2 ⟨vC, vB, f, rfl, hf, hsrc, hb2, ⟨aC, nC, cC, rfl⟩, ⟨aB, nB, cB, rfl⟩⟩
  have HF := hid hf
  have HSRC := hid hsrc
  have HB2 := hid hb2
  have hsz2 := hb2.size
  clear hf hsrc hb2 HRS
  have HB3 := hid (show Below w2.heap.size w2 (w2.alloc (.cells #[.slice aC nC cC, .slice aB nB cB] 41)) from (Below.refl _ _).alloc (Nat.le_refl _) _)
  have HBW3 := hid (HB2.out.trans (HB3.out.mono hsz2))
  have HRP := hid (row_two w2 (.slice aC nC cC) (.slice aB nB cB))
  have hsa : (w2.alloc (.cells #[.slice aC nC cC, .slice aB nB cB] 41)).heap.size = w2.heap.size + 1 := by simp
  by_cases h0 : f = 0
  · subst h0
    by_cases hc : 1 ≤ c ∧ c ≤ 52
    · obtain ⟨h1, h2⟩ := hc
      obtain ⟨z256, zp, _⟩ := HF.out.zero
      have hp4 := Sp.size_of_progB zp
      have HZP := hid zp
      clear zp
      have HOF : Hid (Calls Tryd.prog 24 #[.pointer (some ⟨w2.heap.size, 0, none⟩)] (w2.alloc (.cells #[.slice aC nC cC, .slice aB nB cB] 41)) fun e w' => e = .returned (.agg (grL (Sp.ofZ (Sp.ofTo (Sp.codeTo (Sp.B s) (s.size / 4)) (Sp.rounds (Sp.codeTo (Sp.B s) (s.size / 4)) (Sp.blksTo (Sp.B s) (s.size / 4)) (Sp.blocksTo (Sp.B s) (s.size / 4))) (s.size / 4) (s.size / 4)) (Sp.rounds (Sp.codeTo (Sp.B s) (s.size / 4)) (Sp.blksTo (Sp.B s) (s.size / 4)) (Sp.blocksTo (Sp.B s) (s.size / 4)) 0) 52)).toArray) ∧ Below (w2.heap.size + 1) (w2.alloc (.cells #[.slice aC nC cC, .slice aB nB cB] 41)) w') := by
        have h := of_any w2.heap.size (Sp.blocksTo (Sp.B s) (s.size / 4)) w.heap.size (Sp.codeTo (Sp.B s) (s.size / 4)) (Sp.blksTo (Sp.B s) (s.size / 4)) _ (((HSRC.out rfl).move HB3.out).prog HRP.out) (Sp.blksTo_len _ _) (by rw [Sp.codeTo_len]; omega) (by rw [Sp.codeTo_len]; omega) hp4.2.2.1 (Sp.blocks_pos _ _ (by omega) hp4.2.2.2) (fun i hi => by
          obtain ⟨j, hj, rfl⟩ := List.getElem_of_mem hi
          rw [Sp.codeTo_get]
          rw [Sp.codeTo_len] at hj
          exact (Sp.insIs_of (Sp.dok_of_progB HZP.out j hj)).bd)
        rw [Sp.codeTo_len, hsa] at h
        exact hid h
      obtain ⟨G, hG⟩ : ∃ G, G = Sp.ofZ (Sp.ofTo (Sp.codeTo (Sp.B s) (s.size / 4)) (Sp.rounds (Sp.codeTo (Sp.B s) (s.size / 4)) (Sp.blksTo (Sp.B s) (s.size / 4)) (Sp.blocksTo (Sp.B s) (s.size / 4))) (s.size / 4) (s.size / 4)) (Sp.rounds (Sp.codeTo (Sp.B s) (s.size / 4)) (Sp.blksTo (Sp.B s) (s.size / 4)) (Sp.blocksTo (Sp.B s) (s.size / 4)) 0) 52 := ⟨_, rfl⟩
      have HGR := hid (Sp.graph_of HZP.out hG)
      rw [← hG] at HOF
      clear hG
      go_upto_region 7 with (first | (go_at_call 24; refine HOF.out.mono ?_; rintro e w4 ⟨rfl, hb4⟩; have HB4 := hid (HBW3.out.trans (hb4.mono (by omega))); clear hb4) | (refine wpList_alloc_gr rfl rfl ?_; intro w5 hs5 hb5 hz5; have HS5 := hid hs5; have HB5 := hid hb5; clear hs5 hb5) | (refine wpList_store_gr rfl (.tmp 8) (.tmp 24) rfl w4.heap.size G (fun _ => false) (by rfl) (by rfl) HS5.out ?_; intro w6 hs6 ho6; have HS6 := hid hs6; have HO6 := hid ho6; clear hs6 ho6))
      have hs4 := HB4.out.size
      have HB6 := hid ((HB4.out.trans (HB5.out.mono hs4)).trans (HO6.out.below hs4))
      have hs6 : w6.heap.size = w4.heap.size + 1 := by rw [HO6.out.size, hz5]
      clear HS5 HB5 HO6 hz5 HB4 HOF
      generalize w4.heap.size = q at *
      have HGC := hid (gcore_any q G c w6 HS6.out)
      go_upto_region 8 with (first | (go_at_call 25; refine HGC.out.mono ?_; rintro e w7 ⟨L, rfl, hcore, hb7⟩; have HCORE := hid hcore; have HB7 := hid (HB6.out.trans (hb7.mono (by omega))); clear hcore hb7) | (refine wpList_alloc_set rfl rfl ?_; intro w8 hs8 hb8 hz8; have HS8 := hid hs8; have HB8 := hid hb8; clear hs8 hb8) | (refine wpList_store_set rfl (.tmp 9) (.tmp 26) rfl w7.heap.size 0 L (fun _ => false) (by rfl) (by rfl) HS8.out ?_; intro w9 hs9 hs9' ho9; have HS9 := hid hs9; have HO9 := hid ho9; clear hs9 hs9' ho9))
      have hs7 := HB7.out.size
      have HB9 := hid ((HB7.out.trans (HB8.out.mono hs7)).trans (HO9.out.below hs7))
      have HTX := hid (text_any w7.heap.size 0 L w9 HS9.out)
      clear HS8 HB8 HO9 hz8
      generalize w7.heap.size = q2 at *
      go_wp2_with (go_at_call 26; refine HTX.out.mono ?_; rintro e w10 ⟨rfl, hb10⟩; have HB10 := hid (HB9.out.trans (hb10.mono HB9.out.size)); clear hb10)
      go_ret2
      refine ⟨_, 0, rfl, Or.inr (Or.inr ⟨HF.out, ⟨h1, h2⟩, rfl, fun k => L (Sp.ord k), ?_, rfl⟩), HB10.out⟩
      obtain ⟨g1, g2⟩ := HGR.out
      refine (Sp.core_ord HCORE.out).congr (fun k hk => ?_) (fun k j hk hj => ?_)
      · rw [Bool.eq_iff_iff, Sp.standsB_iff, ← Sp.rv_ord k hk]
        exact g1 _ (Sp.ord_lt k)
      · rw [Bool.eq_iff_iff, Sp.meetB_iff, ← Sp.rv_ord k hk, ← Sp.rv_ord j hj]
        exact g2 _ _ (Sp.ord_lt k) (Sp.ord_lt j)
    · by_cases h1 : c < 1
      · go_wp2_with fail
        go_ret2
        exact ⟨_, 2, rfl, Or.inr (Or.inl ⟨HF.out, by omega, rfl, rfl⟩), HBW3.out⟩
      · have h2 : (52 : Int) < c := by omega
        go_wp2_with fail
        go_ret2
        exact ⟨_, 2, rfl, Or.inr (Or.inl ⟨HF.out, by omega, rfl, rfl⟩), HBW3.out⟩
  · have HF0 := hid h0
    go_wp2_with fail
    go_ret2
    exact ⟨_, f, rfl, Or.inl ⟨HF0.out, HF.out, rfl⟩, HBW3.out⟩
end Go.Proofs.YtccndnckceagfabDoor
