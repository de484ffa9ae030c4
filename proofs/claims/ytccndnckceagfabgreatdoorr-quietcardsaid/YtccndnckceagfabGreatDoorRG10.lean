/-
  The program's graph is the document's; the program's Core.
  Which registers lie in which places, as the program holds it: a word of bits for each place. The smallest functions.
  One instruction of a machine beside one of a source program: contracts of the program's functions.
  A block of a machine program beside the block of a source program: contracts of the program's functions.
  A block of a machine program beside the block of a source program: the program's play.
-/
import Derived.Test.YtccndnckceagfabGreatDoorRHCoreQ
import Derived.Test.YtccndnckceagfabGreatDoorRHStart
import Derived.Laws.BitsAllLaws
import Derived.Deep.RegionHeld3
import Derived.BigQuiet
namespace Go.Proofs.YtccndnckceagfabGreatDoorR
open Go.RowKit
namespace Sp
theorem putI_iff (G : Nat → Bool) (o : Nat) (r : Int) (j : Nat) : putI G o r j = true ↔ (G j = true ∨ (0 ≤ r ∧ j = o + r.toNat)) := by
  unfold putI
  by_cases h : 0 ≤ r
  · rw [if_pos h]
    show (if j = o + r.toNat then true else G j) = true ↔ _
    by_cases e : j = o + r.toNat
    · rw [if_pos e]; simp [e, h]
    · rw [if_neg e]; simp [e]
  · rw [if_neg h]; simp [h]
theorem maTo_iff (G : Nat → Bool) (r : Nat) (S : Nat → Bool) (j : Nat) : ∀ m, (maTo G r S m j = true ↔ (G j = true ∨ ∃ x, x < m ∧ x ≠ r ∧ S x = true ∧ (j = 52 + r * 52 + x ∨ j = 52 + x * 52 + r)))
  | 0 => by simp [maTo]
  | m + 1 => by
    have ih := maTo_iff G r S j m
    simp only [maTo]
    by_cases h : m ≠ r ∧ S m = true
    · rw [if_pos h, putI_iff, putI_iff, ih]
      constructor
      · rintro ((( g | ⟨x, h1, h2, h3, h4⟩) | ⟨_, e⟩) | ⟨_, e⟩)
        · exact Or.inl g
        · exact Or.inr ⟨x, by omega, h2, h3, h4⟩
        · exact Or.inr ⟨m, by omega, h.1, h.2, Or.inl (by rw [e, Int.toNat_natCast])⟩
        · exact Or.inr ⟨m, by omega, h.1, h.2, Or.inr (by rw [e, Int.toNat_natCast])⟩
      · rintro (g | ⟨x, h1, h2, h3, h4⟩)
        · exact Or.inl (Or.inl (Or.inl g))
        · by_cases e : x = m
          · subst e
            rcases h4 with e | e
            · exact Or.inl (Or.inr ⟨by omega, by rw [e, Int.toNat_natCast]⟩)
            · exact Or.inr ⟨by omega, by rw [e, Int.toNat_natCast]⟩
          · exact Or.inl (Or.inl (Or.inr ⟨x, by omega, h2, h3, h4⟩))
    · rw [if_neg h, ih]
      constructor
      · rintro (g | ⟨x, h1, h2⟩)
        · exact Or.inl g
        · exact Or.inr ⟨x, by omega, h2⟩
      · rintro (g | ⟨x, h1, h2, h3, h4⟩)
        · exact Or.inl g
        · by_cases e : x = m
          · subst e; exact absurd ⟨h2, h3⟩ h
          · exact Or.inr ⟨x, by omega, h2, h3, h4⟩
/-- r meets a register of S, the cell being j -/
def Cell (r : Nat) (S : Nat → Bool) (j : Nat) : Prop := ∃ x, x < 52 ∧ x ≠ r ∧ S x = true ∧ (j = 52 + r * 52 + x ∨ j = 52 + x * 52 + r)
theorem maG_iff (G : Nat → Bool) (r : Int) (S : Nat → Bool) (j : Nat) : maG G r S j = true ↔ (G j = true ∨ (0 ≤ r ∧ Cell r.toNat S j)) := by
  unfold maG
  by_cases h : 0 ≤ r
  · rw [if_pos h, maTo_iff]
    constructor
    · rintro (g | g)
      · exact Or.inl g
      · exact Or.inr ⟨h, g⟩
    · rintro (g | g)
      · exact Or.inl g
      · exact Or.inr g.2
  · rw [if_neg h]; simp [h]
theorem stG_iff (G : Nat → Bool) (i : Ins) (j : Nat) : stG G i j = true ↔ (G j = true ∨ ((j : Int) = i.d ∨ (j : Int) = i.x ∨ (j : Int) = i.y)) := by
  unfold stG
  rw [putI_iff, putI_iff, putI_iff]
  constructor
  · rintro (((g | ⟨h, e⟩) | ⟨h, e⟩) | ⟨h, e⟩)
    · exact Or.inl g
    · exact Or.inr (by omega)
    · exact Or.inr (by omega)
    · exact Or.inr (by omega)
  · rintro (g | g)
    · exact Or.inl (Or.inl (Or.inl g))
    · rcases g with e | e | e
      · exact Or.inl (Or.inl (Or.inr (by omega)))
      · exact Or.inl (Or.inr (by omega))
      · exact Or.inr (by omega)
theorem ofTo_iff (C : List Ins) (R : Nat → Nat → Bool) (n j : Nat) : ∀ m, (ofTo C R n m j = true ↔ ∃ i, i < m ∧ (((j : Int) = (C.getD i noIns).d ∨ (j : Int) = (C.getD i noIns).x ∨ (j : Int) = (C.getD i noIns).y) ∨ (i + 1 < n ∧ 0 ≤ (C.getD i noIns).d ∧ Cell (C.getD i noIns).d.toNat (R (i + 1)) j)))
  | 0 => by simp [ofTo]
  | m + 1 => by
    have ih := ofTo_iff C R n j m
    simp only [ofTo]
    have key : (if m + 1 < n then maG (stG (ofTo C R n m) (C.getD m noIns)) (C.getD m noIns).d (R (m + 1)) else stG (ofTo C R n m) (C.getD m noIns)) j = true ↔ (ofTo C R n m j = true ∨ (((j : Int) = (C.getD m noIns).d ∨ (j : Int) = (C.getD m noIns).x ∨ (j : Int) = (C.getD m noIns).y) ∨ (m + 1 < n ∧ 0 ≤ (C.getD m noIns).d ∧ Cell (C.getD m noIns).d.toNat (R (m + 1)) j))) := by
      by_cases h : m + 1 < n
      · rw [if_pos h, maG_iff, stG_iff]
        constructor
        · rintro ((g | g) | g)
          · exact Or.inl g
          · exact Or.inr (Or.inl g)
          · exact Or.inr (Or.inr ⟨h, g⟩)
        · rintro (g | g | g)
          · exact Or.inl (Or.inl g)
          · exact Or.inl (Or.inr g)
          · exact Or.inr g.2
      · rw [if_neg h, stG_iff]
        constructor
        · rintro (g | g)
          · exact Or.inl g
          · exact Or.inr (Or.inl g)
        · rintro (g | g | g)
          · exact Or.inl g
          · exact Or.inr g
          · exact absurd g.1 h
    rw [key, ih]
    constructor
    · rintro (⟨i, h1, h2⟩ | h2)
      · exact ⟨i, by omega, h2⟩
      · exact ⟨m, by omega, h2⟩
    · rintro ⟨i, h1, h2⟩
      by_cases e : i = m
      · subst e; exact Or.inr h2
      · exact Or.inl ⟨i, by omega, h2⟩
theorem ofZ_iff (G S : Nat → Bool) (j : Nat) : ∀ m, (ofZ G S m j = true ↔ (G j = true ∨ ∃ r, r < m ∧ S r = true ∧ Cell r S j))
  | 0 => by simp [ofZ]
  | m + 1 => by
    have ih := ofZ_iff G S j m
    simp only [ofZ]
    by_cases h : S m = true
    · rw [if_pos h, maG_iff, ih, Int.toNat_natCast]
      constructor
      · rintro ((g | ⟨r, h1, h2⟩) | g)
        · exact Or.inl g
        · exact Or.inr ⟨r, by omega, h2⟩
        · exact Or.inr ⟨m, by omega, h, g.2⟩
      · rintro (g | ⟨r, h1, h2, h3⟩)
        · exact Or.inl (Or.inl g)
        · by_cases e : r = m
          · subst e; exact Or.inr ⟨by omega, h3⟩
          · exact Or.inl (Or.inr ⟨r, by omega, h2, h3⟩)
    · rw [if_neg h, ih]
      constructor
      · rintro (g | ⟨r, h1, h2⟩)
        · exact Or.inl g
        · exact Or.inr ⟨r, by omega, h2⟩
      · rintro (g | ⟨r, h1, h2, h3⟩)
        · exact Or.inl g
        · by_cases e : r = m
          · subst e; exact absurd h2 h
          · exact Or.inr ⟨r, by omega, h2, h3⟩
theorem cell_lt {r : Nat} {S : Nat → Bool} {j : Nat} (h : Cell r S j) : 52 ≤ j := by
  obtain ⟨x, _, _, _, e | e⟩ := h <;> omega
theorem cell_at {r a b : Nat} (hr : r < 52) (ha : a < 52) (hb : b < 52) {S : Nat → Bool} : Cell r S (52 + a * 52 + b) ↔ (a ≠ b ∧ ((a = r ∧ S b = true) ∨ (b = r ∧ S a = true))) := by
  constructor
  · rintro ⟨x, h1, h2, h3, e | e⟩
    · have e1 : a = r ∧ b = x := by omega
      obtain ⟨rfl, rfl⟩ := e1
      exact ⟨fun e => h2 e.symm, Or.inl ⟨rfl, h3⟩⟩
    · have e1 : a = x ∧ b = r := by omega
      obtain ⟨rfl, rfl⟩ := e1
      exact ⟨h2, Or.inr ⟨rfl, h3⟩⟩
  · rintro ⟨hne, ⟨rfl, h⟩ | ⟨rfl, h⟩⟩
    · exact ⟨b, hb, fun e => hne e.symm, h, Or.inl rfl⟩
    · exact ⟨a, ha, hne, h, Or.inr rfl⟩
/-- what the program's graph says of a program -/
theorem graph_of {c : Nat → Int} {size : Nat} (h : progB c size 0 = true) {G : Nat → Bool} (hG : G = ofZ (ofTo (codeTo c (size / 4)) (rounds (codeTo c (size / 4)) (blksTo c (size / 4)) (blocksTo c (size / 4))) (size / 4) (size / 4)) (rounds (codeTo c (size / 4)) (blksTo c (size / 4)) (blocksTo c (size / 4)) 0) 52) :
    (∀ r, r < 52 → (G r = true ↔ Stands c (size / 4) (rv r))) ∧ (∀ a b, a < 52 → b < 52 → (G (52 + a * 52 + b) = true ↔ Meet c (size / 4) (rv a) (rv b))) := by
  obtain ⟨s1, s2, s3, s4⟩ := size_of_progB h
  have hpos := blocks_pos c (size / 4) (by omega) s4
  have hi : ∀ i, i < size / 4 → InsIs c i := fun i hn => insIs_of (dok_of_progB h i hn)
  have LE := fun r (hr : r < 52) k (hk : k < size / 4) => live_eq h hi (by omega) hr k hk
  have GD := good_of_progB h
  subst hG
  generalize hR : rounds (codeTo c (size / 4)) (blksTo c (size / 4)) (blocksTo c (size / 4)) = R at *
  generalize hn : size / 4 = n at *
  have CD : ∀ i, i < n → (codeTo c n).getD i noIns = insAt c i := fun i hin => code_at c n i hin
  refine ⟨fun r hr => ?_, fun a b ha hb => ?_⟩
  · rw [ofZ_iff, ofTo_iff]
    constructor
    · rintro (⟨i, h1, h2 | h2⟩ | ⟨x, _, _, hc⟩)
      · rw [CD i h1] at h2
        refine ⟨i, h1, ?_⟩
        rcases h2 with e | e | e
        · exact Or.inr (((hi i h1).wr r hr).2 e)
        · exact Or.inl (((hi i h1).rd r hr).2 (Or.inl e))
        · exact Or.inl (((hi i h1).rd r hr).2 (Or.inr e))
      · have := cell_lt h2.2.2; omega
      · have := cell_lt hc; omega
    · rintro ⟨i, h1, h2⟩
      refine Or.inl ⟨i, h1, Or.inl ?_⟩
      rw [CD i h1]
      rcases h2 with e | e
      · rcases ((hi i h1).rd r hr).1 e with e | e
        · exact Or.inr (Or.inl e)
        · exact Or.inr (Or.inr e)
      · exact Or.inl (((hi i h1).wr r hr).1 e)
  · have rvne : a ≠ b → rv a ≠ rv b := fun e e2 => e (by
      unfold rv at e2
      repeat' split at e2
      all_goals omega)
    have inner : ∀ i, i < n → ∀ r, r < 52 → wrAt c (rv r) i = true → i + 1 < n := fun i hin r hr hw => by
      by_cases e : i = n - 1
      · have := GD.last
        rw [← e] at this
        unfold wrAt wrB at hw
        simp only [Bool.and_eq_true, Bool.or_eq_true, beq_iff_eq] at hw
        simp only [endB, Bool.or_eq_true, beq_iff_eq] at this
        have := hw.1
        simp only [arithB, Bool.or_eq_true, beq_iff_eq] at this
        omega
      · omega
    rw [ofZ_iff, ofTo_iff]
    constructor
    · rintro (⟨i, h1, h2 | ⟨h2, h3, h4⟩⟩ | ⟨r, h1, h2, h3⟩)
      · rw [CD i h1] at h2
        have bd := (hi i h1).bd
        omega
      · rw [CD i h1] at h3 h4
        have bd := (hi i h1).bd
        obtain ⟨hne, h5⟩ := (cell_at (by omega) ha hb).1 h4
        refine ⟨rvne hne, Or.inr ⟨i, h1, ?_⟩⟩
        rcases h5 with ⟨e, h5⟩ | ⟨e, h5⟩
        · exact Or.inl ⟨((hi i h1).wr a ha).2 (by omega), (LE b hb (i + 1) h2).1 h5⟩
        · exact Or.inr ⟨((hi i h1).wr b hb).2 (by omega), (LE a ha (i + 1) h2).1 h5⟩
      · obtain ⟨hne, h5⟩ := (cell_at h1 ha hb).1 h3
        refine ⟨rvne hne, Or.inl ?_⟩
        rcases h5 with ⟨e, h5⟩ | ⟨e, h5⟩
        · subst e
          exact ⟨(LE a ha 0 (by omega)).1 h2, (LE b hb 0 (by omega)).1 h5⟩
        · subst e
          exact ⟨(LE a ha 0 (by omega)).1 h5, (LE b hb 0 (by omega)).1 h2⟩
    · rintro ⟨hne, ⟨w1, w2⟩ | ⟨i, h1, ⟨hw, hl⟩ | ⟨hw, hl⟩⟩⟩
      · have hab : a ≠ b := fun e => hne (by rw [e])
        exact Or.inr ⟨a, ha, (LE a ha 0 (by omega)).2 w1, (cell_at ha ha hb).2 ⟨hab, Or.inl ⟨rfl, (LE b hb 0 (by omega)).2 w2⟩⟩⟩
      · have hab : a ≠ b := fun e => hne (by rw [e])
        have h2 := inner i h1 a ha hw
        have ed := ((hi i h1).wr a ha).1 hw
        refine Or.inl ⟨i, h1, Or.inr ⟨h2, by rw [CD i h1]; omega, ?_⟩⟩
        rw [CD i h1, ← ed, Int.toNat_natCast]
        exact (cell_at ha ha hb).2 ⟨hab, Or.inl ⟨rfl, (LE b hb (i + 1) h2).2 hl⟩⟩
      · have hab : a ≠ b := fun e => hne (by rw [e])
        have h2 := inner i h1 b hb hw
        have ed := ((hi i h1).wr b hb).1 hw
        refine Or.inl ⟨i, h1, Or.inr ⟨h2, by rw [CD i h1]; omega, ?_⟩⟩
        rw [CD i h1, ← ed, Int.toNat_natCast]
        exact (cell_at hb ha hb).2 ⟨hab, Or.inr ⟨rfl, (LE a ha (i + 1) h2).2 hl⟩⟩
noncomputable def standsB (c : Nat → Int) (n : Nat) (k : Nat) : Bool := @decide (Stands c n (reg k)) (Classical.propDecidable _)
noncomputable def meetB (c : Nat → Int) (n : Nat) (k j : Nat) : Bool := @decide (Meet c n (reg k) (reg j)) (Classical.propDecidable _)
theorem standsB_iff (c : Nat → Int) (n k : Nat) : standsB c n k = true ↔ Stands c n (reg k) := by simp [standsB]
theorem meetB_iff (c : Nat → Int) (n k j : Nat) : meetB c n k j = true ↔ Meet c n (reg k) (reg j) := by simp [meetB]
/-- what Core answers -/
def CoreR (s : ByteArray) (c : Int) (t : ByteArray) (e : Int) : Prop :=
  (e ≠ 0 ∧ FormedR s e ∧ t = ⟨#[]⟩) ∨ (FormedR s 0 ∧ ¬ (1 ≤ c ∧ c ≤ 52) ∧ e = 2 ∧ t = ⟨#[]⟩) ∨ (FormedR s 0 ∧ (1 ≤ c ∧ c ≤ 52) ∧ e = 0 ∧ ∃ P, IsCore (standsB (B s) (s.size / 4)) (meetB (B s) (s.size / 4)) c P ∧ t = letT P 52)
theorem CoreR.det {s : ByteArray} {i : Int} {t t' : ByteArray} {e e' : Int} (h : CoreR s i t e) (k : CoreR s i t' e') : t = t' ∧ e = e' := by
  rcases h with ⟨a, b, c⟩ | ⟨a, b, c, d⟩ | ⟨a, b, c, P, d, g⟩ <;> rcases k with ⟨a', b', c'⟩ | ⟨a', b', c', d'⟩ | ⟨a', b', c', P', d', g'⟩
  · exact ⟨c.trans c'.symm, b.eq b'⟩
  · exact absurd (b.eq a') a
  · exact absurd (b.eq a') a
  · exact absurd (b'.eq a) a'
  · exact ⟨d.trans d'.symm, c.trans c'.symm⟩
  · exact absurd b' b
  · exact absurd (b'.eq a) a'
  · exact absurd b b'
  · exact ⟨by rw [g, g']; exact letT_congr 52 (fun k hk => d.eq d' k hk), c.trans c'.symm⟩
end Sp
def CorePost (s : ByteArray) (c : Int) (w : World) (e : Ending) (w' : World) : Prop :=
  ∃ t f, e = .returned (.tuple #[.string t, .int .i64 f]) ∧ Sp.CoreR s c t f ∧ Below w.heap.size w w'

end Go.Proofs.YtccndnckceagfabGreatDoorR

namespace Go.Proofs.YtccndnckceagfabGreatDoorR.Sp

/-- the bit of a value: a register of a source program, or 52 for the number 0 -/
def bitN (v : Int) : Nat := if 0 ≤ v ∧ v ≤ 52 then 2 ^ v.toNat else 0
def isPl (p : Int) : Bool := decide (0 ≤ p) && decide (p < 62)
def hasP (E : Nat → Nat) (v p : Int) : Bool := isPl p && (E p.toNat &&& bitN v) != 0
def setP (E : Nat → Nat) (v p : Int) : Nat → Nat := if isPl p = true then fun x => if x = p.toNat then bitN v else E x else E
def copyPl (E : Nat → Nat) (to frm : Int) : Nat → Nat := if isPl to = true ∧ isPl frm = true then fun x => if x = to.toNat then E frm.toNat else E x else E
def loseP (E : Nat → Nat) (r : Int) : Nat → Nat := fun x => E x &&& (18446744073709551615 - bitN r)
def gainP (E : Nat → Nat) (d x : Int) : Nat → Nat := fun p => if hasP E x p = true then E p ||| bitN d else E p
def copyReg (E : Nat → Nat) (d x : Int) : Nat → Nat := if d = x then E else gainP (loseP E d) d x
def meetP (E F : Nat → Nat) : Nat → Nat := fun p => E p &&& F p
def clearedP (E : Nat → Nat) : Bool := (List.range 61).all fun p => hasP E 52 ((p : Int) + 1)

theorem bitN_lt (v : Int) : bitN v < 2 ^ 53 := by
  unfold bitN
  split
  · exact Nat.pow_lt_pow_right (by omega) (by omega)
  · exact Nat.two_pow_pos _
theorem and_lt (a b : Nat) (h : a < 2 ^ 53) : a &&& b < 2 ^ 53 := Nat.lt_of_le_of_lt Nat.and_le_left h
theorem or_lt (a b : Nat) (h : a < 2 ^ 53) (h' : b < 2 ^ 53) : a ||| b < 2 ^ 53 := Nat.or_lt_two_pow h h'
/-- all words small -/
def Small (E : Nat → Nat) : Prop := ∀ p, p < 62 → E p < 2 ^ 53
theorem setP_small {E : Nat → Nat} (h : Small E) (v p : Int) : Small (setP E v p) := by
  intro x hx
  unfold setP
  split
  · show (if x = p.toNat then bitN v else E x) < _
    split
    · exact bitN_lt v
    · exact h x hx
  · exact h x hx
theorem copyPl_small {E : Nat → Nat} (h : Small E) (t f : Int) : Small (copyPl E t f) := by
  intro x hx
  unfold copyPl
  split
  · rename_i hc
    have h2 : f.toNat < 62 := by
      have := hc.2; unfold isPl at this; simp only [Bool.and_eq_true, decide_eq_true_eq] at this; omega
    show (if x = t.toNat then E f.toNat else E x) < _
    split
    · exact h _ h2
    · exact h x hx
  · exact h x hx
theorem loseP_small {E : Nat → Nat} (h : Small E) (r : Int) : Small (loseP E r) := fun x hx => and_lt _ _ (h x hx)
theorem gainP_small {E : Nat → Nat} (h : Small E) (d x : Int) : Small (gainP E d x) := by
  intro p hp
  show (if hasP E x p = true then E p ||| bitN d else E p) < _
  split
  · exact or_lt _ _ (h p hp) (bitN_lt d)
  · exact h p hp
theorem copyReg_small {E : Nat → Nat} (h : Small E) (d x : Int) : Small (copyReg E d x) := by
  unfold copyReg
  split
  · exact h
  · exact gainP_small (loseP_small h d) d x
theorem meetP_small {E : Nat → Nat} (h : Small E) (F : Nat → Nat) : Small (meetP E F) := fun x hx => and_lt _ _ (h x hx)
end Go.Proofs.YtccndnckceagfabGreatDoorR.Sp

namespace Go.Proofs.YtccndnckceagfabGreatDoorR
open Go.RowKit

theorem Only.drawn {b : Nat} {w w' : World} (h : Only b w w') : Only b w w'.drew := ⟨h.os, h.tape, h.output, h.size, h.block⟩

theorem has_test (a v : Nat) (ha : a < 2 ^ 53) (hv : v < 2 ^ 53) : (bits .and .u64 (a : Int) (v : Int) != 0) = ((a &&& v) != 0) := by
  rw [u64_and (a : Int) (v : Int) (by omega) (by omega) (by omega) (by omega), Int.toNat_natCast, Int.toNat_natCast, Bool.eq_iff_iff]
  simp only [bne_iff_ne, ne_eq]
  omega

theorem lose_num (a v : Nat) (ha : a < 2 ^ 53) (hv : v < 2 ^ 53) : bits .andNot .u64 (a : Int) (v : Int) = ((a &&& (18446744073709551615 - v) : Nat) : Int) := by
  rw [u64_andNot (a : Int) (v : Int) (by omega) (by omega) (by omega) (by omega), Int.toNat_natCast, Int.toNat_natCast]
theorem or_num (a v : Nat) (ha : a < 2 ^ 53) (hv : v < 2 ^ 53) : bits .or .u64 (a : Int) (v : Int) = ((a ||| v : Nat) : Int) := by
  rw [u64_or (a : Int) (v : Int) (by omega) (by omega) (by omega) (by omega), Int.toNat_natCast, Int.toNat_natCast]
theorem and_num (a v : Nat) (ha : a < 2 ^ 53) (hv : v < 2 ^ 53) : bits .and .u64 (a : Int) (v : Int) = ((a &&& v : Nat) : Int) := by
  rw [u64_and (a : Int) (v : Int) (by omega) (by omega) (by omega) (by omega), Int.toNat_natCast, Int.toNat_natCast]
/-- the first m words changed -/
def upTo (E F : Nat → Nat) (m : Nat) : Nat → Nat := fun p => if p < m then F p else E p
theorem upTo_zero (E F : Nat → Nat) : upTo E F 0 = E := by funext p; simp [upTo]
theorem upTo_at (E F : Nat → Nat) (m : Nat) : upTo E F m m = E m := by simp [upTo]
theorem upTo_succ (E F : Nat → Nat) (m : Nat) : upTo E F (m + 1) = fun x => if x = m then F m else upTo E F m x := by
  funext p
  unfold upTo
  by_cases h : p = m
  · subst h; simp
  · rw [if_neg h]
    by_cases h2 : p < m
    · rw [if_pos h2, if_pos (by omega)]
    · rw [if_neg h2, if_neg (by omega)]

end Go.Proofs.YtccndnckceagfabGreatDoorR

namespace Go.Proofs.YtccndnckceagfabGreatDoorR.Sp

def isMv (o : Int) : Bool := o == 61 || o == 62 || o == 60 || o == 126
def moveP (E : Nat → Nat) (i : Ins) : Nat → Nat := if i.o = 126 then setP E 52 i.d else copyPl E i.d i.x
def mayRd (E : Nat → Nat) (r p : Int) : Bool := if r = -1 then p == -1 else hasP E r p
def sameOp (j i : Ins) : Bool := i.o == j.o && i.n == j.n && i.k == j.k && i.m == j.m
def wroteP (E : Nat → Nat) (j i : Ins) : Nat → Nat := if j.d = -1 then E else setP (loseP E j.d) j.d i.d
def followP (E : Nat → Nat) (j i : Ins) : Bool := sameOp j i && mayRd E j.x i.x && mayRd E j.y i.y && (i.o != 114 || clearedP (wroteP E j i))
theorem moveP_small {E : Nat → Nat} (h : Small E) (i : Ins) : Small (moveP E i) := by
  unfold moveP
  split
  · exact setP_small h _ _
  · exact copyPl_small h _ _
end Go.Proofs.YtccndnckceagfabGreatDoorR.Sp

namespace Go.Proofs.YtccndnckceagfabGreatDoorR
open Go.RowKit

theorem Only.toBut {b B : Nat} {w w' : World} (h : Only b w w') : But B b w w' := ⟨h.os, h.tape, h.output, by rw [h.size]; exact Nat.le_refl _, fun k _ hk => h.block k hk⟩
theorem But.weaken {B B' b : Nat} {w w' : World} (h : But B b w w') (hB : B' ≤ B) : But B' b w w' := ⟨h.os, h.tape, h.output, h.size, fun k hk hne => h.block k (by omega) hne⟩
theorem But.toDrew {B p : Nat} {u v : World} (h : But B p u v) : But B p u v.drew := ⟨h.os, h.tape, h.output, h.size, h.block⟩
end Go.Proofs.YtccndnckceagfabGreatDoorR

namespace Go.Proofs.YtccndnckceagfabGreatDoorR.Sp

/-- over the copies that stand next -/
def passP (C : List Ins) : Nat → (Nat → Nat) → Nat → (Nat → Nat) × Nat
  | 0, E, q => (E, q)
  | f + 1, E, q => if h : q < C.length then if C[q].o = 61 then passP C f (copyReg E C[q].d C[q].x) (q + 1) else (E, q) else (E, q)
theorem passP_end {C : List Ins} {q : Nat} (h : C.length ≤ q) (f : Nat) (E : Nat → Nat) : passP C f E q = (E, q) := by
  cases f with
  | zero => rfl
  | succ f => simp only [passP]; rw [dif_neg (by omega)]
theorem passP_le {C : List Ins} : ∀ (f : Nat) (E : Nat → Nat) (q : Nat), q ≤ C.length → (passP C f E q).2 ≤ C.length
  | 0, _, _, h => h
  | f + 1, E, q, h => by
    simp only [passP]
    split
    · split
      · exact passP_le f _ _ (by omega)
      · exact h
    · exact h
/-- a block of the machine beside one of the source: the pairs, and where the source stands -/
def playP (C D : List Ins) (last : Nat) : Nat → (Nat → Nat) → Nat → Nat → Option ((Nat → Nat) × Nat)
  | 0, E, q, _ => some (E, q)
  | f + 1, E, q, a =>
    if h : a ≤ last ∧ a < D.length then
      if isMv D[a].o = true then playP C D last f (moveP (passP C C.length E q).1 D[a]) (passP C C.length E q).2 (a + 1)
      else if hq : (passP C C.length E q).2 < C.length then
        if followP (passP C C.length E q).1 C[(passP C C.length E q).2] D[a] = true then playP C D last f (wroteP (passP C C.length E q).1 C[(passP C C.length E q).2] D[a]) ((passP C C.length E q).2 + 1) (a + 1) else none
      else none
    else some (E, q)
/-- is the source's block at its end? -/
def plyEnd (last : Nat) : Option ((Nat → Nat) × Nat) → Option (Nat → Nat)
  | none => none
  | some r => if r.2 = last + 1 then some r.1 else none
/-- the block b of both -/
def playB (C : List Ins) (L : List (Nat × Nat)) (D : List Ins) (M : List (Nat × Nat)) (E : Nat → Nat) (b : Nat) : Option (Nat → Nat) :=
  if h : b < L.length ∧ b < M.length then
    plyEnd L[b].2 (playP C D M[b].2 D.length E L[b].1 M[b].1)
  else none
end Go.Proofs.YtccndnckceagfabGreatDoorR.Sp

namespace Go.Proofs.YtccndnckceagfabGreatDoorR
open Go.RowKit

end Go.Proofs.YtccndnckceagfabGreatDoorR

namespace Go.Proofs.YtccndnckceagfabGreatDoorR
open Go.RowKit

/-- the cells of instruction j of a row at g -/
def InsCells (w : World) (g j : Nat) (i : Sp.Ins) : Prop :=
  w.cell? ⟨g, j * 7, none⟩ = some (.int .u8 i.o) ∧ w.cell? ⟨g, j * 7 + 1, none⟩ = some (.int .i64 i.d) ∧ w.cell? ⟨g, j * 7 + 2, none⟩ = some (.int .i64 i.x) ∧ w.cell? ⟨g, j * 7 + 3, none⟩ = some (.int .i64 i.y) ∧ w.cell? ⟨g, j * 7 + 4, none⟩ = some (.int .i64 i.n) ∧ w.cell? ⟨g, j * 7 + 5, none⟩ = some (.int .i64 i.k) ∧ w.cell? ⟨g, j * 7 + 6, none⟩ = some (.int .i64 i.m)

end Go.Proofs.YtccndnckceagfabGreatDoorR
