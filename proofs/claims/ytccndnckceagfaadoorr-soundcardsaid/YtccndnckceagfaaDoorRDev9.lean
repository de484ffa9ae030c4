/-
  The program's Check: what it answers.
-/
import Derived.Test.YtccndnckceagfaaDoorRFlow2
import Derived.Test.YtccndnckceagfaaDoorRLv
namespace Go.Proofs.YtccndnckceagfaaDoorR
open Go.RowKit

namespace Sp
theorem dok_of_progB {c : Nat → Int} {size : Nat} (h : progB c size 0 = true) : ∀ i, i < size / 4 → dokAt c i = true := fun i hi => by
  have := okIns_of_progB h i hi
  rw [okIns_eq, Bool.and_eq_true] at this
  exact this.1
theorem shw_eq {c : Nat → Int} {i : Nat} (h : dokAt c i = true) : showI (insAt c i) = shwAt c i := by
  unfold dokAt dokB at h
  simp only [Bool.and_eq_true, decide_eq_true_eq] at h
  obtain ⟨hz, ⟨h0, h1⟩, h2⟩ := h
  rw [show 4 * i + 0 + 1 = 4 * i + 1 from rfl] at h0
  rw [show 4 * i + 1 + 1 = 4 * i + 2 from rfl] at h1
  rw [show 4 * i + 2 + 1 = 4 * i + 3 from rfl] at h2
  have e : insAt c i = tkI (tkI (tkI ⟨c (4 * i), -1, -1, -1, 0, -1, -1⟩ (B (dshp (c (4 * i))) 0) (c (4 * i + 1))) (B (dshp (c (4 * i))) 1) (c (4 * i + 2))) (B (dshp (c (4 * i))) 2) (c (4 * i + 3)) := rfl
  unfold shwAt
  generalize c (4 * i) = o at *
  generalize c (4 * i + 1) = a at *
  generalize c (4 * i + 2) = b at *
  generalize c (4 * i + 3) = d at *
  have sec : ∀ x : Int, letB x = true → secB (rgO x) = uppB x ∧ (!(secB (rgO x))) = lowB x := fun x hx => by
    simp [letB, lowB, uppB] at hx
    have hr : (rgO x = x - 97 ∧ 97 ≤ x ∧ x ≤ 122) ∨ (rgO x = x - 65 + 26 ∧ 65 ≤ x ∧ x ≤ 90) := by
      simp only [rgO, lowB, uppB, decide_eq_true_eq]
      repeat' split
      all_goals omega
    rcases hr with ⟨hr, h1, h2⟩ | ⟨hr, h1, h2⟩
    · constructor
      · rw [hr, Bool.eq_iff_iff]; simp [secB, uppB]; omega
      · rw [hr, Bool.eq_iff_iff]; simp [secB, lowB]; omega
    · constructor
      · rw [hr, Bool.eq_iff_iff]; simp [secB, uppB]; omega
      · rw [hr, Bool.eq_iff_iff]; simp [secB, lowB]; omega
  have sm : secB (-1) = false := rfl
  by_cases g1 : arithB o = true
  · have s2 : dshp o = ⟨#[100, 120, 121]⟩ := by simp [dshp, g1]
    rw [s2] at h0 h1 h2 e
    have e' : insAt c i = ⟨o, rgO a, rgO b, rgO d, 0, -1, -1⟩ := e
    obtain ⟨_, a2⟩ := sec a (tkB_reg (p := 100) (by omega) h0)
    obtain ⟨b1, _⟩ := sec b (tkB_reg (p := 120) (by omega) h1)
    obtain ⟨d1, _⟩ := sec d (tkB_reg (p := 121) (by omega) h2)
    rw [e']
    simp only [showI, shwB, g1, true_or, if_true, a2, b1, d1]
  rw [Bool.not_eq_true] at g1
  by_cases g2 : o = 35
  · subst g2
    have s2 : dshp 35 = ⟨#[100, 116, 110]⟩ := by simp [dshp, arithB]
    rw [s2] at e
    have e' : insAt c i = ⟨35, rgO a, -1, -1, (0 * 10 + dgO b) * 10 + dgO d, -1, -1⟩ := e
    rw [e']
    simp [showI, shwB, arithB]
  by_cases g3 : o = 61 ∨ o = 108 ∨ o = 76
  · have s2 : dshp o = ⟨#[100, 120, 46]⟩ := by simp [dshp, g1, g2, g3]
    rw [s2] at h0 h1 h2 e
    have e' : insAt c i = ⟨o, rgO a, rgO b, -1, 0, -1, -1⟩ := e
    obtain ⟨_, a2⟩ := sec a (tkB_reg (p := 100) (by omega) h0)
    obtain ⟨b1, _⟩ := sec b (tkB_reg (p := 120) (by omega) h1)
    rw [e']
    rcases g3 with rfl | rfl | rfl <;> simp [showI, shwB, arithB, a2, b1, sm]
  by_cases g4 : o = 115 ∨ o = 83
  · have s2 : dshp o = ⟨#[120, 121, 46]⟩ := by simp [dshp, g1, g2, g3, g4]
    rw [s2] at h0 h1 h2 e
    have e' : insAt c i = ⟨o, -1, rgO a, rgO b, 0, -1, -1⟩ := e
    obtain ⟨a1, _⟩ := sec a (tkB_reg (p := 120) (by omega) h0)
    obtain ⟨b1, _⟩ := sec b (tkB_reg (p := 121) (by omega) h1)
    rw [e']
    rcases g4 with rfl | rfl <;> simp [showI, shwB, arithB, a1, b1]
  by_cases g5 : o = 106
  · subst g5
    have s2 : dshp 106 = ⟨#[107, 46, 46]⟩ := by simp [dshp, arithB]
    rw [s2] at e
    have e' : insAt c i = ⟨106, -1, -1, -1, 0, dgO a, -1⟩ := e
    rw [e']
    simp [showI, shwB, arithB]
  by_cases g6 : o = 63
  · subst g6
    have s2 : dshp 63 = ⟨#[120, 107, 109]⟩ := by simp [dshp, arithB]
    rw [s2] at h0 e
    have e' : insAt c i = ⟨63, -1, rgO a, -1, 0, dgO b, dgO d⟩ := e
    obtain ⟨a1, _⟩ := sec a (tkB_reg (p := 120) (by omega) h0)
    rw [e']
    simp [showI, shwB, arithB, a1]
  by_cases g7 : o = 114
  · subst g7
    have s2 : dshp 114 = ⟨#[120, 46, 46]⟩ := by simp [dshp, arithB]
    rw [s2] at e
    have e' : insAt c i = ⟨114, -1, rgO a, -1, 0, -1, -1⟩ := e
    rw [e']
    simp [showI, shwB, arithB]
  · have s2 : dshp o = ⟨#[]⟩ := by simp [dshp, g1, g2, g3, g4, g5, g6, g7]
    rw [s2] at hz
    cases hz
end Sp

theorem cut_iff (S : Nat → Bool) (x : Nat) (hx : x < 52) : cutTo S 4 x = true ↔ (Sp.argB (Sp.rv x) = false ∧ S x = true) := by
  have ha : Sp.argB (Sp.rv x) = true ↔ (x = 0 ∨ x = 1 ∨ x = 26 ∨ x = 27) := by
    simp only [Sp.argB, Sp.rv, Bool.or_eq_true, beq_iff_eq]
    split <;> omega
  have h3 : argR 3 = 27 := rfl
  have h2 : argR 2 = 26 := rfl
  have h1 : argR 1 = 1 := rfl
  have h0 : argR 0 = 0 := rfl
  simp only [cutTo, h0, h1, h2, h3]
  by_cases e : x = 0 ∨ x = 1 ∨ x = 26 ∨ x = 27
  · have := ha.2 e
    rw [this]
    constructor
    · intro h
      exfalso
      rcases e with rfl | rfl | rfl | rfl <;> simp at h
    · rintro ⟨h, _⟩; cases h
  · have hn : Sp.argB (Sp.rv x) = false := by
      cases h : Sp.argB (Sp.rv x)
      · rfl
      · exact absurd (ha.1 h) e
    rw [hn, if_neg (by omega), if_neg (by omega), if_neg (by omega), if_neg (by omega)]
    simp
theorem unset_iff {c : Nat → Int} {size : Nat} (h : Sp.progB c size 0 = true) :
    (∃ x, x < 52 ∧ cutTo (Sp.rounds (Sp.codeTo c (size / 4)) (Sp.blksTo c (size / 4)) (Sp.blocksTo c (size / 4)) 0) 4 x = true) ↔ Sp.Unset c (size / 4) := by
  obtain ⟨s1, s2, s3, s4⟩ := Sp.size_of_progB h
  have hpos := Sp.blocks_pos c (size / 4) (by omega) s4
  have hi : ∀ i, i < size / 4 → Sp.InsIs c i := fun i hi => Sp.insIs_of (Sp.dok_of_progB h i hi)
  have key : ∀ r, r < 52 → (Sp.rounds (Sp.codeTo c (size / 4)) (Sp.blksTo c (size / 4)) (Sp.blocksTo c (size / 4)) 0 r = true ↔ Sp.Want c (size / 4) (Sp.rv r) 0) := fun r hr => Sp.live_eq h hi (by omega) hr 0 (by omega)
  constructor
  · rintro ⟨x, hx, hc⟩
    obtain ⟨h1, h2⟩ := (cut_iff _ x hx).1 hc
    exact ⟨Sp.rv x, Sp.rv_let x hx, h1, (key x hx).1 h2⟩
  · rintro ⟨v, h1, h2, h3⟩
    obtain ⟨r, hr, rfl⟩ := Sp.let_rv h1
    exact ⟨r, hr, (cut_iff _ r hr).2 ⟨h2, (key r hr).2 h3⟩⟩
end Go.Proofs.YtccndnckceagfaaDoorR
