/-
  The program's liveness is the document's: plain mathematics.
-/
import Derived.Test.YtolhldbjfbkpiaaDoorRFix
namespace Go.Proofs.YtolhldbjfbkpiaaDoorR.Sp

/-- the letter of register r -/
def rv (r : Nat) : Int := if r < 26 then 97 + r else 39 + r
theorem rv_let (r : Nat) (h : r < 52) : letB (rv r) = true := by
  unfold rv letB lowB uppB
  split <;> simp <;> omega
theorem let_rv {v : Int} (h : letB v = true) : ∃ r, r < 52 ∧ rv r = v := by
  simp [letB, lowB, uppB] at h
  unfold rv
  rcases h with h | h
  · exact ⟨(v - 97).toNat, by omega, by rw [if_pos (by omega)]; omega⟩
  · exact ⟨(v - 39).toNat, by omega, by rw [if_neg (by omega)]; omega⟩
/-- a byte is register r's letter just if the program's number of it is r -/
theorem rg_rv (b : Int) (r : Nat) (_h : r < 52) (hb : letB b = true) : (b = rv r) ↔ ((r : Int) = rgO b) := by
  have hb' := hb
  simp [letB, lowB, uppB] at hb'
  simp only [rgO, lowB, uppB, decide_eq_true_eq, rv]
  repeat' split
  all_goals omega

structure InsIs (c : Nat → Int) (i : Nat) : Prop where
  rd : ∀ r, r < 52 → (rdAt c (rv r) i = true ↔ ((r : Int) = (insAt c i).x ∨ (r : Int) = (insAt c i).y))
  wr : ∀ r, r < 52 → (wrAt c (rv r) i = true ↔ (r : Int) = (insAt c i).d)
  km : (endB (c (4 * i)) = false → (insAt c i).k = -1 ∧ (insAt c i).m = -1) ∧ (c (4 * i) = 106 → (insAt c i).k = c (4 * i + 1) - 48 ∧ (insAt c i).m = -1) ∧ (c (4 * i) = 63 → (insAt c i).k = c (4 * i + 2) - 48 ∧ (insAt c i).m = c (4 * i + 3) - 48) ∧ (c (4 * i) = 114 → (insAt c i).k = -1 ∧ (insAt c i).m = -1)
  bd : (insAt c i).d < 52 ∧ (insAt c i).x < 52 ∧ (insAt c i).y < 52

theorem tkB_reg {p b : Int} (hp : p = 100 ∨ p = 120 ∨ p = 121) (h : tkB p b = true) : letB b = true := by
  rw [← rg_let]
  simpa [tkB, hp] using h
theorem tkB_dig {p b : Int} (hp : p = 110 ∨ p = 107 ∨ p = 109) (h : tkB p b = true) : digB b = true := by
  have h1 : ¬ (p = 100 ∨ p = 120 ∨ p = 121) := by omega
  rw [← dg_dig]
  simpa [tkB, hp, h1] using h
theorem dg_of {b : Int} (h : digB b = true) : dgO b = b - 48 := by unfold dgO; rw [if_pos h]
theorem insIs_of {c : Nat → Int} {i : Nat} (h : dokAt c i = true) : InsIs c i := by
  unfold dokAt dokB at h
  simp only [Bool.and_eq_true, decide_eq_true_eq] at h
  obtain ⟨hz, ⟨h0, h1⟩, h2⟩ := h
  rw [show 4 * i + 0 + 1 = 4 * i + 1 from rfl] at h0
  rw [show 4 * i + 1 + 1 = 4 * i + 2 from rfl] at h1
  rw [show 4 * i + 2 + 1 = 4 * i + 3 from rfl] at h2
  have e : insAt c i = tkI (tkI (tkI ⟨c (4 * i), -1, -1, -1, 0, -1, -1⟩ (B (dshp (c (4 * i))) 0) (c (4 * i + 1))) (B (dshp (c (4 * i))) 1) (c (4 * i + 2))) (B (dshp (c (4 * i))) 2) (c (4 * i + 3)) := rfl
  have gR := rgO_bd
  have base : ∀ (X : Ins), insAt c i = X → (∀ r, r < 52 → (rdAt c (rv r) i = true ↔ ((r : Int) = X.x ∨ (r : Int) = X.y))) → (∀ r, r < 52 → (wrAt c (rv r) i = true ↔ (r : Int) = X.d)) →
      ((endB (c (4 * i)) = false → X.k = -1 ∧ X.m = -1) ∧ (c (4 * i) = 106 → X.k = c (4 * i + 1) - 48 ∧ X.m = -1) ∧ (c (4 * i) = 63 → X.k = c (4 * i + 2) - 48 ∧ X.m = c (4 * i + 3) - 48) ∧ (c (4 * i) = 114 → X.k = -1 ∧ X.m = -1)) → (X.d < 52 ∧ X.x < 52 ∧ X.y < 52) → InsIs c i := by
    rintro X rfl a1 a2 a3 a4
    exact ⟨a1, a2, a3, a4⟩
  simp only [rdAt, wrAt] at base
  generalize c (4 * i) = o at *
  generalize c (4 * i + 1) = a at *
  generalize c (4 * i + 2) = b at *
  generalize c (4 * i + 3) = d at *
  by_cases g1 : arithB o = true
  · have s2 : dshp o = ⟨#[100, 120, 121]⟩ := by simp [dshp, g1]
    rw [s2] at h0 h1 h2 e
    have la := tkB_reg (p := 100) (by omega) h0
    have lb := tkB_reg (p := 120) (by omega) h1
    have ld := tkB_reg (p := 121) (by omega) h2
    have hne : o ≠ 106 ∧ o ≠ 63 ∧ o ≠ 114 := by
      refine ⟨?_, ?_, ?_⟩ <;> (rintro rfl; simp [arithB] at g1)
    refine base ⟨o, rgO a, rgO b, rgO d, 0, -1, -1⟩ e (fun r hr => ?_) (fun r hr => ?_) ⟨fun _ => ⟨rfl, rfl⟩, fun h => absurd h hne.1, fun h => absurd h hne.2.1, fun h => absurd h hne.2.2⟩ ⟨by have := gR a; show rgO a < 52; omega, by have := gR b; show rgO b < 52; omega, by have := gR d; show rgO d < 52; omega⟩
    · simp only [rdB, g1, if_true, Bool.or_eq_true, beq_iff_eq]
      rw [rg_rv b r hr lb, rg_rv d r hr ld]
    · simp only [wrB, g1, Bool.true_or, Bool.true_and, beq_iff_eq]
      exact rg_rv a r hr la
  rw [Bool.not_eq_true] at g1
  by_cases g2 : o = 35
  · subst g2
    have s2 : dshp 35 = ⟨#[100, 110, 110]⟩ := by simp [dshp, arithB]
    rw [s2] at h0 h1 h2 e
    have la := tkB_reg (p := 100) (by omega) h0
    refine base ⟨35, rgO a, -1, -1, (0 * 10 + dgO b) * 10 + dgO d, -1, -1⟩ e (fun r hr => ?_) (fun r hr => ?_) ⟨fun _ => ⟨rfl, rfl⟩, fun h => by omega, fun h => by omega, fun h => by omega⟩ ⟨by have := gR a; show rgO a < 52; omega, by show (-1 : Int) < 52; omega, by show (-1 : Int) < 52; omega⟩
    · simp [rdB, arithB]
    · simp only [wrB, arithB]
      simp
      exact rg_rv a r hr la
  by_cases g3 : o = 61 ∨ o = 108 ∨ o = 76
  · have s2 : dshp o = ⟨#[100, 120, 46]⟩ := by simp [dshp, g1, g2, g3]
    rw [s2] at h0 h1 h2 e
    have la := tkB_reg (p := 100) (by omega) h0
    have lb := tkB_reg (p := 120) (by omega) h1
    refine base ⟨o, rgO a, rgO b, -1, 0, -1, -1⟩ e (fun r hr => ?_) (fun r hr => ?_) ⟨fun _ => ⟨rfl, rfl⟩, fun h => by omega, fun h => by omega, fun h => by omega⟩ ⟨by have := gR a; show rgO a < 52; omega, by have := gR b; show rgO b < 52; omega, by show (-1 : Int) < 52; omega⟩
    · simp only [rdB, g1, Bool.false_eq_true, if_false, if_pos g3, beq_iff_eq]
      rw [rg_rv b r hr lb]
      show _ ↔ ((r : Int) = rgO b ∨ (r : Int) = -1)
      omega
    · have w : wrB o a (rv r) = (a == rv r) := by
        rcases g3 with rfl | rfl | rfl <;> simp [wrB, arithB]
      rw [w, beq_iff_eq]
      exact rg_rv a r hr la
  by_cases g4 : o = 115 ∨ o = 83
  · have s2 : dshp o = ⟨#[120, 121, 46]⟩ := by simp [dshp, g1, g2, g3, g4]
    rw [s2] at h0 h1 h2 e
    have la := tkB_reg (p := 120) (by omega) h0
    have lb := tkB_reg (p := 121) (by omega) h1
    refine base ⟨o, -1, rgO a, rgO b, 0, -1, -1⟩ e (fun r hr => ?_) (fun r hr => ?_) ⟨fun _ => ⟨rfl, rfl⟩, fun h => by omega, fun h => by omega, fun h => by omega⟩ ⟨by show (-1 : Int) < 52; omega, by have := gR a; show rgO a < 52; omega, by have := gR b; show rgO b < 52; omega⟩
    · have w : rdB o a b d (rv r) = (a == rv r || b == rv r) := by
        rcases g4 with rfl | rfl <;> simp [rdB, arithB]
      rw [w, Bool.or_eq_true, beq_iff_eq, beq_iff_eq, rg_rv a r hr la, rg_rv b r hr lb]
    · have w : wrB o a (rv r) = false := by rcases g4 with rfl | rfl <;> simp [wrB, arithB]
      rw [w]
      show false = true ↔ (r : Int) = -1
      simp
  by_cases g5 : o = 106
  · subst g5
    have s2 : dshp 106 = ⟨#[107, 46, 46]⟩ := by simp [dshp, arithB]
    rw [s2] at h0 h1 h2 e
    have da := tkB_dig (p := 107) (by omega) h0
    refine base ⟨106, -1, -1, -1, 0, dgO a, -1⟩ e (fun r hr => ?_) (fun r hr => ?_) ⟨fun h => by simp [endB] at h, fun _ => ⟨dg_of da, rfl⟩, fun h => by omega, fun h => by omega⟩ ⟨by show (-1 : Int) < 52; omega, by show (-1 : Int) < 52; omega, by show (-1 : Int) < 52; omega⟩
    · simp [rdB, arithB]
    · simp [wrB, arithB]
  by_cases g6 : o = 63
  · subst g6
    have s2 : dshp 63 = ⟨#[120, 107, 109]⟩ := by simp [dshp, arithB]
    rw [s2] at h0 h1 h2 e
    have la := tkB_reg (p := 120) (by omega) h0
    have db := tkB_dig (p := 107) (by omega) h1
    have dd := tkB_dig (p := 109) (by omega) h2
    refine base ⟨63, -1, rgO a, -1, 0, dgO b, dgO d⟩ e (fun r hr => ?_) (fun r hr => ?_) ⟨fun h => by simp [endB] at h, fun h => by omega, fun _ => ⟨dg_of db, dg_of dd⟩, fun h => by omega⟩ ⟨by show (-1 : Int) < 52; omega, by have := gR a; show rgO a < 52; omega, by show (-1 : Int) < 52; omega⟩
    · have w : rdB 63 a b d (rv r) = (a == rv r) := by simp [rdB, arithB]
      rw [w, beq_iff_eq, rg_rv a r hr la]
      show _ ↔ ((r : Int) = rgO a ∨ (r : Int) = -1)
      omega
    · simp [wrB, arithB]
  by_cases g7 : o = 114
  · subst g7
    have s2 : dshp 114 = ⟨#[120, 46, 46]⟩ := by simp [dshp, arithB]
    rw [s2] at h0 h1 h2 e
    have la := tkB_reg (p := 120) (by omega) h0
    refine base ⟨114, -1, rgO a, -1, 0, -1, -1⟩ e (fun r hr => ?_) (fun r hr => ?_) ⟨fun h => by simp [endB] at h, fun h => by omega, fun h => by omega, fun _ => ⟨rfl, rfl⟩⟩ ⟨by show (-1 : Int) < 52; omega, by have := gR a; show rgO a < 52; omega, by show (-1 : Int) < 52; omega⟩
    · have w : rdB 114 a b d (rv r) = (a == rv r) := by simp [rdB, arithB]
      rw [w, beq_iff_eq, rg_rv a r hr la]
      show _ ↔ ((r : Int) = rgO a ∨ (r : Int) = -1)
      omega
    · simp [wrB, arithB]
  · have s2 : dshp o = ⟨#[]⟩ := by simp [dshp, g1, g2, g3, g4, g5, g6, g7]
    rw [s2] at hz
    cases hz

/-! ### The rounds, register by register -/
section
variable (c : Nat → Int) (n nb : Nat) (r : Nat)
def rdF (i : Nat) : Bool := rdAt c (rv r) i
def wrF (i : Nat) : Bool := wrAt c (rv r) i
def kF (i : Nat) : Int := (insAt c i).k
def mF (i : Nat) : Int := (insAt c i).m
end
theorem goB_eq {c : Nat → Int} {i : Nat} (h : InsIs c i) {r : Nat} (hr : r < 52) (S : Nat → Bool) : goB S (insAt c i) r = (rdF c r i || (!(wrF c r i) && S r)) := by
  unfold goB rdF wrF
  have h1 := h.rd r hr
  have h2 := h.wr r hr
  cases a : rdAt c (rv r) i
  · have n1 : ¬ ((r : Int) = (insAt c i).x ∨ (r : Int) = (insAt c i).y) := fun e => by rw [h1.2 e] at a; cases a
    rw [if_neg (fun e => n1 (Or.inr e)), if_neg (fun e => n1 (Or.inl e))]
    cases b : wrAt c (rv r) i
    · rw [if_neg (fun e => by rw [h2.2 e] at b; cases b)]; simp
    · rw [if_pos (h2.1 b)]; simp
  · rcases h1.1 a with e | e
    · by_cases e2 : (r : Int) = (insAt c i).y
      · rw [if_pos e2]; simp
      · rw [if_neg e2, if_pos e]; simp
    · rw [if_pos e]; simp
theorem bkTo_eq {c : Nat → Int} {n nb : Nat} (hi : ∀ i, i < n → InsIs c i) {r : Nat} (hr : r < 52) (F : Nat → Nat → Bool) (last : Nat) (hl : last < n) : ∀ j, bkTo (codeTo c n) nb F last j r = b1 (rdF c r) (wrF c r) (kF c) (mF c) nb (fun b => F b r) last j
  | 0 => rfl
  | j + 1 => by
    have e : (codeTo c n).getD (last - j) ⟨0, -1, -1, -1, 0, -1, -1⟩ = insAt c (last - j) := by
      have hlt : last - j < (codeTo c n).length := by rw [codeTo_len]; omega
      rw [List.getD_eq_getElem?_getD, List.getElem?_eq_getElem hlt]
      exact codeTo_get c n _ hlt
    simp only [bkTo, bk, b1]
    rw [e, goB_eq (hi _ (by omega)) hr]
    simp only [joinS]
    rw [bkTo_eq hi hr F last hl j]
    rfl
theorem sweep_eq {c : Nat → Int} {n nb : Nat} {L : List (Nat × Nat)} (hi : ∀ i, i < n → InsIs c i) (hL : ∀ b, b < nb → (L.getD b (0, 0)).2 < n) {r : Nat} (hr : r < 52) (F : Nat → Nat → Bool) : ∀ j k, k < nb → sweep (codeTo c n) L nb F j k r = s1 (rdF c r) (wrF c r) (kF c) (mF c) L nb (fun b => F b r) j k
  | 0, _, _ => rfl
  | j + 1, k, hk => by
    simp only [sweep, s1]
    by_cases e : k = nb - 1 - j
    · rw [if_pos e, if_pos e]
      unfold lsB l1
      rw [bkTo_eq hi hr _ _ (hL k hk)]
      exact b1_congr (fun b hb => sweep_eq hi hL hr F j b hb) _ _
    · rw [if_neg e, if_neg e]
      exact sweep_eq hi hL hr F j k hk
theorem rounds_eq {c : Nat → Int} {n nb : Nat} {L : List (Nat × Nat)} (hi : ∀ i, i < n → InsIs c i) (hL : ∀ b, b < nb → (L.getD b (0, 0)).2 < n) {r : Nat} (hr : r < 52) : ∀ t k, k < nb → rounds (codeTo c n) L nb t k r = r1 (rdF c r) (wrF c r) (kF c) (mF c) L nb t k
  | 0, _, _ => rfl
  | t + 1, k, hk => by
    simp only [rounds, r1]
    rw [sweep_eq hi hL hr _ nb k hk]
    have hc : ∀ b, b < nb → rounds (codeTo c n) L nb t b r = r1 (rdF c r) (wrF c r) (kF c) (mF c) L nb t b := fun b hb => rounds_eq hi hL hr t b hb
    rw [Bool.eq_iff_iff]
    exact ⟨s1_mono (fun b hb e => by rw [← hc b hb]; exact e) nb k hk, s1_mono (fun b hb e => by show rounds (codeTo c n) L nb t b r = true; rw [hc b hb]; exact e) nb k hk⟩

/-! ### Ways -/
/-- block b of the text, as the program has it -/
structure LIs (c : Nat → Int) (n nb : Nat) (L : List (Nat × Nat)) : Prop where
  blk : ∀ b, b < nb → ∃ la, L.getD b (0, 0) = (fst c n b, la) ∧ fst c n b ≤ la ∧ la < n ∧ endB (c (4 * la)) = true ∧ ∀ i, fst c n b ≤ i → i < la → endB (c (4 * i)) = false
theorem nextL_inner {c : Nat → Int} {n i : Nat} (h : endB (c (4 * i)) = false) : nextL c n i = [i + 1] := by
  simp [endB] at h
  simp [nextL, h]
/-- what the way back finds is wanted -/
theorem b1_sound {c : Nat → Int} {n nb : Nat} (G : Good c n) (hnb : nb = blocksTo c n) (hi : ∀ i, i < n → InsIs c i) {r : Nat} {f : Nat → Bool} (hf : ∀ b, b < nb → f b = true → Want c n (rv r) (fst c n b))
    {q la : Nat} (hq : q ≤ la) (hla : la < n) (he : endB (c (4 * la)) = true) (hin : ∀ i, q ≤ i → i < la → endB (c (4 * i)) = false) :
    ∀ j, j ≤ la - q → b1 (rdF c r) (wrF c r) (kF c) (mF c) nb f la (j + 1) = true → Want c n (rv r) (la - j)
  | j, hj, h => by
    have hlt : la - j < n := by omega
    simp only [b1, Bool.or_eq_true, Bool.and_eq_true] at h
    have jnw : ∀ b : Int, jn nb f b = true → 0 ≤ b ∧ b < nb ∧ Want c n (rv r) (fst c n b.toNat) := fun b hb => by
      simp only [jn, Bool.and_eq_true, decide_eq_true_eq] at hb
      exact ⟨hb.1.1, hb.1.2, hf _ (by omega) hb.2⟩
    rcases h with h | ⟨hw, (h | h) | h⟩
    · exact want_rd h
    · cases j with
      | zero => simp [b1] at h
      | succ j =>
        have ih := b1_sound G hnb hi hf hq hla he hin j (by omega) h
        have hw' : wrAt c (rv r) (la - (j + 1)) = false := by simpa [wrF] using hw
        refine want_step hw' (j := la - j) ?_ ih
        rw [nextL_inner (hin (la - (j + 1)) (by omega) (by omega))]
        simp
        omega
    · obtain ⟨a1, a2, a3⟩ := jnw _ h
      have km := (hi _ hlt).km
      have hw' : wrAt c (rv r) (la - j) = false := by simpa [wrF] using hw
      refine want_step hw' ?_ a3
      cases hee : endB (c (4 * (la - j)))
      · have := (km.1 hee).1
        simp only [kF] at a1
        omega
      · simp [endB] at hee
        rcases hee with (e | e) | e
        · have := (km.2.1 e).1
          simp [nextL, e, kF, this]
        · have := (km.2.2.1 e).1
          simp [nextL, e, kF, this]
        · have := (km.2.2.2 e).1
          simp only [kF] at a1
          omega
    · obtain ⟨a1, a2, a3⟩ := jnw _ h
      have km := (hi _ hlt).km
      have hw' : wrAt c (rv r) (la - j) = false := by simpa [wrF] using hw
      refine want_step hw' ?_ a3
      cases hee : endB (c (4 * (la - j)))
      · have := (km.1 hee).2
        simp only [mF] at a1
        omega
      · simp [endB] at hee
        rcases hee with (e | e) | e
        · have := (km.2.1 e).2
          simp only [mF] at a1
          omega
        · have := (km.2.2.1 e).2
          simp [nextL, e, mF, this]
        · have := (km.2.2.2 e).2
          simp only [mF] at a1
          omega
theorem l1_sound {c : Nat → Int} {n nb : Nat} {L : List (Nat × Nat)} (G : Good c n) (hnb : nb = blocksTo c n) (hi : ∀ i, i < n → InsIs c i) (hL : LIs c n nb L) {r : Nat} {f : Nat → Bool} (hf : ∀ b, b < nb → f b = true → Want c n (rv r) (fst c n b)) (b : Nat) (hb : b < nb)
    (h : l1 (rdF c r) (wrF c r) (kF c) (mF c) L nb f b = true) : Want c n (rv r) (fst c n b) := by
  obtain ⟨la, e, h1, h2, h3, h4⟩ := hL.blk b hb
  unfold l1 at h
  rw [e] at h
  have := b1_sound G hnb hi hf h1 h2 h3 h4 (la - fst c n b) (Nat.le_refl _) h
  rwa [show la - (la - fst c n b) = fst c n b from by omega] at this
theorem s1_sound {c : Nat → Int} {n nb : Nat} {L : List (Nat × Nat)} (G : Good c n) (hnb : nb = blocksTo c n) (hi : ∀ i, i < n → InsIs c i) (hL : LIs c n nb L) {r : Nat} {f : Nat → Bool} (hf : ∀ b, b < nb → f b = true → Want c n (rv r) (fst c n b)) :
    ∀ j b, b < nb → s1 (rdF c r) (wrF c r) (kF c) (mF c) L nb f j b = true → Want c n (rv r) (fst c n b)
  | 0, b, hb, h => hf b hb h
  | j + 1, b, hb, h => by
    simp only [s1] at h
    split at h
    · exact l1_sound G hnb hi hL (fun b' hb' => s1_sound G hnb hi hL hf j b' hb') b hb h
    · exact s1_sound G hnb hi hL hf j b hb h
theorem r1_sound {c : Nat → Int} {n nb : Nat} {L : List (Nat × Nat)} (G : Good c n) (hnb : nb = blocksTo c n) (hi : ∀ i, i < n → InsIs c i) (hL : LIs c n nb L) {r : Nat} : ∀ t b, b < nb → r1 (rdF c r) (wrF c r) (kF c) (mF c) L nb t b = true → Want c n (rv r) (fst c n b)
  | 0, _, _, h => by simp [r1] at h
  | t + 1, b, hb, h => s1_sound G hnb hi hL (fun b' hb' => r1_sound G hnb hi hL t b' hb') nb b hb h
/-- what is wanted is found, where a round turns nothing -/
theorem b1_full {c : Nat → Int} {n nb : Nat} {L : List (Nat × Nat)} (G : Good c n) (hnb : nb = blocksTo c n) (hi : ∀ i, i < n → InsIs c i) (hL : LIs c n nb L) {r : Nat} {f : Nat → Bool} (hf : ∀ b, b < nb → l1 (rdF c r) (wrF c r) (kF c) (mF c) L nb f b = f b) :
    ∀ m i b la, b < nb → L.getD b (0, 0) = (fst c n b, la) → fst c n b ≤ i → i ≤ la → la < n → (∀ i, fst c n b ≤ i → i < la → endB (c (4 * i)) = false) → wantN c n (rv r) m i = true → b1 (rdF c r) (wrF c r) (kF c) (mF c) nb f la (la - i + 1) = true := by
  intro m
  induction m with
  | zero =>
    intro i b la _ _ _ h2 _ _ h
    simp only [wantN] at h
    simp only [b1, show la - (la - i) = i from by omega, rdF, h, Bool.true_or]
  | succ m ih =>
    intro i b la hb e h1 h2 h3 h4 h
    simp only [wantN, Bool.or_eq_true, Bool.and_eq_true] at h
    rcases h with h | ⟨hw, ha⟩
    · simp only [b1, show la - (la - i) = i from by omega, rdF, h, Bool.true_or]
    · obtain ⟨j, hj, hjw⟩ := List.any_eq_true.1 ha
      have goal : (b1 (rdF c r) (wrF c r) (kF c) (mF c) nb f la (la - i) || jn nb f (kF c i) || jn nb f (mF c i)) = true → b1 (rdF c r) (wrF c r) (kF c) (mF c) nb f la (la - i + 1) = true := fun g => by
        simp only [b1, show la - (la - i) = i from by omega, g, Bool.and_true]
        simp only [wrF, hw, Bool.or_true]
      apply goal
      have tgt : ∀ b' : Nat, b' < nb → j = fst c n b' → f b' = true := fun b' hb' ej => by
        obtain ⟨la', e', g1, g2, g3, g4⟩ := hL.blk b' hb'
        have := ih (fst c n b') b' la' hb' e' (Nat.le_refl _) g1 g2 g4 (by rw [← ej]; exact hjw)
        rw [← hf b' hb']
        unfold l1
        rw [e']
        exact this
      by_cases hlt : i < la
      · rw [nextL_inner (h4 i h1 hlt)] at hj
        have ej : j = i + 1 := List.mem_singleton.1 hj
        subst ej
        have := ih (i + 1) b la hb e (by omega) (by omega) h3 h4 hjw
        rw [show la - (i + 1) + 1 = la - i from by omega] at this
        simp [this]
      · have hil : i < n := by omega
        have km := (hi i hil).km
        unfold nextL at hj
        by_cases e1 : c (4 * i) = 114
        · rw [if_pos e1] at hj; cases hj
        rw [if_neg e1] at hj
        by_cases e2 : c (4 * i) = 106
        · rw [if_pos e2] at hj
          have g := G.jmp i hil e2
          have k := (km.2.1 e2).1
          have ft := tgt (c (4 * i + 1) - 48).toNat (by omega) (List.mem_singleton.1 hj)
          have : jn nb f (kF c i) = true := by
            simp only [jn, kF, k, Bool.and_eq_true, decide_eq_true_eq]
            exact ⟨by omega, ft⟩
          simp [this]
        rw [if_neg e2] at hj
        by_cases e3 : c (4 * i) = 63
        · rw [if_pos e3] at hj
          have g := G.cnd i hil e3
          have k := km.2.2.1 e3
          rcases List.mem_cons.1 hj with ej | hj
          · have ft := tgt (c (4 * i + 2) - 48).toNat (by omega) ej
            have : jn nb f (kF c i) = true := by
              simp only [jn, kF, k.1, Bool.and_eq_true, decide_eq_true_eq]
              exact ⟨by omega, ft⟩
            simp [this]
          · have ft := tgt (c (4 * i + 3) - 48).toNat (by omega) (List.mem_singleton.1 hj)
            have : jn nb f (mF c i) = true := by
              simp only [jn, mF, k.2, Bool.and_eq_true, decide_eq_true_eq]
              exact ⟨by omega, ft⟩
            simp [this]
        · obtain ⟨la', e', _, _, g3, _⟩ := hL.blk b hb
          rw [e] at e'
          have el : la = la' := congrArg Prod.snd e'
          have : i = la := by omega
          rw [← el, ← this] at g3
          simp [endB, e1, e2, e3] at g3
/-- the program's answer for a block is the document's -/
theorem live_eq {c : Nat → Int} {n nb : Nat} {L : List (Nat × Nat)} (G : Good c n) (hnb : nb = blocksTo c n) (hi : ∀ i, i < n → InsIs c i) (hL : LIs c n nb L) {r : Nat} (hr : r < 52) (b : Nat) (hb : b < nb) :
    rounds (codeTo c n) L nb nb b r = true ↔ Want c n (rv r) (fst c n b) := by
  have hL2 : ∀ b, b < nb → (L.getD b (0, 0)).2 < n := fun b hb => by
    obtain ⟨la, e, _, h, _⟩ := hL.blk b hb
    rw [e]; exact h
  rw [rounds_eq hi hL2 hr nb b hb]
  refine ⟨r1_sound G hnb hi hL nb b hb, fun ⟨m, hm⟩ => ?_⟩
  have hf := fun k hk => l1_fix (rd := rdF c r) (wr := wrF c r) (K := kF c) (M := mF c) (L := L) (nb := nb) r1_fix k hk
  obtain ⟨la, e, g1, g2, g3, g4⟩ := hL.blk b hb
  have := b1_full G hnb hi hL hf m (fst c n b) b la hb e (Nat.le_refl _) g1 g2 g4 hm
  rw [← hf b hb]
  unfold l1
  rw [e]
  exact this
end Go.Proofs.YtolhldbjfbkpiaaDoorR.Sp
