/-
  The program's Check: what it answers.
  A step of the document's own run of a machine program, whatever it is.
-/
import Derived.Test.YtccndnckceagfabDoorHFlow2
import Derived.Test.YtccndnckceagfabDoorHLv
import Derived.Test.YtccndnckceagfabDoorHPSim
namespace Go.Proofs.YtccndnckceagfabDoor
open Go.RowKit

namespace Sp
theorem dok_of_progB {c : Nat → Int} {size : Nat} (h : progB c size 0 = true) : ∀ i, i < size / 4 → dokAt c i = true := fun i hi => by
  have := okIns_of_progB h i hi
  rw [okIns_eq, Bool.and_eq_true] at this
  exact this.1
theorem shw_eq {c : Nat → Int} {i : Nat} (h : dokAt c i = true) : showI (insAt c i) = shwAt c i := by
  unfold dokAt dokB at h
  simp only [Bool.and_eq_true, decide_eq_true_eq] at h
  obtain ⟨hz, ⟨h0, h1⟩, h2⟩ := h
  rw [show 4 * i + 0 + 1 = 4 * i + 1 from rfl] at h0
  rw [show 4 * i + 1 + 1 = 4 * i + 2 from rfl] at h1
  rw [show 4 * i + 2 + 1 = 4 * i + 3 from rfl] at h2
  have e : insAt c i = tkI (tkI (tkI ⟨c (4 * i), -1, -1, -1, 0, -1, -1⟩ (B (dshp (c (4 * i))) 0) (c (4 * i + 1))) (B (dshp (c (4 * i))) 1) (c (4 * i + 2))) (B (dshp (c (4 * i))) 2) (c (4 * i + 3)) := rfl
  unfold shwAt
  generalize c (4 * i) = o at *
  generalize c (4 * i + 1) = a at *
  generalize c (4 * i + 2) = b at *
  generalize c (4 * i + 3) = d at *
  have sec : ∀ x : Int, letB x = true → secB (rgO x) = uppB x ∧ (!(secB (rgO x))) = lowB x := fun x hx => by
    simp [letB, lowB, uppB] at hx
    have hr : (rgO x = x - 97 ∧ 97 ≤ x ∧ x ≤ 122) ∨ (rgO x = x - 65 + 26 ∧ 65 ≤ x ∧ x ≤ 90) := by
      simp only [rgO, lowB, uppB, decide_eq_true_eq]
      repeat' split
      all_goals omega
    rcases hr with ⟨hr, h1, h2⟩ | ⟨hr, h1, h2⟩
    · constructor
      · rw [hr, Bool.eq_iff_iff]; simp [secB, uppB]; omega
      · rw [hr, Bool.eq_iff_iff]; simp [secB, lowB]; omega
    · constructor
      · rw [hr, Bool.eq_iff_iff]; simp [secB, uppB]; omega
      · rw [hr, Bool.eq_iff_iff]; simp [secB, lowB]; omega
  have sm : secB (-1) = false := rfl
  by_cases g1 : arithB o = true
  · have s2 : dshp o = ⟨#[100, 120, 121]⟩ := by simp [dshp, g1]
    rw [s2] at h0 h1 h2 e
    have e' : insAt c i = ⟨o, rgO a, rgO b, rgO d, 0, -1, -1⟩ := e
    obtain ⟨_, a2⟩ := sec a (tkB_reg (p := 100) (by omega) h0)
    obtain ⟨b1, _⟩ := sec b (tkB_reg (p := 120) (by omega) h1)
    obtain ⟨d1, _⟩ := sec d (tkB_reg (p := 121) (by omega) h2)
    rw [e']
    simp only [showI, shwB, g1, true_or, if_true, a2, b1, d1]
  rw [Bool.not_eq_true] at g1
  by_cases g2 : o = 35
  · subst g2
    have s2 : dshp 35 = ⟨#[100, 116, 110]⟩ := by simp [dshp, arithB]
    rw [s2] at e
    have e' : insAt c i = ⟨35, rgO a, -1, -1, (0 * 10 + dgO b) * 10 + dgO d, -1, -1⟩ := e
    rw [e']
    simp [showI, shwB, arithB]
  by_cases g3 : o = 61 ∨ o = 108 ∨ o = 76
  · have s2 : dshp o = ⟨#[100, 120, 46]⟩ := by simp [dshp, g1, g2, g3]
    rw [s2] at h0 h1 h2 e
    have e' : insAt c i = ⟨o, rgO a, rgO b, -1, 0, -1, -1⟩ := e
    obtain ⟨_, a2⟩ := sec a (tkB_reg (p := 100) (by omega) h0)
    obtain ⟨b1, _⟩ := sec b (tkB_reg (p := 120) (by omega) h1)
    rw [e']
    rcases g3 with rfl | rfl | rfl <;> simp [showI, shwB, arithB, a2, b1, sm]
  by_cases g4 : o = 115 ∨ o = 83
  · have s2 : dshp o = ⟨#[120, 121, 46]⟩ := by simp [dshp, g1, g2, g3, g4]
    rw [s2] at h0 h1 h2 e
    have e' : insAt c i = ⟨o, -1, rgO a, rgO b, 0, -1, -1⟩ := e
    obtain ⟨a1, _⟩ := sec a (tkB_reg (p := 120) (by omega) h0)
    obtain ⟨b1, _⟩ := sec b (tkB_reg (p := 121) (by omega) h1)
    rw [e']
    rcases g4 with rfl | rfl <;> simp [showI, shwB, arithB, a1, b1]
  by_cases g5 : o = 106
  · subst g5
    have s2 : dshp 106 = ⟨#[107, 46, 46]⟩ := by simp [dshp, arithB]
    rw [s2] at e
    have e' : insAt c i = ⟨106, -1, -1, -1, 0, dgO a, -1⟩ := e
    rw [e']
    simp [showI, shwB, arithB]
  by_cases g6 : o = 63
  · subst g6
    have s2 : dshp 63 = ⟨#[120, 107, 109]⟩ := by simp [dshp, arithB]
    rw [s2] at h0 e
    have e' : insAt c i = ⟨63, -1, rgO a, -1, 0, dgO b, dgO d⟩ := e
    obtain ⟨a1, _⟩ := sec a (tkB_reg (p := 120) (by omega) h0)
    rw [e']
    simp [showI, shwB, arithB, a1]
  by_cases g7 : o = 114
  · subst g7
    have s2 : dshp 114 = ⟨#[120, 46, 46]⟩ := by simp [dshp, arithB]
    rw [s2] at e
    have e' : insAt c i = ⟨114, -1, rgO a, -1, 0, -1, -1⟩ := e
    rw [e']
    simp [showI, shwB, arithB]
  · have s2 : dshp o = ⟨#[]⟩ := by simp [dshp, g1, g2, g3, g4, g5, g6, g7]
    rw [s2] at hz
    cases hz
end Sp

theorem cut_iff (S : Nat → Bool) (x : Nat) (hx : x < 52) : cutTo S 4 x = true ↔ (Sp.argB (Sp.rv x) = false ∧ S x = true) := by
  have ha : Sp.argB (Sp.rv x) = true ↔ (x = 0 ∨ x = 1 ∨ x = 26 ∨ x = 27) := by
    simp only [Sp.argB, Sp.rv, Bool.or_eq_true, beq_iff_eq]
    split <;> omega
  have h3 : argR 3 = 27 := rfl
  have h2 : argR 2 = 26 := rfl
  have h1 : argR 1 = 1 := rfl
  have h0 : argR 0 = 0 := rfl
  simp only [cutTo, h0, h1, h2, h3]
  by_cases e : x = 0 ∨ x = 1 ∨ x = 26 ∨ x = 27
  · have := ha.2 e
    rw [this]
    constructor
    · intro h
      exfalso
      rcases e with rfl | rfl | rfl | rfl <;> simp at h
    · rintro ⟨h, _⟩; cases h
  · have hn : Sp.argB (Sp.rv x) = false := by
      cases h : Sp.argB (Sp.rv x)
      · rfl
      · exact absurd (ha.1 h) e
    rw [hn, if_neg (by omega), if_neg (by omega), if_neg (by omega), if_neg (by omega)]
    simp
theorem unset_iff {c : Nat → Int} {size : Nat} (h : Sp.progB c size 0 = true) :
    (∃ x, x < 52 ∧ cutTo (Sp.rounds (Sp.codeTo c (size / 4)) (Sp.blksTo c (size / 4)) (Sp.blocksTo c (size / 4)) 0) 4 x = true) ↔ Sp.Unset c (size / 4) := by
  obtain ⟨s1, s2, s3, s4⟩ := Sp.size_of_progB h
  have hpos := Sp.blocks_pos c (size / 4) (by omega) s4
  have hi : ∀ i, i < size / 4 → Sp.InsIs c i := fun i hi => Sp.insIs_of (Sp.dok_of_progB h i hi)
  have key : ∀ r, r < 52 → (Sp.rounds (Sp.codeTo c (size / 4)) (Sp.blksTo c (size / 4)) (Sp.blocksTo c (size / 4)) 0 r = true ↔ Sp.Want c (size / 4) (Sp.rv r) 0) := fun r hr => Sp.live_eq h hi (by omega) hr 0 (by omega)
  constructor
  · rintro ⟨x, hx, hc⟩
    obtain ⟨h1, h2⟩ := (cut_iff _ x hx).1 hc
    exact ⟨Sp.rv x, Sp.rv_let x hx, h1, (key x hx).1 h2⟩
  · rintro ⟨v, h1, h2, h3⟩
    obtain ⟨r, hr, rfl⟩ := Sp.let_rv h1
    exact ⟨r, hr, (cut_iff _ r hr).2 ⟨h2, (key r hr).2 h3⟩⟩
end Go.Proofs.YtccndnckceagfabDoor

namespace Go.Proofs.YtccndnckceagfabDoor
open Go.RowKit

theorem two_str (t x : ByteArray) (o v : Int) (h : x = ⟨#[UInt8.ofNat o.toNat]⟩) : t ++ x ++ (⟨#[UInt8.ofNat v.toNat]⟩ : ByteArray) = t ++ ⟨#[UInt8.ofNat o.toNat, UInt8.ofNat v.toNat]⟩ := by
  subst h
  rw [ByteArray.append_assoc]
  rfl
theorem Sp.let_bd {a : Int} (h : Sp.letB a = true) : 0 ≤ a ∧ a < 128 := by
  simp [Sp.letB, Sp.lowB, Sp.uppB] at h
  omega
theorem Sp.reg_bd {k a : Int} (_hk : k ≤ 10) (h : Sp.regB a k = true) : 0 ≤ a ∧ a < 128 := by
  unfold Sp.regB at h
  split at h
  · exact Sp.let_bd h
  · simp only [Bool.and_eq_true, decide_eq_true_eq, Sp.digB] at h
    omega
theorem But.alloc {B p : Nat} {u v : World} (h : But B p u v) (hB : B ≤ v.heap.size) (X : Obj) : But B p u (v.alloc X) :=
  have hb := (Below.refl v.heap.size v).alloc (Nat.le_refl _) X
  ⟨hb.os.trans h.os, hb.tape.trans h.tape, hb.output.trans h.output, Nat.le_trans h.size hb.size, fun k hk hne => (hb.block k (by omega)).trans (h.block k hk hne)⟩

theorem Sp.insB_of {k : Int} (hk0 : 0 ≤ k) (hk : k ≤ 10) {s : ByteArray} (hp : Sp.progB (Sp.B s) s.size k = true) {i : Nat} (hin : i < s.size / 4) (hne : ¬ (Sp.B s (4 * i) = 62 ∨ Sp.B s (4 * i) = 60 ∨ Sp.B s (4 * i) = 126)) : Sp.InsB (Sp.B s) (Sp.blocksTo (Sp.B s) (s.size / 4)) i := by
  have hok := Sp.okIns_of_progB hp i hin
  have fk := fun j hj => Sp.fit_of_okIns hok j hj
  have hdok : Sp.dokK k (Sp.B s) i = true := by
    have := hok
    rw [Sp.okK_eq _ _ k hk0, Bool.and_eq_true] at this
    exact this.1
  have hf := Sp.form_of hk0 hdok
  have dig : ∀ x : Int, Sp.digB x = true → 48 ≤ x ∧ x ≤ 57 := fun x h => by simpa [Sp.digB] using h
  unfold Sp.InsB
  generalize hI : Sp.insK k (Sp.B s) i = I at hf
  have h106 : Sp.B s (4 * i) = 106 → 49 ≤ Sp.B s (4 * i + 1) ∧ Sp.B s (4 * i + 1) ≤ 57 ∧ Sp.B s (4 * i + 1) - 48 < Sp.blocksTo (Sp.B s) (s.size / 4) := fun o => by
    have g := fk 0 (by omega)
    rw [o, Sp.shp_106, show Sp.B ⟨#[66, 46, 46]⟩ 0 = 66 from rfl] at g
    exact Sp.fit_B g
  have h63 : Sp.B s (4 * i) = 63 → (49 ≤ Sp.B s (4 * i + 2) ∧ Sp.B s (4 * i + 2) ≤ 57 ∧ Sp.B s (4 * i + 2) - 48 < Sp.blocksTo (Sp.B s) (s.size / 4)) ∧ (49 ≤ Sp.B s (4 * i + 3) ∧ Sp.B s (4 * i + 3) ≤ 57 ∧ Sp.B s (4 * i + 3) - 48 < Sp.blocksTo (Sp.B s) (s.size / 4)) := fun o => by
    have g1 := fk 1 (by omega)
    have g2 := fk 2 (by omega)
    rw [o, Sp.shp_63, show Sp.B ⟨#[82, 66, 66]⟩ 1 = 66 from rfl] at g1
    rw [o, Sp.shp_63, show Sp.B ⟨#[82, 66, 66]⟩ 2 = 66 from rfl] at g2
    exact ⟨Sp.fit_B g1, Sp.fit_B g2⟩
  generalize Sp.B s (4 * i) = o at *
  generalize Sp.B s (4 * i + 1) = a at *
  generalize Sp.B s (4 * i + 2) = b at *
  generalize Sp.B s (4 * i + 3) = d at *
  cases hf with
  | ar h ha hb hd => exact Or.inl ⟨h, (Sp.reg_bd hk ha).2, (Sp.reg_bd hk hb).2, (Sp.reg_bd hk hd).2⟩
  | num h ha hb hd => exact Or.inr (Or.inl ⟨h, (Sp.reg_bd hk ha).2, dig _ hb, dig _ hd⟩)
  | two h ha hb => exact Or.inr (Or.inr (Or.inl ⟨by omega, (Sp.reg_bd hk ha).2, (Sp.reg_bd hk hb).2⟩))
  | sto h ha hb => exact Or.inr (Or.inr (Or.inl ⟨by omega, (Sp.reg_bd hk ha).2, (Sp.reg_bd hk hb).2⟩))
  | jmp h ha => exact Or.inr (Or.inr (Or.inr (Or.inl ⟨h, h106 h⟩)))
  | cnd h ha hb hd => exact Or.inr (Or.inr (Or.inr (Or.inr (Or.inl ⟨h, (Sp.reg_bd hk ha).2, h63 h⟩))))
  | ret h ha _ => exact Or.inr (Or.inr (Or.inr (Or.inr (Or.inr ⟨h, (Sp.reg_bd hk ha).2⟩))))
  | put _ h => exact absurd (Or.inl h) hne
  | get _ h => exact absurd (Or.inr (Or.inl h)) hne
  | clrS _ h => exact absurd (Or.inr (Or.inr h)) hne
  | clrR _ h => exact absurd (Or.inr (Or.inr h)) hne

theorem Sp.frm_of {k : Int} (hk0 : 0 ≤ k) (hk : k ≤ 10) {s : ByteArray} (hp : Sp.progB (Sp.B s) s.size k = true) {i : Nat} (hin : i < s.size / 4) (hf : Sp.B s (4 * i) = 62 ∨ Sp.B s (4 * i) = 60 ∨ Sp.B s (4 * i) = 126) :
    Sp.B s (4 * i + 1) < 128 ∧ (Sp.B s (4 * i) ≠ 126 → Sp.B s (4 * i + 2) < 128) ∧ (Sp.B s (4 * i) = 62 → Sp.letB (Sp.B s (4 * i + 1)) = true) ∧ (Sp.B s (4 * i) = 60 → Sp.letB (Sp.B s (4 * i + 2)) = true) := by
  have hok := Sp.okIns_of_progB hp i hin
  have hdok : Sp.dokK k (Sp.B s) i = true := by
    have := hok
    rw [Sp.okK_eq _ _ k hk0, Bool.and_eq_true] at this
    exact this.1
  have hF := Sp.form_of hk0 hdok
  generalize Sp.insK k (Sp.B s) i = I at hF
  generalize Sp.B s (4 * i) = o at *
  generalize Sp.B s (4 * i + 1) = a at *
  generalize Sp.B s (4 * i + 2) = b at *
  generalize Sp.B s (4 * i + 3) = d at *
  cases hF with
  | ar h ha hb hd => simp only [Sp.arithB, Bool.or_eq_true, beq_iff_eq] at h; omega
  | num h => omega
  | two h => omega
  | sto h => omega
  | jmp h => omega
  | cnd h => omega
  | ret h => omega
  | put _ h ha hb => exact ⟨(Sp.let_bd ha).2, fun _ => (Sp.reg_bd hk hb).2, fun _ => ha, fun e => by omega⟩
  | get _ h ha hb => exact ⟨(Sp.reg_bd hk ha).2, fun _ => (Sp.let_bd hb).2, fun e => by omega, fun _ => hb⟩
  | clrS _ h ha => exact ⟨(Sp.let_bd ha).2, fun e => absurd h e, fun e => by omega, fun e => by omega⟩
  | clrR _ h ha => exact ⟨(Sp.reg_bd hk ha).2, fun e => absurd h e, fun e => by omega, fun e => by omega⟩

namespace Sp
theorem frmS_ok {st : St} {m : Nat} (h : st.ok m) (o a b : Int) : (frmS st o a b).ok (m + 9) := by
  have two : ∀ x y : UInt8, (st.trace ++ (⟨#[x, y]⟩ : ByteArray)).size ≤ m + 9 := fun x y => by
    rw [ByteArray.size_append]
    have : (⟨#[x, y]⟩ : ByteArray).size = 2 := rfl
    have := h.trace
    omega
  have z : (0 : Int) ≤ 0 ∧ (0 : Int) ≤ 65535 := by omega
  unfold frmS
  split
  · exact ⟨upd_bd h.hold _ (h.hold _), h.pub, h.sec, two _ _⟩
  split
  · exact ⟨upd_bd h.hold _ (h.hold _), h.pub, h.sec, two _ _⟩
  split
  · exact ⟨upd_bd h.hold _ z, h.pub, h.sec, two _ _⟩
  · exact ⟨upd_bd h.hold _ z, h.pub, h.sec, Nat.le_trans h.trace (by omega)⟩
theorem stepU_ok {k : Int} (hk0 : 0 ≤ k) (hk : k ≤ 10) {s : ByteArray} {st : St} {i m : Nat} (h : st.ok m) (hp : progB (B s) s.size k = true) (hin : i < s.size / 4) : (stepU s st i).1.ok (m + 9) := by
  unfold stepU
  split
  · exact frmS_ok (st := { st with next := i + 1 }) ⟨h.hold, h.pub, h.sec, h.trace⟩ _ _ _
  · rename_i hf
    exact stepT_okB h (insB_of hk0 hk hp hin hf)
theorem stepU_next {k : Int} {s : ByteArray} {st : St} {i : Nat} (hp : progB (B s) s.size k = true) (hin : i < s.size / 4) (h : (stepU s st i).2 = true) : ∃ j, j < s.size / 4 ∧ (stepU s st i).1.next = (j : Int) := by
  unfold stepU at h ⊢
  split
  · rename_i hf
    refine ⟨i + 1, ?_, by rw [frmS_next]; rfl⟩
    have G := good_of_progB hp
    by_cases e : i = s.size / 4 - 1
    · have := G.last
      rw [← e] at this
      simp only [endB, Bool.or_eq_true, beq_iff_eq] at this
      omega
    · omega
  · rename_i hf
    rw [if_neg hf] at h
    exact stepT_next hp hin h
/-- the places of a machine program's arguments -/
def pM (j : Nat) : Nat := 48 + j
end Sp
end Go.Proofs.YtccndnckceagfabDoor
