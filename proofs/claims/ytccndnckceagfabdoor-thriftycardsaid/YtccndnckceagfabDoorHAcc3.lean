/-
  A block of a machine program beside the block of a source program: contracts of the program's functions.
-/
import Derived.Test.YtccndnckceagfabDoorHAcc2
namespace Go.Proofs.YtccndnckceagfabDoor.Sp

/-- over the copies that stand next -/
def passP (C : List Ins) : Nat → (Nat → Nat) → Nat → (Nat → Nat) × Nat
  | 0, E, q => (E, q)
  | f + 1, E, q => if h : q < C.length then if C[q].o = 61 then passP C f (copyReg E C[q].d C[q].x) (q + 1) else (E, q) else (E, q)
theorem passP_end {C : List Ins} {q : Nat} (h : C.length ≤ q) (f : Nat) (E : Nat → Nat) : passP C f E q = (E, q) := by
  cases f with
  | zero => rfl
  | succ f => simp only [passP]; rw [dif_neg (by omega)]
theorem passP_le {C : List Ins} : ∀ (f : Nat) (E : Nat → Nat) (q : Nat), q ≤ C.length → (passP C f E q).2 ≤ C.length
  | 0, _, _, h => h
  | f + 1, E, q, h => by
    simp only [passP]
    split
    · split
      · exact passP_le f _ _ (by omega)
      · exact h
    · exact h
/-- a block of the machine beside one of the source: the pairs, and where the source stands -/
def playP (C D : List Ins) (last : Nat) : Nat → (Nat → Nat) → Nat → Nat → Option ((Nat → Nat) × Nat)
  | 0, E, q, _ => some (E, q)
  | f + 1, E, q, a =>
    if h : a ≤ last ∧ a < D.length then
      if isMv D[a].o = true then playP C D last f (moveP (passP C C.length E q).1 D[a]) (passP C C.length E q).2 (a + 1)
      else if hq : (passP C C.length E q).2 < C.length then
        if followP (passP C C.length E q).1 C[(passP C C.length E q).2] D[a] = true then playP C D last f (wroteP (passP C C.length E q).1 C[(passP C C.length E q).2] D[a]) ((passP C C.length E q).2 + 1) (a + 1) else none
      else none
    else some (E, q)
/-- is the source's block at its end? -/
def plyEnd (last : Nat) : Option ((Nat → Nat) × Nat) → Option (Nat → Nat)
  | none => none
  | some r => if r.2 = last + 1 then some r.1 else none
/-- the block b of both -/
def playB (C : List Ins) (L : List (Nat × Nat)) (D : List Ins) (M : List (Nat × Nat)) (E : Nat → Nat) (b : Nat) : Option (Nat → Nat) :=
  if h : b < L.length ∧ b < M.length then
    plyEnd L[b].2 (playP C D M[b].2 D.length E L[b].1 M[b].1)
  else none
end Go.Proofs.YtccndnckceagfabDoor.Sp

namespace Go.Proofs.YtccndnckceagfabDoor
open Go.RowKit

set_option maxRecDepth 20000 in
set_option maxHeartbeats 2000000 in
theorem pass_any (b B p : Nat) (C : List Sp.Ins) (L : List (Nat × Nat)) (E : Nat → Nat) (q : Nat) (w : World) (h : PrAt w b E) (hG : ProgAt w B p C L) (hC0 : 0 < C.length) (hC : C.length ≤ 1100) (hq : q ≤ C.length) :
    Calls Tryd.prog 73 #[.pointer (some ⟨b, 0, none⟩), .pointer (some ⟨p, 0, none⟩), .int .i64 (q : Nat)] w fun e w' => e = .returned (.int .i64 ((Sp.passP C C.length E q).2 : Nat)) ∧ PrAt w' b (Sp.passP C C.length E q).1 ∧ Only b w w' := by
  have HP := hid h
  have HG := hid hG
  clear h hG
  go_enter Tryd.func73, Tryd.ntmps73
  go_wp2_with fail
  go_loopw [2] (fun qv wr => ∃ (q' f : Nat) (F : Nat → Nat), qv = .int .i64 (q' : Nat) ∧ q' ≤ C.length ∧ C.length ≤ f + q' ∧ PrAt wr b F ∧ Only b w wr ∧ Sp.passP C f F q' = Sp.passP C C.length E q) (fun qv _ => C.length - (intOf qv).toNat)
  case atStart => exact ⟨q, C.length, E, rfl, hq, by omega, HP.out, Only.refl _ _, rfl⟩
  case round =>
    obtain ⟨q', f, F, rfl, hq', hf, hF, hO, hE⟩ := hrel
    have HF := hid hF
    have HO := hid hO
    have HE := hid hE
    have hG1 := HG.out.but HP.out hO.toBut
    clear hF hO hE
    obtain ⟨vC, vB, hp1, hp2, _, _⟩ := hG1
    have cc : wr.cell? ⟨p, 0, none⟩ = some vC := hp1.cell (i := 0) (by omega)
    have HP2 := hid hp2
    obtain ⟨gC, capC, rfl⟩ := Joins.ownsRow_form hp2 hC0
    clear hp1 hp2
    by_cases hlt : q' < C.length
    · obtain ⟨c0, c1, c2, c3, c4, c5, c6⟩ := ins_cells HP2.out q' hlt
      obtain ⟨f', rfl⟩ : ∃ f', f = f' + 1 := ⟨f - 1, by omega⟩
      by_cases ho : C[q'].o = 61
      · have HE2 : Hid (Sp.passP C f' (Sp.copyReg F C[q'].d C[q'].x) (q' + 1) = Sp.passP C C.length E q) := by
          show Sp.passP C f' (Sp.copyReg F C[q'].d C[q'].x) (q' + 1) = Sp.passP C C.length E q
          rw [← HE.out]; simp only [Sp.passP]; rw [dif_pos hlt, if_pos ho]
        have HCR := hid (fun W hW => copyReg_any b F C[q'].d C[q'].x W hW)
        have to : (C[q'].o == 61) = true := by simp [ho]
        clear ho HE
        generalize C[q'] = I at *
        go_wp2_with fail
        go_region_with (go_at_call 93; refine (HCR.out wr.drew (HF.out.of_block rfl)).mono ?_; rintro e w1 ⟨rfl, hp1, ho1⟩; have HP1 := hid hp1; have HO1 := hid ho1; clear hp1 ho1)
        all_goals
          go_wp2_with fail
          go_roundw
          case rel => exact ⟨q' + 1, f', _, by go_num, by omega, by omega, HP1.out.of_block rfl, HO.out.trans ⟨HO1.out.os, HO1.out.tape, HO1.out.output, HO1.out.size, HO1.out.block⟩, HE2.out⟩
          case measure => simp [intOf]; omega
      · have to : (C[q'].o == 61) = false := by simp [ho]
        have HE2 : Hid (Sp.passP C C.length E q = (F, q')) := by
          show Sp.passP C C.length E q = (F, q')
          rw [← HE.out]; simp only [Sp.passP]; rw [dif_pos hlt, if_neg ho]
        clear ho HE
        generalize C[q'] = I at *
        go_wp2_with fail
        go_ret
        rw [HE2.out]
        exact ⟨rfl, HF.out, HO.out⟩
    · have HE2 : Hid (Sp.passP C C.length E q = (F, q')) := by
        show Sp.passP C C.length E q = (F, q')
        rw [← HE.out]; exact Sp.passP_end (by omega) f F
      go_wp2_with fail
      go_ret
      rw [HE2.out]
      exact ⟨rfl, HF.out, HO.out⟩
end Go.Proofs.YtccndnckceagfabDoor
