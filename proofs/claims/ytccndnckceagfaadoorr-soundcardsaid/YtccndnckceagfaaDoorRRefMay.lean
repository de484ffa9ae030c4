/-
  The document's own test of an input; an input as a value.
-/
import Derived.Test.YtccndnckceagfaaDoorRRefRun1
import Derived.Test.YtccndnckceagfaaDoorRRefWant
namespace Go.Proofs.YtccndnckceagfaaDoorR
open Go.RowKit

namespace Sp
structure Inp where
  args : Nat → Int
  pub : Nat → Int
  sec : Nat → Int
def Inp.at' (I : Inp) (j : Nat) : Int := if j < 4 then I.args j else if j < 12 then I.pub (j - 4) else I.sec (j - 12)
/-- may a run begin so? -/
def mayB (I : Inp) (fuel : Int) : Bool := ((List.range 20).all fun j => valB (I.at' j)) && decide (0 ≤ fuel ∧ fuel ≤ 20000)
end Sp
def inF (I : Sp.Inp) (j : Nat) : Value := .int .i64 (I.at' j)
def inA (I : Sp.Inp) : Array Value := ((List.range 20).map (inF I)).toArray
theorem inA_size (I : Sp.Inp) : (inA I).size = 20 := by simp [inA]
theorem inA_at (I : Sp.Inp) (j : Nat) (h : j < 20) : (inA I)[j]? = some (.int .i64 (I.at' j)) := by simp [inA, h, inF]
theorem in_row (w : World) (I : Sp.Inp) (t : Nat) : (w.alloc (.cells (inA I) t)).rowIs w.heap.size t 20 (inF I) := by
  have h := World.rowIs_alloc w (inA I) t (inF I) (fun j hj => by rw [inA_size] at hj; exact inA_at I j hj)
  rw [inA_size] at h
  exact h

theorem may_no (I : Sp.Inp) (fuel : Int) (j : Nat) (hj : j < 20) (h : Sp.valB (I.at' j) = false) : Sp.mayB I fuel = false := by
  unfold Sp.mayB
  have : ((List.range 20).all fun j => Sp.valB (I.at' j)) = false := List.all_eq_false.2 ⟨j, List.mem_range.2 hj, by simp [h]⟩
  rw [this, Bool.false_and]
theorem may_yes (I : Sp.Inp) (fuel : Int) (h1 : ∀ j, j < 4 → Sp.valB (I.at' j) = true) (h2 : ∀ j, j < 8 → Sp.valB (I.at' (4 + j)) = true ∧ Sp.valB (I.at' (12 + j)) = true) : Sp.mayB I fuel = decide (0 ≤ fuel ∧ fuel ≤ 20000) := by
  unfold Sp.mayB
  have : ((List.range 20).all fun j => Sp.valB (I.at' j)) = true := List.all_eq_true.2 fun j hj => by
    have hj' := List.mem_range.1 hj
    by_cases c1 : j < 4
    · exact h1 j c1
    · by_cases c2 : j < 12
      · have := (h2 (j - 4) (by omega)).1
        rwa [show 4 + (j - 4) = j from by omega] at this
      · have := (h2 (j - 12) (by omega)).2
        rwa [show 12 + (j - 12) = j from by omega] at this
  rw [this, Bool.true_and]

set_option maxRecDepth 20000 in
set_option maxHeartbeats 1000000 in
theorem may_any (I : Sp.Inp) (fuel : Int) (w : World) :
    Calls Tryd.prog 39 #[.agg (inA I), .int .i64 fuel] w fun e w' => e = .returned (.bool (Sp.mayB I fuel)) ∧ Below w.heap.size w w' := by
  have hsz := inA_size I
  go_enter Tryd.func39, Tryd.ntmps39
  go_wp2_with fail
  go_loopw [5] (fun iv wr => ∃ i : Nat, i ≤ 4 ∧ iv = .int .i64 i ∧ (∀ j, j < i → Sp.valB (I.at' j) = true) ∧ wr = w.alloc (.cells (inA I) 29)) (fun iv _ => 4 - (intOf iv).toNat)
  case atStart => exact ⟨0, by omega, rfl, (fun j hj => by omega), rfl⟩
  case round =>
    obtain ⟨i, hi, rfl, hall, rfl⟩ := hrel
    have HALL := hidd hall
    clear hall
    by_cases hlt : i < 4
    · have hc := inA_at I i (by omega)
      cases hv : Sp.valB (I.at' i)
      · have HV := hidd hv
        go_wp2_with (go_at_call 69; refine (value_any _ _).mono ?_; rintro e w' ⟨rfl, rfl⟩)
        go_ret
        exact ⟨ret_bool (may_no I fuel i (by omega) HV.out).symm, (Below.refl _ _).alloc (Nat.le_refl _) _⟩
      · have HV := hidd hv
        go_wp2_with (go_at_call 69; refine (value_any _ _).mono ?_; rintro e w' ⟨rfl, rfl⟩)
        go_roundw
        case rel => exact ⟨i + 1, by omega, by go_num, (fun j hj => by
          by_cases e : j = i
          · rw [e]; exact HV.out
          · exact HALL.out j (by omega)), (by first | rfl | trivial)⟩
        case measure => simp [intOf]; omega
    · have HA4 := hidd (show ∀ j, j < 4 → Sp.valB (I.at' j) = true from fun j hj => HALL.out j (by omega))
      clear HALL
      go_wp2_with fail
      go_loopw [6] (fun iv wr => ∃ i : Nat, i ≤ 8 ∧ iv = .int .i64 i ∧ (∀ j, j < i → Sp.valB (I.at' (4 + j)) = true ∧ Sp.valB (I.at' (12 + j)) = true) ∧ wr = w.alloc (.cells (inA I) 29)) (fun iv _ => 8 - (intOf iv).toNat)
      case atStart => exact ⟨0, by omega, rfl, (fun j hj => by omega), rfl⟩
      case round =>
        obtain ⟨i, hi, rfl, hall, rfl⟩ := hrel
        have HALL := hidd hall
        clear hall
        by_cases hlt : i < 8
        · have hc1 := inA_at I (4 + i) (by omega)
          have hc2 := inA_at I (12 + i) (by omega)
          cases hv : Sp.valB (I.at' (4 + i))
          · have HV := hidd hv
            go_wp2_with (go_at_call 69; refine (value_any _ _).mono ?_; rintro e w' ⟨rfl, rfl⟩)
            go_ret
            exact ⟨ret_bool (may_no I fuel (4 + i) (by omega) HV.out).symm, (Below.refl _ _).alloc (Nat.le_refl _) _⟩
          · have HV := hidd hv
            cases hu : Sp.valB (I.at' (12 + i))
            · have HU := hidd hu
              go_wp2_with (go_at_call 69; refine (value_any _ _).mono ?_; rintro e w' ⟨rfl, rfl⟩)
              go_ret
              exact ⟨ret_bool (may_no I fuel (12 + i) (by omega) HU.out).symm, (Below.refl _ _).alloc (Nat.le_refl _) _⟩
            · have HU := hidd hu
              go_wp2_with (go_at_call 69; refine (value_any _ _).mono ?_; rintro e w' ⟨rfl, rfl⟩)
              go_roundw
              case rel => exact ⟨i + 1, by omega, by go_num, (fun j hj => by
                by_cases e : j = i
                · rw [e]; exact ⟨HV.out, HU.out⟩
                · exact HALL.out j (by omega)), (by first | rfl | trivial)⟩
              case measure => simp [intOf]; omega
        · have HM := hidd (may_yes I fuel HA4.out (fun j hj => HALL.out j (by omega)))
          by_cases f1 : 0 ≤ fuel
          · by_cases f2 : fuel ≤ 20000
            · go_wp2_with fail
              go_ret
              exact ⟨ret_bool (by rw [HM.out]; simp [f1, f2]), (Below.refl _ _).alloc (Nat.le_refl _) _⟩
            · go_wp2_with fail
              go_ret
              exact ⟨ret_bool (by rw [HM.out]; simp; omega), (Below.refl _ _).alloc (Nat.le_refl _) _⟩
          · have f3 : fuel < 0 := by omega
            go_wp2_with fail
            go_ret
            exact ⟨ret_bool (by rw [HM.out]; simp; omega), (Below.refl _ _).alloc (Nat.le_refl _) _⟩
end Go.Proofs.YtccndnckceagfaaDoorR
