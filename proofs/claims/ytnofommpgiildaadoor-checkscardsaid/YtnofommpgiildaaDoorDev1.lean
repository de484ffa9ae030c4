/-
  Contracts of the program's small functions.
-/
import Derived.Test.YtnofommpgiildaaDoorRefCheck
import Derived.Test.YtnofommpgiildaaDoorDSpec
import Derived.Lib.SmallJoins
namespace Go.Proofs.YtnofommpgiildaaDoor
open Go.RowKit

def insL (i : Sp.Ins) : List Value := [.int .u8 i.o, .int .i64 i.d, .int .i64 i.x, .int .i64 i.y, .int .i64 i.n, .int .i64 i.k, .int .i64 i.m]

set_option maxHeartbeats 400000 in
theorem digitOf_any (c : Int) (w : World) (h0 : 0 ≤ c) (h1 : c ≤ 255) :
    Calls Tryd.prog 76 #[.int .u8 c] w fun e w' => e = .returned (.int .i64 (Sp.dgO c)) ∧ w = w' := by
  by_cases a : 48 ≤ c <;> by_cases b : c ≤ 57
  all_goals
    go_enter Tryd.func76, Tryd.ntmps76
    go_wp2
    go_ret
    refine ⟨ret_int ?_, rfl⟩
    simp only [Sp.dgO, Sp.digB, decide_eq_true_eq]
    split
    all_goals omega

set_option maxHeartbeats 400000 in
theorem registerOf_any (c : Int) (w : World) (h0 : 0 ≤ c) (h1 : c ≤ 255) :
    Calls Tryd.prog 77 #[.int .u8 c] w fun e w' => e = .returned (.int .i64 (Sp.rgO c)) ∧ w = w' := by
  go_enter Tryd.func77, Tryd.ntmps77
  go_wp2
  all_goals
    go_ret
    refine ⟨ret_int ?_, rfl⟩
    simp only [Sp.rgO, Sp.lowB, Sp.uppB, decide_eq_true_eq]
    repeat' split
    all_goals omega

set_option maxHeartbeats 400000 in
theorem isSecret_any (c : Int) (w : World) :
    Calls Tryd.prog 46 #[.int .i64 c] w fun e w' => e = .returned (.bool (Sp.secB c)) ∧ w = w' := by
  go_enter Tryd.func46, Tryd.ntmps46
  go_wp2
  go_ret
  exact ⟨rfl, rfl⟩

set_option maxHeartbeats 400000 in
theorem isTarget_any (b n : Int) (w : World) :
    Calls Tryd.prog 61 #[.int .i64 b, .int .i64 n] w fun e w' => e = .returned (.bool (Sp.isTgt b n)) ∧ w = w' := by
  by_cases h1 : b = -1
  · subst h1
    go_enter Tryd.func61, Tryd.ntmps61
    go_wp2
    go_ret
    exact ⟨rfl, rfl⟩
  · by_cases h2 : 1 ≤ b
    · go_enter Tryd.func61, Tryd.ntmps61
      go_wp2
      go_ret
      exact ⟨ret_bool (by simp [Sp.isTgt, h2]), rfl⟩
    · have HT := hid (show Sp.isTgt b n = false by simp [Sp.isTgt, h1]; omega)
      go_enter Tryd.func61, Tryd.ntmps61
      go_wp2
      go_ret
      exact ⟨ret_bool (by rw [HT.out]; simp [h1]), rfl⟩

set_option maxHeartbeats 400000 in
theorem dshape_any (c : Int) (w : World) :
    Calls Tryd.prog 58 #[.int .u8 c] w fun e w' => e = .returned (.string (Sp.dshp c)) ∧ w = w' := by
  go_enter Tryd.func58, Tryd.ntmps58
  go_wp2
  all_goals
    go_ret
    refine ⟨ret_str ?_, rfl⟩
    simp_all [Sp.dshp, Sp.arithB]

set_option maxHeartbeats 400000 in
theorem endsBlock_any (o d x y n k m : Int) (w : World) :
    Calls Tryd.prog 60 #[.agg #[.int .u8 o, .int .i64 d, .int .i64 x, .int .i64 y, .int .i64 n, .int .i64 k, .int .i64 m]] w fun e w' => e = .returned (.bool (Sp.endB o)) ∧ Below w.heap.size w w' := by
  by_cases h1 : o = 106 <;> by_cases h2 : o = 63
  · omega
  all_goals
    go_enter Tryd.func60, Tryd.ntmps60
    go_wp2
    go_ret
    exact ⟨ret_bool (by simp [Sp.endB, h1, h2]), (Below.refl _ _).alloc (Nat.le_refl _) _⟩

set_option maxHeartbeats 2000000 in
theorem dshows_any (o d x y n k m : Int) (w : World) :
    Calls Tryd.prog 31 #[.agg #[.int .u8 o, .int .i64 d, .int .i64 x, .int .i64 y, .int .i64 n, .int .i64 k, .int .i64 m]] w fun e w' => e = .returned (.bool (Sp.showI ⟨o, d, x, y, n, k, m⟩)) ∧ Below w.heap.size w w' := by
  go_enter Tryd.func31, Tryd.ntmps31
  go_wp2_with (go_at_call 46; refine (isSecret_any _ _).mono ?_; rintro e w' ⟨rfl, rfl⟩)
  all_goals
    go_ret
    refine ⟨ret_bool ?_, (Below.refl _ _).alloc (Nat.le_refl _) _⟩
    simp_all [Sp.showI, Sp.arithB]
end Go.Proofs.YtnofommpgiildaaDoor
