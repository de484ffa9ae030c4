/-
  Contracts of the document's own functions, further: shapes, what is read, what is written, what shows, blocks.
-/
import Derived.Test.YtolhldbjfbkpiaaDoorRRef1
namespace Go.Proofs.YtolhldbjfbkpiaaDoorR
open Go.RowKit

set_option maxHeartbeats 1000000 in
theorem shape_any (c : Int) (m : Bool) (w : World) :
    Calls Tryd.prog 62 #[.int .u8 c, .bool m] w fun e w' => e = .returned (.string (Sp.shp c m)) ∧ w = w' := by
  cases m
  all_goals
    go_enter Tryd.func62, Tryd.ntmps62
    go_wp2
    all_goals
      go_ret
      refine ⟨ret_str ?_, rfl⟩
      simp_all [Sp.shp, Sp.arithB]

set_option maxHeartbeats 1000000 in
theorem writes_any (x : ByteArray) (v : Int) (w : World) (hs : x.size = 4) :
    Calls Tryd.prog 88 #[.string x, .int .u8 v] w fun e w' => e = .returned (.bool (Sp.wrB (Sp.B x 0) (Sp.B x 1) v)) ∧ w = w' := by
  have hx := Sp.B_get x 0 (by omega)
  have hx1 := Sp.B_get x 1 (by omega)
  generalize Sp.B x 0 = c at *
  generalize Sp.B x 1 = d at *
  have HA : Hid (Sp.amgB c ⟨#[43, 45, 42, 38, 94, 35, 61, 108, 76]⟩ = (Sp.arithB c || c == 35 || c == 61 || c == 108 || c == 76)) := Sp.amg_ops c
  generalize hA : Sp.amgB c ⟨#[43, 45, 42, 38, 94, 35, 61, 108, 76]⟩ = a at HA
  have HB : Hid (Sp.amgB c ⟨#[43, 45, 42, 38, 94, 35, 61, 108, 76]⟩ = a) := hA
  clear hA
  cases a
  all_goals
    go_enter Tryd.func88, Tryd.ntmps88
    go_wp2_with (go_at_call 71; refine (among_any _ _ _ (by decide)).mono ?_; rintro e w' ⟨rfl, rfl⟩; rw [HB.out])
    go_ret
    exact ⟨ret_bool (by rw [Sp.wrB, ← HA.out]; simp), rfl⟩

set_option maxHeartbeats 1000000 in
theorem reads_any (x : ByteArray) (v : Int) (w : World) (hs : x.size = 4) :
    Calls Tryd.prog 87 #[.string x, .int .u8 v] w fun e w' => e = .returned (.bool (Sp.rdB (Sp.B x 0) (Sp.B x 1) (Sp.B x 2) (Sp.B x 3) v)) ∧ w = w' := by
  have hx := Sp.B_get x 0 (by omega)
  have hx1 := Sp.B_get x 1 (by omega)
  have hx2 := Sp.B_get x 2 (by omega)
  have hx3 := Sp.B_get x 3 (by omega)
  generalize Sp.B x 0 = c at *
  generalize Sp.B x 1 = c1 at *
  generalize Sp.B x 2 = c2 at *
  generalize Sp.B x 3 = c3 at *
  go_enter Tryd.func87, Tryd.ntmps87
  go_wp2
  all_goals
    go_ret
    refine ⟨ret_bool ?_, rfl⟩
    simp_all [Sp.rdB, Sp.arithB]

set_option maxHeartbeats 1000000 in
theorem shows_any (x : ByteArray) (w : World) (hs : x.size = 4) :
    Calls Tryd.prog 29 #[.string x] w fun e w' => e = .returned (.bool (Sp.shwB (Sp.B x 0) (Sp.B x 1) (Sp.B x 2) (Sp.B x 3))) ∧ w = w' := by
  have hx := Sp.B_get x 0 (by omega)
  have hx1 := Sp.B_get x 1 (by omega)
  have hx2 := Sp.B_get x 2 (by omega)
  have hx3 := Sp.B_get x 3 (by omega)
  generalize Sp.B x 0 = c at *
  generalize Sp.B x 1 = c1 at *
  generalize Sp.B x 2 = c2 at *
  generalize Sp.B x 3 = c3 at *
  go_enter Tryd.func29, Tryd.ntmps29
  go_wp2_with (first | (go_at_call 49; refine (lower_any _ _).mono ?_; rintro e w' ⟨rfl, rfl⟩) | (go_at_call 50; refine (upper_any _ _).mono ?_; rintro e w' ⟨rfl, rfl⟩))
  all_goals
    go_ret
    refine ⟨ret_bool ?_, rfl⟩
    simp_all [Sp.shwB, Sp.arithB]
end Go.Proofs.YtolhldbjfbkpiaaDoorR
