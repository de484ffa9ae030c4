/-
  The program's reading of one instruction, byte by byte.
-/
import Derived.Test.YtccndnckceagfaaDoorRDev1
namespace Go.Proofs.YtccndnckceagfaaDoorR
open Go.RowKit

/-- an instruction's cells -/
def insF (i : Sp.Ins) : Nat → Value
  | 0 => .int .u8 i.o
  | 1 => .int .i64 i.d
  | 2 => .int .i64 i.x
  | 3 => .int .i64 i.y
  | 4 => .int .i64 i.n
  | 5 => .int .i64 i.k
  | _ => .int .i64 i.m

/-- nothing but block b has turned -/
structure Only (b : Nat) (w w' : World) : Prop where
  os : w'.os = w.os
  tape : w'.tape = w.tape
  output : w'.output = w.output
  size : w'.heap.size = w.heap.size
  block : ∀ k, k ≠ b → w'.heap[k]? = w.heap[k]?
theorem Only.refl (b : Nat) (w : World) : Only b w w := ⟨rfl, rfl, rfl, rfl, fun _ _ => rfl⟩
theorem Only.trans {b : Nat} {u v w : World} (h : Only b u v) (k : Only b v w) : Only b u w :=
  ⟨k.os.trans h.os, k.tape.trans h.tape, k.output.trans h.output, k.size.trans h.size, fun i hi => (k.block i hi).trans (h.block i hi)⟩
theorem Only.set (b o : Nat) (w : World) (v : Value) : Only b w (w.setCell ⟨b, o, none⟩ v) :=
  ⟨rfl, rfl, rfl, by simp [World.setCell], fun k hk => Below.heap_setCell w ⟨b, o, none⟩ v k hk⟩
theorem Only.drew {b : Nat} {u w : World} (h : Only b u w) : Only b u w.drew := ⟨h.os, h.tape, h.output, h.size, h.block⟩
theorem Only.below {b B : Nat} {u w : World} (h : Only b u w) (hB : B ≤ b) : Below B u w :=
  ⟨h.os, h.tape, h.output, by rw [h.size]; exact Nat.le_refl _, fun k hk => h.block k (by omega)⟩

theorem row_ins {w : World} {b t : Nat} {i i' : Sp.Ins} (h : w.rowIs b t 7 (insF i)) (f : Nat) {v : Value} (e : ∀ j, (j = 0 ∨ j = 1 ∨ j = 2 ∨ j = 3 ∨ j = 4 ∨ j = 5 ∨ j = 6) → insF i' j = if j = f then v else insF i j) :
    (w.setCell ⟨b, f, none⟩ v).rowIs b t 7 (insF i') :=
  (h.set f v).congr fun j hj => (e j (by omega)).symm

set_option maxHeartbeats 4000000 in
theorem take_any (b : Nat) (i : Sp.Ins) (p c pl : Int) (w : World) (hr : w.rowIs b 130 7 (insF i)) (h0 : 0 ≤ c) (h1 : c ≤ 255) (n0 : -1000 ≤ i.n) (n1 : i.n ≤ 1000) :
    Calls Tryd.prog 123 #[.pointer (some ⟨b, 0, none⟩), .int .u8 p, .int .u8 c, .int .i64 pl] w fun e w' => e = .returned (.bool (Sp.tkBK p c pl)) ∧ w'.rowIs b 130 7 (insF (Sp.tkIK i p c pl)) ∧ Only b w w' := by
  have c1 : w.cell? ⟨b, 1, none⟩ = some (.int .i64 i.d) := hr.cell (i := 1) (by omega)
  have c2 : w.cell? ⟨b, 2, none⟩ = some (.int .i64 i.x) := hr.cell (i := 2) (by omega)
  have c3 : w.cell? ⟨b, 3, none⟩ = some (.int .i64 i.y) := hr.cell (i := 3) (by omega)
  have c4 : w.cell? ⟨b, 4, none⟩ = some (.int .i64 i.n) := hr.cell (i := 4) (by omega)
  have c5 : w.cell? ⟨b, 5, none⟩ = some (.int .i64 i.k) := hr.cell (i := 5) (by omega)
  have c6 : w.cell? ⟨b, 6, none⟩ = some (.int .i64 i.m) := hr.cell (i := 6) (by omega)
  have f1 := hr.frozen 1
  have f2 := hr.frozen 2
  have f3 := hr.frozen 3
  have f4 := hr.frozen 4
  have f5 := hr.frozen 5
  have f6 := hr.frozen 6
  have db := Sp.dgO_bd c
  have HR := hid hr
  clear hr
  by_cases hp : p = 100 ∨ p = 68 ∨ p = 113 ∨ p = 120 ∨ p = 88 ∨ p = 48 ∨ p = 121 ∨ p = 116 ∨ p = 110 ∨ p = 107 ∨ p = 109
  · rcases hp with rfl | rfl | rfl | rfl | rfl | rfl | rfl | rfl | rfl | rfl | rfl
    · go_enter Tryd.func123, Tryd.ntmps123
      go_wp2_with (go_at_call 138; refine (digitOf_any _ _ h0 h1).mono ?_; rintro e w' ⟨rfl, rfl⟩)
      go_ret
      exact ⟨rfl, row_ins HR.out 1 (fun j hj => by rcases hj with rfl | rfl | rfl | rfl | rfl | rfl | rfl <;> rfl), Only.set _ _ _ _⟩
    · go_enter Tryd.func123, Tryd.ntmps123
      go_wp2_with (go_at_call 138; refine (digitOf_any _ _ h0 h1).mono ?_; rintro e w' ⟨rfl, rfl⟩)
      go_ret
      exact ⟨rfl, row_ins HR.out 1 (fun j hj => by rcases hj with rfl | rfl | rfl | rfl | rfl | rfl | rfl <;> rfl), Only.set _ _ _ _⟩
    · go_enter Tryd.func123, Tryd.ntmps123
      go_wp2_with (go_at_call 138; refine (digitOf_any _ _ h0 h1).mono ?_; rintro e w' ⟨rfl, rfl⟩)
      go_ret
      exact ⟨rfl, row_ins HR.out 1 (fun j hj => by rcases hj with rfl | rfl | rfl | rfl | rfl | rfl | rfl <;> rfl), Only.set _ _ _ _⟩
    · go_enter Tryd.func123, Tryd.ntmps123
      go_wp2_with (go_at_call 138; refine (digitOf_any _ _ h0 h1).mono ?_; rintro e w' ⟨rfl, rfl⟩)
      go_ret
      exact ⟨rfl, row_ins HR.out 2 (fun j hj => by rcases hj with rfl | rfl | rfl | rfl | rfl | rfl | rfl <;> rfl), Only.set _ _ _ _⟩
    · go_enter Tryd.func123, Tryd.ntmps123
      go_wp2_with (go_at_call 138; refine (digitOf_any _ _ h0 h1).mono ?_; rintro e w' ⟨rfl, rfl⟩)
      go_ret
      exact ⟨rfl, row_ins HR.out 2 (fun j hj => by rcases hj with rfl | rfl | rfl | rfl | rfl | rfl | rfl <;> rfl), Only.set _ _ _ _⟩
    · go_enter Tryd.func123, Tryd.ntmps123
      go_wp2_with (go_at_call 138; refine (digitOf_any _ _ h0 h1).mono ?_; rintro e w' ⟨rfl, rfl⟩)
      go_ret
      exact ⟨rfl, row_ins HR.out 2 (fun j hj => by rcases hj with rfl | rfl | rfl | rfl | rfl | rfl | rfl <;> rfl), Only.set _ _ _ _⟩
    · go_enter Tryd.func123, Tryd.ntmps123
      go_wp2_with (go_at_call 138; refine (digitOf_any _ _ h0 h1).mono ?_; rintro e w' ⟨rfl, rfl⟩)
      go_ret
      exact ⟨rfl, row_ins HR.out 3 (fun j hj => by rcases hj with rfl | rfl | rfl | rfl | rfl | rfl | rfl <;> rfl), Only.set _ _ _ _⟩
    · go_enter Tryd.func123, Tryd.ntmps123
      go_wp2_with (go_at_call 138; refine (digitOf_any _ _ h0 h1).mono ?_; rintro e w' ⟨rfl, rfl⟩)
      go_ret
      exact ⟨rfl, row_ins HR.out 4 (fun j hj => by rcases hj with rfl | rfl | rfl | rfl | rfl | rfl | rfl <;> rfl), Only.set _ _ _ _⟩
    · go_enter Tryd.func123, Tryd.ntmps123
      go_wp2_with (go_at_call 138; refine (digitOf_any _ _ h0 h1).mono ?_; rintro e w' ⟨rfl, rfl⟩)
      go_ret
      exact ⟨rfl, row_ins HR.out 4 (fun j hj => by rcases hj with rfl | rfl | rfl | rfl | rfl | rfl | rfl <;> rfl), Only.set _ _ _ _⟩
    · go_enter Tryd.func123, Tryd.ntmps123
      go_wp2_with (go_at_call 138; refine (digitOf_any _ _ h0 h1).mono ?_; rintro e w' ⟨rfl, rfl⟩)
      go_ret
      exact ⟨rfl, row_ins HR.out 5 (fun j hj => by rcases hj with rfl | rfl | rfl | rfl | rfl | rfl | rfl <;> rfl), Only.set _ _ _ _⟩
    · go_enter Tryd.func123, Tryd.ntmps123
      go_wp2_with (go_at_call 138; refine (digitOf_any _ _ h0 h1).mono ?_; rintro e w' ⟨rfl, rfl⟩)
      go_ret
      exact ⟨rfl, row_ins HR.out 6 (fun j hj => by rcases hj with rfl | rfl | rfl | rfl | rfl | rfl | rfl <;> rfl), Only.set _ _ _ _⟩
  · have q1 : p ≠ 100 := by omega
    have q2 : p ≠ 120 := by omega
    have q3 : p ≠ 121 := by omega
    have q4 : p ≠ 110 := by omega
    have q4' : p ≠ 116 := by omega
    have q5 : p ≠ 107 := by omega
    have q6 : p ≠ 109 := by omega
    have q7 : p ≠ 68 := by omega
    have q8 : p ≠ 113 := by omega
    have q9 : p ≠ 88 := by omega
    have q0 : p ≠ 48 := by omega
    have HB := hid (show Sp.tkBK p c pl = (c == p) by simp [Sp.tkBK, q1, q2, q3, q4, q4', q5, q6, q7, q8, q9, q0])
    have HI := hid (show Sp.tkIK i p c pl = i by simp [Sp.tkIK, q1, q2, q3, q4, q4', q5, q6, q7, q8, q9, q0])
    clear hp
    go_enter Tryd.func123, Tryd.ntmps123
    go_wp2_with (go_at_call 138; refine (digitOf_any _ _ h0 h1).mono ?_; rintro e w' ⟨rfl, rfl⟩)
    go_ret
    exact ⟨ret_bool (by rw [HB.out]), by rw [HI.out]; exact HR.out, Only.refl _ _⟩
end Go.Proofs.YtccndnckceagfaaDoorR
