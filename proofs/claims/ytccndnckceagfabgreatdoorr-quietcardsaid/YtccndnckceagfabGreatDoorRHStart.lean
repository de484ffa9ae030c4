/-
  Where a block begins, as the program finds it; small matters that more than one part needs.
-/
import Derived.Test.YtccndnckceagfabGreatDoorRHDev8
import Derived.Deep.MidRow
import Derived.Deep.Cut
namespace Go.Proofs.YtccndnckceagfabGreatDoorR
open Go.RowKit
theorem only_setCells (w : World) (b o : Nat) (vs : List Value) : Only b w (w.setCells b o vs) := by
  induction vs generalizing o w with
  | nil => exact Only.refl _ _
  | cons v vs ih => exact (Only.set b o w v).trans (ih (w.setCell ⟨b, o, none⟩ v) (o + 1))
theorem results_cell_one {P : Program} {fn : Func} {q : Tmp} {ty : TypeId} (h : fn.results = #[.cell q ty]) (tmps : Array Value) (w : World) {a : Addr} {v : Value} (hp : tmps.getD q undef = .pointer (some a)) (hl : (loadVar ty a).run P w = .ok v w) :
    (results fn tmps).run P w = .ok v w := by
  have hp' : tmps[q]?.getD undef = .pointer (some a) := by simpa using hp
  simp only [results, h]
  simp [hp', asAddr, hl]

/-- the registers a, b, A, B as the package variable Arguments has them -/
structure ArgsAt (w : World) : Prop where
  c0 : w.cell? ⟨0, 0, none⟩ = some (.int .i64 0)
  c1 : w.cell? ⟨0, 1, none⟩ = some (.int .i64 1)
  c2 : w.cell? ⟨0, 2, none⟩ = some (.int .i64 26)
  c3 : w.cell? ⟨0, 3, none⟩ = some (.int .i64 27)
theorem ArgsAt.lt {w : World} (h : ArgsAt w) : 0 < w.heap.size := block_lt_of_cell h.c0
theorem ArgsAt.of_block {w w' : World} (h : ArgsAt w) (e : w'.heap[0]? = w.heap[0]?) : ArgsAt w' :=
  ⟨(World.cell?_of_block (a := ⟨0, 0, none⟩) e).trans h.c0, (World.cell?_of_block (a := ⟨0, 1, none⟩) e).trans h.c1, (World.cell?_of_block (a := ⟨0, 2, none⟩) e).trans h.c2, (World.cell?_of_block (a := ⟨0, 3, none⟩) e).trans h.c3⟩
theorem ArgsAt.move {w w' : World} (h : ArgsAt w) (hb : Below w.heap.size w w') : ArgsAt w' := h.of_block (hb.block 0 h.lt)

theorem row_two (w : World) (vC vB : Value) : (w.alloc (.cells #[vC, vB] 47)).rowIs w.heap.size 47 2 (fun j => if j = 0 then vC else vB) :=
  World.rowIs_alloc w #[vC, vB] 47 _ (fun j hj => by
    have hj' : j = 0 ∨ j = 1 := by simp at hj; omega
    rcases hj' with rfl | rfl <;> rfl)

set_option maxHeartbeats 1000000 in
theorem start_any (B p : Nat) (C : List Sp.Ins) (L : List (Nat × Nat)) (q : Int) (w : World) (hP : ProgAt w B p C L) :
    Calls Tryz.prog 57 #[.pointer (some ⟨p, 0, none⟩), .int .i64 q] w fun e w' => e = .returned (.int .i64 (Sp.strP L q)) ∧ w = w' := by
  obtain ⟨vC, vB, hrow, hoC, hoB, hnil⟩ := hP
  have c1 : w.cell? ⟨p, 1, none⟩ = some vB := hrow.cell (i := 1) (by omega)
  have HOB := hid hoB
  have hf := Joins.ownsRow_forms hoB
  clear hoC hoB hrow hnil
  by_cases hq : q < 0
  · have HE := hid (show Sp.strP L q = -1 by unfold Sp.strP; rw [if_neg (by omega)])
    clear hf
    go_enter Tryz.func57, Tryz.ntmps57
    go_wp2_with fail
    go_ret
    exact ⟨ret_int HE.out.symm, rfl⟩
  · rcases hf with ⟨rfl, hn0⟩ | ⟨g, cap, rfl⟩
    · have HE := hid (show Sp.strP L q = -1 by unfold Sp.strP; rw [if_neg (by omega)])
      clear hn0
      go_enter Tryz.func57, Tryz.ntmps57
      go_wp2_with fail
      go_ret
      exact ⟨ret_int HE.out.symm, rfl⟩
    · by_cases hq2 : (L.length : Int) ≤ q
      · have HE := hid (show Sp.strP L q = -1 by unfold Sp.strP; rw [if_neg (by omega)])
        go_enter Tryz.func57, Tryz.ntmps57
        go_wp2_with fail
        go_ret
        exact ⟨ret_int HE.out.symm, rfl⟩
      · obtain ⟨j, rfl⟩ := Int.eq_ofNat_of_zero_le (show 0 ≤ q by omega)
        have hj : j < L.length := by omega
        have cj := (blk_cells HOB.out j hj).1
        have HE := hid (show Sp.strP L (j : Int) = (L[j].1 : Nat) by
          unfold Sp.strP
          rw [if_pos (by omega), Int.toNat_natCast, List.getD_eq_getElem?_getD, List.getElem?_eq_getElem hj]
          rfl)
        generalize L[j].1 = z at *
        go_enter Tryz.func57, Tryz.ntmps57
        go_wp2_with fail
        go_ret
        exact ⟨ret_int HE.out.symm, rfl⟩
end Go.Proofs.YtccndnckceagfabGreatDoorR
