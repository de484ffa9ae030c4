/-
  The document's own Run.
-/
import Derived.Test.YtccndnckceagfaaDoorRRefRunB
import Derived.Test.YtccndnckceagfaaDoorRRefCheck
import Derived.Test.YtccndnckceagfaaDoorROut
namespace Go.Proofs.YtccndnckceagfaaDoorR
open Go.RowKit
namespace Sp
/-- the places of a source program's arguments -/
def pS (j : Nat) : Nat := if j = 0 then 97 else if j = 1 then 98 else if j = 2 then 65 else 66
/-- what Run answers -/
def RunR (s : ByteArray) (I : Inp) (fuel : Int) (st : St) (e : Int) : Prop :=
  (e ≠ 0 ∧ FormedR s e ∧ st = st0) ∨ (FormedR s 0 ∧ mayB I fuel = false ∧ e = 2 ∧ st = st0) ∨ (FormedR s 0 ∧ mayB I fuel = true ∧ e = 0 ∧ st = runG (stepT s) fuel.toNat (start pS I.cut 4))
end Sp

theorem steps_src {s : ByteArray} (hs : s.size ≤ 4096) (hp : Sp.progB (Sp.B s) s.size 0 = true) : Steps s (Sp.stepT s) where
  call := fun b st i w hS hok hi hin => step_any b s st i w hS hok hs hi hin hp
  ok := fun _ _ _ h hi => Sp.stepT_ok h hp hi
  next := fun _ _ hi h => Sp.stepT_next hp hi h

theorem info_in : (Tryd.prog.info? 29).map (·.size) = some 20 := by kernel_rfl
/-- an input read whole -/
theorem wpList_load_in {ops : Array Oper} {rest : List Oper} {op : Oper} {a : Act} {w : World} {Q : Exit → Act → World → Prop} (hgd : op.guard = none) (x : Operand) (ho : op.op = .load 29 x)
    (b : Nat) (I : Sp.Inp) (hx : a.eval x = .pointer (some ⟨b, 0, none⟩)) (hf : w.rowIs b 29 20 (inF I))
    (h : wpList Tryd.prog ops Q rest (a.put op.dst (.agg (inA I))) w) : wpList Tryd.prog ops Q (op :: rest) a w :=
  wpList_load_mid hgd 29 x ho b 0 hx ((List.range 20).map (inF I)) _ (fun j v hj => by
    have hj' : j < 20 := by have := (List.getElem?_eq_some_iff.1 hj).1; simpa using this
    rw [Nat.zero_add, hf.cell hj', ← hj]
    simp [hj']) Tryd.underlying29 rfl (by rw [List.length_map, List.length_range]; exact info_in) h
theorem playedS (s : ByteArray) (I : Sp.Inp) (fuel : Int) (w : World) (hf : Sp.FormedR s 0) (hm : Sp.mayB I fuel = true) :
    Calls Tryd.prog 40 #[.string s, .string ⟨#[97, 98, 65, 66]⟩, .agg (inA I), .int .i64 fuel] w fun e w' =>
      e = .returned (.pointer (some ⟨w.heap.size + 1, 0, none⟩)) ∧ StAt w' (w.heap.size + 1) s (Sp.runG (Sp.stepT s) fuel.toNat (Sp.start Sp.pS I.cut 4)) ∧ Below w.heap.size w w' := by
  obtain ⟨h256, hp, _⟩ := hf.zero
  have hfu := Sp.may_fuel hm
  have hz := Sp.size_of_progB hp
  have h := played_any s ⟨#[97, 98, 65, 66]⟩ Sp.pS I.cut fuel w (Sp.stepT s) (steps_src (by omega) hp) (by omega) rfl (fun j hj => by
    have hj' : j = 0 ∨ j = 1 ∨ j = 2 ∨ j = 3 := by have : j < 4 := hj; omega
    rcases hj' with rfl | rfl | rfl | rfl <;> rfl) (fun j _ => by unfold Sp.pS; repeat' split
                                                                  all_goals omega) (cut_args I fuel hm) hfu.1 hfu.2
  rwa [inA_cut] at h

def RunPost (s : ByteArray) (I : Sp.Inp) (fuel : Int) (w : World) (e : Ending) (w' : World) : Prop :=
  ∃ st f, e = .returned (.tuple #[.agg (outL st).toArray, .int .i64 f]) ∧ Sp.RunR s I fuel st f ∧ Below w.heap.size w w'

set_option maxRecDepth 20000 in
set_option maxHeartbeats 1000000 in
theorem refRun_any (s : ByteArray) (I : Sp.Inp) (fuel : Int) (w : World) (hs : s.size ≤ maxLen) :
    Calls Tryd.prog 15 #[.string s, .agg (inA I), .int .i64 fuel] w fun e w' => RunPost s I fuel w e w' := by
  have hsz := inA_size I
  go_enter Tryd.func15, Tryd.ntmps15
  go_upto_region 1 with (refine wpList_alloc_out rfl rfl ?_; intro w1 ho1 hb1 hz1; have HO1 := hidd ho1; have HB1 := hidd hb1; clear ho1 hb1)
  have RI : w1.rowIs w.heap.size 29 20 (inF I) := (in_row w I _).of_block (HB1.out.block _ (by simp))
  have B1 : Below w.heap.size w w1 := ((Below.refl _ _).alloc (Nat.le_refl _) _).trans (HB1.out.mono (by simp))
  have HRI := hidd RI
  have HBW := hidd B1
  clear RI B1 HB1
  have hz1' : w1.heap.size = w.heap.size + 2 := by rw [hz1]; simp
  have HO1' : Hid (OutAt w1 (w.heap.size + 1) 0 st0) := by have := HO1.out; simp only [World.size_alloc] at this; exact hid this
  clear HO1 hz1
  generalize hN : w.heap.size = N at *
  go_wp2_with fail
  refine (formed_any s _ hs).mono ?_
  rintro e w2 ⟨f, rfl, hf, hb2⟩
  have HF := hidd hf
  have HRI2 := hidd (HRI.out.of_block (hb2.block N (by omega)))
  have HO2 := hidd (HO1'.out.of_block (hb2.block (N + 1) (by omega)))
  have HBW2 := hidd (HBW.out.trans (hb2.mono (by omega)))
  have hsz2 := hb2.size
  clear HRI HO1' HBW hf hb2
  by_cases h0 : f = 0
  · subst h0
    go_upto_region 5 with (first | (refine wpList_load_in rfl (.tmp 4) rfl N I (by rfl) HRI2.out ?_) | (go_at_call 39; refine (may_any I fuel _).mono ?_; rintro e w3 ⟨rfl, hb3⟩; have HB3 := hidd hb3; clear hb3))
    have HRI3 := hidd (HRI2.out.of_block (HB3.out.block N (by omega)))
    have HO3 := hidd (HO2.out.of_block (HB3.out.block (N + 1) (by omega)))
    have HBW3 := hidd (HBW2.out.trans (HB3.out.mono (by omega)))
    have hsz3 := HB3.out.size
    clear HRI2 HO2 HBW2 HB3
    cases hm : Sp.mayB I fuel
    · have HM := hidd hm
      go_wp2_with (first | (refine wpList_build_out rfl rfl ?_) | (refine wpList_store_out rfl (.tmp 6) (.tmp 22) rfl (N + 1) 0 st0 st0 (by rfl) (by rfl) HO3.out ?_; intro w4 ho4 ho4'; have HO4 := hidd ho4; have HY4 := hidd ho4'; clear ho4 ho4'))
      refine bodyPost_ret (v := .tuple #[.agg (outL st0).toArray, .int .i64 2]) (results_cell_two (q := 6) (r := 7) (a := ⟨N + 1, 0, none⟩) rfl _ _ (by rfl) (run_loadVar_out HO4.out)) (by rfl) ⟨st0, 2, rfl, Or.inr (Or.inl ⟨HF.out, HM.out, rfl, rfl⟩), ?_⟩
      rw [hN]
      exact HBW3.out.trans (HY4.out.below (by omega))
    · have HM := hidd hm
      have HP := hidd (playedS s I fuel w3 HF.out HM.out)
      go_wp2_with (first | (refine wpList_load_in rfl (.tmp 4) rfl N I (by rfl) HRI3.out ?_) | (go_at_call 40; refine HP.out.mono ?_; rintro e w5 ⟨rfl, hs5, hb5⟩; have HS5 := hidd hs5; have HB5 := hidd hb5; clear hs5 hb5) | (refine wpList_load_out rfl (.tmp 29) rfl (w3.heap.size + 1) 130 _ (by rfl) HS5.out.out ?_) | (refine wpList_store_out rfl (.tmp 6) (.tmp 30) rfl (N + 1) 0 _ st0 (by rfl) (by rfl) (HO3.out.of_block (HB5.out.block (N + 1) (by omega))) ?_; intro w4 ho4 ho4'; have HO4 := hidd ho4; have HY4 := hidd ho4'; clear ho4 ho4'))
      refine bodyPost_ret (v := .tuple #[.agg (outL (Sp.runG (Sp.stepT s) fuel.toNat (Sp.start Sp.pS I.cut 4))).toArray, .int .i64 0]) (results_cell_two (q := 6) (r := 7) (a := ⟨N + 1, 0, none⟩) rfl _ _ (by rfl) (run_loadVar_out HO4.out)) (by rfl) ⟨_, 0, rfl, Or.inr (Or.inr ⟨HF.out, HM.out, rfl, rfl⟩), ?_⟩
      rw [hN]
      exact (HBW3.out.trans (HB5.out.mono (by omega))).trans (HY4.out.below (by omega))
  · have HF0 := hidd h0
    go_wp2_with (first | (refine wpList_build_out rfl rfl ?_) | (refine wpList_store_out rfl (.tmp 6) (.tmp 15) rfl (N + 1) 0 st0 st0 (by rfl) (by rfl) HO2.out ?_; intro w4 ho4 ho4'; have HO4 := hidd ho4; have HY4 := hidd ho4'; clear ho4 ho4'))
    refine bodyPost_ret (v := .tuple #[.agg (outL st0).toArray, .int .i64 f]) (results_cell_two (q := 6) (r := 7) (a := ⟨N + 1, 0, none⟩) rfl _ _ (by rfl) (run_loadVar_out HO4.out)) (by rfl) ⟨st0, f, rfl, Or.inl ⟨HF0.out, HF.out, rfl⟩, ?_⟩
    rw [hN]
    exact HBW2.out.trans (HY4.out.below (by omega))
end Go.Proofs.YtccndnckceagfaaDoorR
