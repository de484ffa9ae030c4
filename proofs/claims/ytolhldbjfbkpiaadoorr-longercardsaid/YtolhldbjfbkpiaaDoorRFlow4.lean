/-
  Whether a register may be read unset: the program's answer.
-/
import Derived.Test.YtolhldbjfbkpiaaDoorRFlow3
import Derived.DeepKeys
namespace Go.Proofs.YtolhldbjfbkpiaaDoorR
open Go.RowKit

theorem set_lits (S : Nat → Bool) : Tryd.prog.keyLits 3 99 (setL S) = some ((List.range 52).map (fun r => Lit.bool (S r))) := by kernel_rfl
theorem set_key : Tryd.prog.keyTypeAt 3 99 = true := by kernel_rfl
theorem set_formed (S : Nat → Bool) : (Value.agg (setL S).toArray).formed Tryd.prog 99 = true := by kernel_rfl
theorem set_cells (S : Nat → Bool) : (Value.agg (setL S).toArray).cells.toList = setL S := by simp [Value.cells]
theorem set_neq (S : Nat → Bool) (w : World) : ∃ r : Bool, (binOp .neq 99 (.agg (setL S).toArray) (.agg (setL (fun _ => false)).toArray)).run Tryd.prog w = .ok (.bool r) w ∧ (r = true ↔ ∃ x, x < 52 ∧ S x = true) := by
  obtain ⟨r, h1, h2⟩ := run_equalIn_deep (P := Tryd.prog) 9997 3 99 set_key w 3 3 (.agg (setL S).toArray) (.agg (setL (fun _ => false)).toArray) ((List.range 52).map (fun r => Lit.bool (S r))) ((List.range 52).map (fun _ => Lit.bool false)) (set_formed S) (set_formed _) (by rw [set_cells]; exact set_lits S) (by rw [set_cells]; exact set_lits _)
  refine ⟨!r, ?_, ?_⟩
  · rw [run_neq_struct, show (10000 : Nat) = 9997 + 3 from rfl, h1]
    rfl
  · cases r
    · simp only [Bool.not_false, true_iff]
      have h3 : ¬ (List.range 52).map (fun r => Lit.bool (S r)) = (List.range 52).map (fun _ => Lit.bool false) := fun e => by have := h2.2 e; cases this
      apply Classical.byContradiction
      intro hn
      apply h3
      refine List.map_congr_left (fun x hx => ?_)
      have hx' := List.mem_range.1 hx
      cases hS : S x
      · rfl
      · exact absurd ⟨x, hx', hS⟩ hn
    · have h3 := h2.1 rfl
      simp only [Bool.not_true, Bool.false_eq_true, false_iff]
      rintro ⟨x, hx, hS⟩
      have h4 := congrArg (fun l => l[x]?) h3
      simp [hx, hS] at h4

theorem set_guard : Tryd.prog.eqGuardType Tryd.prog.depth 99 = false := by kernel_rfl
set_option maxRecDepth 20000 in
theorem wpList_neq_set {ops : Array Oper} {rest : List Oper} {op : Oper} {a : Act} {w : World} {Q : Exit → Act → World → Prop} (hgd : op.guard = none) (x y : Operand) (ho : op.op = .binOp .neq 99 x y 99)
    (S : Nat → Bool) (r : Bool) (hx : a.eval x = .agg (setL S).toArray) (hy : a.eval y = .agg (setL (fun _ => false)).toArray) (hr : (binOp .neq 99 (.agg (setL S).toArray) (.agg (setL (fun _ => false)).toArray)).run Tryd.prog w = .ok (.bool r) w)
    (h : wpList Tryd.prog ops Q rest (a.put op.dst (.bool r)) w) : wpList Tryd.prog ops Q (op :: rest) a w := by
  refine wpList_plain hgd fun K hK => ?_
  unfold Oper.wp execOp
  simp only [ho, hx, hy, Sem.run_bind, run_eqGuard_agg w .neq 99 x y (setL S).toArray (setL (fun _ => false)).toArray set_guard, Result.andThen_ok, hr, Sem.run_pure]
  exact hK _ _ h

/-- the registers a, b, A, B as the package variable Arguments has them -/
structure ArgsAt (w : World) : Prop where
  c0 : w.cell? ⟨0, 0, none⟩ = some (.int .i64 0)
  c1 : w.cell? ⟨0, 1, none⟩ = some (.int .i64 1)
  c2 : w.cell? ⟨0, 2, none⟩ = some (.int .i64 26)
  c3 : w.cell? ⟨0, 3, none⟩ = some (.int .i64 27)
theorem ArgsAt.lt {w : World} (h : ArgsAt w) : 0 < w.heap.size := block_lt_of_cell h.c0
theorem ArgsAt.of_block {w w' : World} (h : ArgsAt w) (e : w'.heap[0]? = w.heap[0]?) : ArgsAt w' :=
  ⟨(World.cell?_of_block (a := ⟨0, 0, none⟩) e).trans h.c0, (World.cell?_of_block (a := ⟨0, 1, none⟩) e).trans h.c1, (World.cell?_of_block (a := ⟨0, 2, none⟩) e).trans h.c2, (World.cell?_of_block (a := ⟨0, 3, none⟩) e).trans h.c3⟩
theorem ArgsAt.move {w w' : World} (h : ArgsAt w) (hb : Below w.heap.size w w') : ArgsAt w' := h.of_block (hb.block 0 h.lt)
def argR (n : Nat) : Int := if n = 0 then 0 else if n = 1 then 1 else if n = 2 then 26 else 27
def cutTo (S : Nat → Bool) : Nat → Nat → Bool
  | 0 => S
  | n + 1 => fun x => if (x : Int) = argR n then false else cutTo S n x

set_option maxRecDepth 20000 in
set_option maxHeartbeats 1000000 in
theorem mayReadUnset_any (p nb B : Nat) (C : List Sp.Ins) (L : List (Nat × Nat)) (w : World) (hP : ProgAt w B p C L) (hA : ArgsAt w) (hnb : L.length = nb) (hnb10 : nb ≤ 10) (hnb1 : 1 ≤ nb)
    (hL : ∀ b (h : b < L.length), L[b].1 ≤ L[b].2 ∧ L[b].2 < C.length) (hC : C.length ≤ 1000) (hr : ∀ i, i ∈ C → i.d < 52 ∧ i.x < 52 ∧ i.y < 52) :
    Calls Tryd.prog 42 #[.pointer (some ⟨p, 0, none⟩)] w fun e w' => ∃ r, e = .returned (.bool r) ∧ (r = true ↔ ∃ x, x < 52 ∧ cutTo (Sp.rounds C L nb nb 0) 4 x = true) ∧ Below w.heap.size w w' := by
  obtain ⟨S, hS⟩ : ∃ S, Sp.rounds C L nb nb 0 = S := ⟨_, rfl⟩
  have HSE := hid hS
  rw [hS]
  have HA := hid hA
  clear hA hS
  have hnz : ((nb : Int) == 0) = false := beq_eq_false_iff_ne.2 (by omega)
  go_enter Tryd.func42, Tryd.ntmps42
  go_wp2_with fail
  refine (liveAtStarts_any p nb B C L w hP hnb hnb10 hnb1 hL hC hr).mono ?_
  rintro e w1 ⟨rfl, hs1, hb1⟩
  have hs0 := hs1 0 (by omega)
  rw [HSE.out, Nat.zero_mul] at hs0
  have HS1 := hid hs0
  clear hs0
  have HB1 := hid hb1
  clear hP hnb hL hC hr hs1 hb1
  go_upto_region 5 with (first | (refine wpList_load_set rfl (.tmp 12) rfl w.heap.size 0 S (by rfl) HS1.out ?_) | (refine wpList_alloc_set rfl rfl ?_; intro w2 hs2 hb2 hz2; have HS2 := hid hs2; have HB2 := hid hb2; have HZ2 := hid hz2; clear hs2 hb2 hz2) | (refine wpList_store_set rfl (.tmp 4) (.tmp 13) rfl w1.heap.size 0 S _ (by rfl) (by rfl) HS2.out ?_; intro w3 hs3 hs3' ho3; have HS3 := hid hs3; have HO3 := hid ho3; clear hs3 hs3' ho3))
  obtain ⟨m1, hm1⟩ : ∃ m1, w1.heap.size = m1 := ⟨_, rfl⟩
  have hm0 : w.heap.size ≤ m1 := by rw [← hm1]; exact HB1.out.size
  rw [hm1] at HS3 HO3 HB2
  rw [hm1]
  have HBW := hid ((HB1.out.trans (HB2.out.mono hm0)).trans (HO3.out.below (B := w.heap.size) hm0))
  clear hm1 HS1 HB1 HS2 HB2 HZ2 HO3
  go_wp2_with fail
  go_loopw [5] (fun nv wr => ∃ n : Nat, n ≤ 4 ∧ nv = .int .i64 n ∧ SetAt wr m1 0 (cutTo S n) ∧ Below w.heap.size w wr) (fun nv _ => 4 - (intOf nv).toNat)
  case atStart => exact ⟨0, by omega, rfl, HS3.out, HBW.out⟩
  case round =>
    obtain ⟨n, hn, rfl, hs, hbel⟩ := hrel
    have HS := hid hs
    have HB := hid hbel
    have ha := HA.out.move hbel
    have hc : n < 4 → wr.cell? ⟨0, n, none⟩ = some (.int .i64 (argR n)) := fun h => by
      have h4 : n = 0 ∨ n = 1 ∨ n = 2 ∨ n = 3 := by omega
      rcases h4 with rfl | rfl | rfl | rfl
      · exact ha.c0
      · exact ha.c1
      · exact ha.c2
      · exact ha.c3
    have har : argR n < 52 := by unfold argR; repeat' split <;> omega
    by_cases hlt : n < 4
    · have hcn := hc hlt
      have hne : (0 : Nat) ≠ m1 := by have := HA.out.lt; omega
      clear hs hbel ha hc
      go_wp2_with fail
      refine (put_any m1 0 (cutTo S n) (argR n) false _ HS.out har).mono ?_
      rintro e w4 ⟨rfl, hs4, ho4⟩
      have HS4 := hid hs4
      have HO4 := hid ho4
      clear hs4 ho4
      go_wp2_with fail
      go_roundw
      case rel => exact ⟨n + 1, by omega, by go_num, HS4.out, HB.out.trans (HO4.out.below hm0)⟩
      case measure => simp [intOf]; omega
    · have HN := hid (show n = 4 by omega)
      obtain ⟨r, hr1, hr2⟩ := set_neq (cutTo S n) wr
      have HR2 := hid hr2
      clear hs hbel ha hc hr2
      go_wp2_with (first | (refine wpList_load_set rfl (.tmp 4) rfl m1 0 _ (by rfl) HS.out ?_) | (refine wpList_build_set rfl rfl ?_) | (refine wpList_neq_set rfl (.tmp 22) (.tmp 23) rfl (cutTo S n) r (by rfl) (by rfl) hr1 ?_))
      go_ret
      exact ⟨r, rfl, by rw [HN.out] at HR2; exact HR2.out, HB.out⟩
end Go.Proofs.YtolhldbjfbkpiaaDoorR
