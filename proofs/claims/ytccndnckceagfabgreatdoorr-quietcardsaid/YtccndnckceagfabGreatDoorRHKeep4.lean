/-
  What the statements without the document's answer do to their arguments: numbers folded into bounds; eight words against eight.
  An input whose numbers are folded into their bounds.
  Runs with more fuel; the smallest program: plain mathematics.
  The statement on runs with more fuel, walked.
-/
import Derived.Test.YtccndnckceagfabGreatDoorRHRunA
import Derived.Test.YtccndnckceagfabGreatDoorRHRunE
namespace Go.Proofs.YtccndnckceagfabGreatDoorR
open Go.RowKit
namespace Sp
/-- a number folded into 0 .. n - 1 -/
def pk (c n : Int) : Int := (if c < 0 then -(c + 1) else c) % n
theorem pk_bd (c n : Int) (hn : 1 ≤ n) : 0 ≤ pk c n ∧ pk c n < n := ⟨Int.emod_nonneg _ (by omega), Int.emod_lt_of_pos _ (by omega)⟩
/-- an input whose numbers are whole numbers of the machine -/
def Inp.wide (I : Inp) : Prop := ∀ j, j < 20 → -9223372036854775808 ≤ I.at' j ∧ I.at' j ≤ 9223372036854775807
/-- the first a arguments and the first b words of the memories are folded -/
def tmTo (I : Inp) (a b c : Nat) : Inp := ⟨fun k => if k < a then pk (I.args k) 65536 else I.args k, fun k => if k < b then pk (I.pub k) 65536 else I.pub k, fun k => if k < c then pk (I.sec k) 65536 else I.sec k⟩
def tm (I : Inp) : Inp := tmTo I 4 8 8
end Sp

set_option maxHeartbeats 400000 in
theorem pick_any (c n : Int) (w : World) (hc : -9223372036854775808 ≤ c ∧ c ≤ 9223372036854775807) (hn : 1 ≤ n ∧ n ≤ 1000000) :
    Calls Tryz.prog 7 #[.int .i64 c, .int .i64 n] w fun e w' => e = .returned (.int .i64 (Sp.pk c n)) ∧ w = w' := by
  have hn0 : n ≠ 0 := by omega
  by_cases h : c < 0
  · have HP := hid (show Sp.pk c n = (-(c + 1)) % n by unfold Sp.pk; rw [if_pos h])
    have he : Int.tmod (-(c + 1)) n = (-(c + 1)) % n := Int.tmod_eq_emod_of_nonneg (by omega)
    go_enter Tryz.func7, Tryz.ntmps7
    go_wp2_with fail
    go_ret
    refine ⟨ret_int ?_, rfl⟩
    rw [HP.out]
    first | rfl | (simp; omega) | skip
  · have HP := hid (show Sp.pk c n = c % n by unfold Sp.pk; rw [if_neg h])
    go_enter Tryz.func7, Tryz.ntmps7
    go_wp2_with fail
    go_ret
    refine ⟨ret_int ?_, rfl⟩
    rw [HP.out]
    first | rfl | (simp; omega) | skip

theorem karr_row (w : World) (f : Nat → Int) (t : Nat) : (w.alloc (.cells (arrL f).toArray t)).rowIs w.heap.size t 8 (fun j => .int .i64 (f j)) := by
  have h := World.rowIs_alloc w (arrL f).toArray t (fun j => .int .i64 (f j)) (fun r hr => by
    have hr' : r < 8 := by simpa [arrL_len] using hr
    rw [List.getElem?_toArray]
    exact arrL_at f r hr')
  have hs : (arrL f).toArray.size = 8 := by simp [arrL_len]
  rw [hs] at h
  exact h

set_option maxHeartbeats 1000000 in
theorem kwords_same (f : Nat → Int) (w : World) :
    Calls Tryz.prog 12 #[.agg (arrL f).toArray, .agg (arrL f).toArray] w fun e w' => e = .returned (.bool true) ∧ Below w.heap.size w w' := by
  have hs : (arrL f).toArray.size = 8 := by simp [arrL_len]
  have HR1 := hid ((karr_row w f 23).alloc (.cells (arrL f).toArray 23))
  have HR2 : Hid (((w.alloc (.cells (arrL f).toArray 23)).alloc (.cells (arrL f).toArray 23)).rowIs (w.heap.size + 1) 23 8 (fun j => .int .i64 (f j))) := by
    have := karr_row (w.alloc (.cells (arrL f).toArray 23)) f 23
    rw [World.size_alloc] at this
    exact hid this
  have HB := hid (((Below.refl w.heap.size w).alloc (Nat.le_refl _) (.cells (arrL f).toArray 23)).alloc (by simp) (.cells (arrL f).toArray 23))
  generalize hA : (arrL f).toArray = A at *
  go_enter Tryz.func12, Tryz.ntmps12
  go_wp2_with fail
  go_loopw [5] (fun jv wr => ∃ j : Nat, j ≤ 8 ∧ jv = .int .i64 j ∧ wr.rowIs w.heap.size 23 8 (fun j => .int .i64 (f j)) ∧ wr.rowIs (w.heap.size + 1) 23 8 (fun j => .int .i64 (f j)) ∧ Below w.heap.size w wr) (fun jv _ => 8 - (intOf jv).toNat)
  case atStart => exact ⟨0, by omega, rfl, HR1.out, HR2.out, HB.out⟩
  case round =>
    obtain ⟨j, hj, rfl, hr1, hr2, hbw⟩ := hrel
    have HQ1 := hid hr1
    have HQ2 := hid hr2
    have HQB := hid hbw
    clear hbw
    by_cases hlt : j < 8
    · have c1 := hr1.cell (i := j) hlt
      have c2 := hr2.cell (i := j) hlt
      clear hr1 hr2
      go_wp2_with fail
      go_quiet (fail)
      go_wp2_with fail
      go_roundw
      case rel => exact ⟨j + 1, by omega, by go_num, HQ1.out, HQ2.out, below_drewN HQB.out _⟩
      case measure => simp [intOf]; omega
    · clear hr1 hr2
      go_wp2_with fail
      go_ret
      exact ⟨rfl, HQB.out⟩
end Go.Proofs.YtccndnckceagfabGreatDoorR

namespace Go.Proofs.YtccndnckceagfabGreatDoorR
open Go.RowKit
namespace Sp
theorem tm_args (I : Inp) (a b c j : Nat) (_hj : j < 4) : (tmTo I a b c).args j = if j < a then pk (I.args j) 65536 else I.args j := rfl
theorem at_args (I : Inp) (j : Nat) (hj : j < 4) : I.at' j = I.args j := by unfold Inp.at'; rw [if_pos hj]
theorem at_pub (I : Inp) (j : Nat) (hj : j < 8) : I.at' (4 + j) = I.pub j := by unfold Inp.at'; rw [if_neg (by omega), if_pos (by omega), Nat.add_sub_cancel_left]
theorem at_sec (I : Inp) (j : Nat) : I.at' (12 + j) = I.sec j := by unfold Inp.at'; rw [if_neg (by omega), if_neg (by omega), Nat.add_sub_cancel_left]
/-- one more argument is folded -/
theorem tm_step1 (I : Inp) (j : Nat) (hj : j < 4) (i : Nat) : (tmTo I (j + 1) 0 0).at' i = if i = j then pk (I.args j) 65536 else (tmTo I j 0 0).at' i := by
  unfold Inp.at' tmTo
  simp only
  by_cases e : i = j
  · subst e; rw [if_pos hj, if_pos (by omega), if_pos rfl]
  · rw [if_neg e]
    by_cases c : i < 4
    · rw [if_pos c, if_pos c]
      by_cases c2 : i < j
      · rw [if_pos (by omega), if_pos c2]
      · rw [if_neg (by omega), if_neg c2]
    · rw [if_neg c, if_neg c]
theorem tm_step2 (I : Inp) (j : Nat) (hj : j < 8) (i : Nat) : (tmTo I 4 (j + 1) j).at' i = if i = 4 + j then pk (I.pub j) 65536 else (tmTo I 4 j j).at' i := by
  unfold Inp.at' tmTo
  simp only
  by_cases e : i = 4 + j
  · subst e
    rw [if_neg (by omega), if_pos (by omega), Nat.add_sub_cancel_left, if_pos (by omega), if_pos rfl]
  · rw [if_neg e]
    by_cases c : i < 4
    · simp only [if_pos c]
    · rw [if_neg c, if_neg c]
      by_cases c2 : i < 12
      · rw [if_pos c2, if_pos c2]
        by_cases c3 : i - 4 < j
        · rw [if_pos (by omega), if_pos c3]
        · rw [if_neg (by omega), if_neg c3]
      · rw [if_neg c2, if_neg c2]
theorem tm_step3 (I : Inp) (j : Nat) (i : Nat) : (tmTo I 4 (j + 1) (j + 1)).at' i = if i = 12 + j then pk (I.sec j) 65536 else (tmTo I 4 (j + 1) j).at' i := by
  unfold Inp.at' tmTo
  simp only
  by_cases e : i = 12 + j
  · subst e
    rw [if_neg (by omega), if_neg (by omega), Nat.add_sub_cancel_left, if_pos (by omega), if_pos rfl]
  · rw [if_neg e]
    by_cases c : i < 4
    · simp only [if_pos c]
    · rw [if_neg c, if_neg c]
      by_cases c2 : i < 12
      · rw [if_pos c2, if_pos c2]
      · rw [if_neg c2, if_neg c2]
        by_cases c3 : i - 12 < j
        · rw [if_pos (by omega), if_pos c3]
        · rw [if_neg (by omega), if_neg c3]
end Sp
theorem in_set {w : World} {b t : Nat} {I J : Sp.Inp} (h : w.rowIs b t 20 (inF I)) (k : Nat) (x : Int) (e : ∀ i, J.at' i = if i = k then x else I.at' i) : (w.setCell ⟨b, k, none⟩ (.int .i64 x)).rowIs b t 20 (inF J) :=
  (h.set k _).congr fun j _ => by
    unfold inF
    rw [e j]
    split <;> rfl
def in0 : Sp.Inp := ⟨fun _ => 0, fun _ => 0, fun _ => 0⟩
theorem run_alloc_in (w : World) : (Instr.alloc 25 true (.tuple #[])).run Tryz.prog w = .ok (.pointer (some ⟨w.heap.size, 0, none⟩)) (w.alloc (.cells (inA in0) 25)) := by kernel_rfl
theorem wpList_alloc_in {ops : Array Oper} {rest : List Oper} {op : Oper} {a : Act} {w : World} {Q : Exit → Act → World → Prop} (hgd : op.guard = none) (ho : op.op = .alloc 25)
    (h : ∀ w', w'.rowIs w.heap.size 25 20 (inF in0) → Below w.heap.size w w' → w'.heap.size = w.heap.size + 1 → wpList Tryz.prog ops Q rest (a.put op.dst (.pointer (some ⟨w.heap.size, 0, none⟩))) w') : wpList Tryz.prog ops Q (op :: rest) a w := by
  refine wpList_plain hgd fun K hK => ?_
  unfold Oper.wp execOp
  simp only [ho, Sem.run_bind, run_alloc_in, Result.andThen_ok, Sem.run_pure]
  exact hK _ _ (h _ (in_row _ _ _) ((Below.refl _ _).alloc (Nat.le_refl _) _) (by simp))
theorem inL_one (I : Sp.Inp) : ∀ u ∈ (List.range 20).map (inF I), u.oneCell' = true := by
  intro u hu
  simp only [List.mem_map] at hu
  obtain ⟨r, _, rfl⟩ := hu
  rfl
theorem wpList_store_in {ops : Array Oper} {rest : List Oper} {op : Oper} {a : Act} {w : World} {Q : Exit → Act → World → Prop} (hgd : op.guard = none) (x y : Operand) (ho : op.op = .store 25 x y)
    (b : Nat) (I J : Sp.Inp) (hx : a.eval x = .pointer (some ⟨b, 0, none⟩)) (hy : a.eval y = .agg (inA I)) (hT : w.rowIs b 25 20 (inF J))
    (h : ∀ w', w'.rowIs b 25 20 (inF I) → Only b w w' → wpList Tryz.prog ops Q rest (a.put op.dst undef) w') : wpList Tryz.prog ops Q (op :: rest) a w := by
  have hl : ((List.range 20).map (inF I)).length = 20 := by simp
  refine wpList_store_mid hgd 25 x y ho b 0 (inA I) hx hy (by rw [inA_size]; exact row_there hT 0 20 (by omega)) (by rw [inA_size]; exact info_in) (all_oneCell_toArray (inL_one I)) (h _ ?_ ?_)
  · have := row_setCells hT ((List.range 20).map (inF I)) 0 (by rw [hl]; omega)
    refine this.congr fun j hj => ?_
    rw [if_pos (by rw [hl]; omega), Nat.sub_zero, List.getD_eq_getElem?_getD, List.getElem?_map, List.getElem?_range hj]
    rfl
  · exact only_setCells w b 0 ((List.range 20).map (inF I))
theorem run_loadVar_in {w : World} {b : Nat} {I : Sp.Inp} (h : w.rowIs b 25 20 (inF I)) : (loadVar 25 ⟨b, 0, none⟩).run Tryz.prog w = .ok (.agg (inA I)) w :=
  run_loadVar_mid w b 0 25 ((List.range 20).map (inF I)) _ (fun j v hj => by
    have hj' : j < 20 := by have := (List.getElem?_eq_some_iff.1 hj).1; simpa using this
    rw [Nat.zero_add, h.cell hj', ← hj]
    simp [hj']) Tryz.underlying25 rfl (by rw [List.length_map, List.length_range]; exact info_in)

set_option maxRecDepth 20000 in
set_option maxHeartbeats 2000000 in
theorem tame_any (I : Sp.Inp) (w : World) (hI : I.wide) :
    Calls Tryz.prog 4 #[.agg (inA I)] w fun e w' => e = .returned (.agg (inA (Sp.tm I))) ∧ Below w.heap.size w w' := by
  have hsz := inA_size I
  have HRI := hid (in_row w I 25)
  have HBB := hid ((Below.refl w.heap.size w).alloc (Nat.le_refl _) (.cells (inA I) 25))
  have HW := hid hI
  clear hI
  go_enter Tryz.func4, Tryz.ntmps4
  go_upto_region 2 with (refine wpList_alloc_in rfl rfl ?_; intro w1 ho1 hb1 hz1; have HO1 := hidd ho1; have HB1 := hidd hb1; clear ho1 hb1)
  have HRI1 := hid (HRI.out.of_block (HB1.out.block w.heap.size (by simp)))
  have HO1' : Hid (w1.rowIs (w.heap.size + 1) 25 20 (inF in0)) := by have := HO1.out; simp only [World.size_alloc] at this; exact hid this
  have HBW := hid (HBB.out.trans (HB1.out.mono (by simp)))
  clear HO1 HRI HBB HB1 hz1
  generalize hN : w.heap.size = N at *
  go_loopw [3] (fun jv wr => ∃ j : Nat, j ≤ 4 ∧ jv = .int .i64 j ∧ wr.rowIs N 25 20 (inF (Sp.tmTo I j 0 0)) ∧ wr.rowIs (N + 1) 25 20 (inF in0) ∧ Below N w wr) (fun jv _ => 4 - (intOf jv).toNat)
  case atStart =>
    refine ⟨0, by omega, rfl, HRI1.out.congr (fun j _ => ?_), HO1'.out, HBW.out⟩
    rfl
  case round =>
    obtain ⟨j, hj, rfl, hr, ho, hb⟩ := hrel
    have HO := hid ho
    have HB := hid hb
    have HR := hid hr
    clear ho hb
    by_cases hlt : j < 4
    · have c := in_args hr j hlt
      have fz := hr.frozen j
      rw [Sp.tm_args I j 0 0 j hlt, if_neg (by omega)] at c
      have hw := HW.out j (by omega)
      rw [Sp.at_args I j hlt] at hw
      have HPK := hid (pick_any (I.args j) 65536 wr hw (by omega))
      have HS := hid (in_set (J := Sp.tmTo I (j + 1) 0 0) HR.out j (Sp.pk (I.args j) 65536) (fun i => Sp.tm_step1 I j hlt i))
      clear hr hw
      generalize Sp.pk (I.args j) 65536 = z at *
      generalize I.args j = y at *
      go_wp2_with (go_at_call 7; refine HPK.out.mono ?_; rintro e w' ⟨rfl, rfl⟩)
      go_roundw
      case rel => exact ⟨j + 1, by omega, by go_num, HS.out, HO.out.of_block (set_other (by omega)), HB.out.setCell (Nat.le_refl _) _⟩
      case measure => simp [intOf]; omega
    · have hj4 : j = 4 := by omega
      rw [hj4] at hr
      have HR4 := hid hr
      clear hr HR hj4
      go_wp2_with fail
      go_loopw [4] (fun jv wr => ∃ j : Nat, j ≤ 8 ∧ jv = .int .i64 j ∧ wr.rowIs N 25 20 (inF (Sp.tmTo I 4 j j)) ∧ wr.rowIs (N + 1) 25 20 (inF in0) ∧ Below N w wr) (fun jv _ => 8 - (intOf jv).toNat)
      case atStart => exact ⟨0, by omega, rfl, HR4.out, HO.out, HB.out⟩
      case round =>
        obtain ⟨j, hj, rfl, hr, ho, hb⟩ := hrel
        have HO := hid ho
        have HB := hid hb
        have HR := hid hr
        clear ho hb
        by_cases hlt : j < 8
        · have c1 := in_pub hr j hlt
          have c2 := in_sec hr j hlt
          have f1 := hr.frozen (4 + j)
          have f2 := hr.frozen (12 + j)
          have e1 : (Sp.tmTo I 4 j j).pub j = I.pub j := by show (if j < j then _ else _) = _; rw [if_neg (by omega)]
          have e2 : (Sp.tmTo I 4 j j).sec j = I.sec j := by show (if j < j then _ else _) = _; rw [if_neg (by omega)]
          rw [e1] at c1
          rw [e2] at c2
          have hw1 := HW.out (4 + j) (by omega)
          rw [Sp.at_pub I j hlt] at hw1
          have hw2 := HW.out (12 + j) (by omega)
          rw [Sp.at_sec I j] at hw2
          have HPK1 := hid (pick_any (I.pub j) 65536 wr hw1 (by omega))
          have HPK2 := hid (fun W => pick_any (I.sec j) 65536 W hw2 (by omega))
          have HS := hid (in_set (J := Sp.tmTo I 4 (j + 1) (j + 1)) (in_set (J := Sp.tmTo I 4 (j + 1) j) HR.out (4 + j) (Sp.pk (I.pub j) 65536) (fun i => Sp.tm_step2 I j hlt i)) (12 + j) (Sp.pk (I.sec j) 65536) (fun i => Sp.tm_step3 I j i))
          clear hr hw1 hw2 e1 e2
          generalize Sp.pk (I.pub j) 65536 = z1 at *
          generalize Sp.pk (I.sec j) 65536 = z2 at *
          generalize I.pub j = y1 at *
          generalize I.sec j = y2 at *
          go_wp2_with (first | (go_at_call_of 7 y1; refine HPK1.out.mono ?_; rintro e w' ⟨rfl, rfl⟩) | (go_at_call_of 7 y2; refine (HPK2.out _).mono ?_; rintro e w' ⟨rfl, rfl⟩))
          go_roundw
          case rel => exact ⟨j + 1, by omega, by go_num, HS.out, (HO.out.of_block (set_other (by omega))).of_block (set_other (by omega)), (HB.out.setCell (Nat.le_refl _) _).setCell (Nat.le_refl _) _⟩
          case measure => simp [intOf]; omega
        · obtain rfl : j = 8 := by omega
          clear hr
          go_wp2_with (first | (refine wpList_load_in rfl (.tmp 1) rfl N (Sp.tm I) (by rfl) HR.out ?_) | (refine wpList_store_in rfl (.tmp 2) (.tmp 37) rfl (N + 1) (Sp.tm I) in0 (by rfl) (by rfl) HO.out ?_; intro w4 ho4 ho4'; have HO4 := hidd ho4; have HY4 := hidd ho4'; clear ho4 ho4'))
          refine bodyPost_ret (v := .agg (inA (Sp.tm I))) (results_cell_one (q := 2) (a := ⟨N + 1, 0, none⟩) rfl _ _ (by rfl) (run_loadVar_in HO4.out)) (by rfl) ⟨rfl, ?_⟩
          rw [hN]
          exact HB.out.trans (HY4.out.below (by omega))
end Go.Proofs.YtccndnckceagfabGreatDoorR

namespace Go.Proofs.YtccndnckceagfabGreatDoorR
open Go.RowKit
namespace Sp

theorem memO_tr (st : St) (o a b n : Int) (T : ByteArray) : ∃ t, (memO st o a b n T).trace = T ++ t := by
  unfold memO memS
  repeat' split
  all_goals first | exact ⟨⟨#[33]⟩, rfl⟩ | exact ⟨⟨#[]⟩, (ByteArray.append_empty).symm⟩
theorem stepT_tr (s : ByteArray) (st : St) (i : Nat) : ∃ t, (stepT s st i).1.trace = st.trace ++ t := by
  have em : ∀ t : ByteArray, t = t ++ ⟨#[]⟩ := fun t => (ByteArray.append_empty).symm
  unfold stepT
  split
  · exact ⟨_, em _⟩
  split
  · exact ⟨_, em _⟩
  split
  · split
    · exact ⟨_, rfl⟩
    · exact ⟨_, rfl⟩
  split
  · obtain ⟨t, h⟩ := memO_tr { st with next := (i : Int) + 1 } (B s (4 * i)) (B s (4 * i + 1)) (B s (4 * i + 2)) (st.hold (B s (4 * i + 2)).toNat) (st.trace ++ (s.extract (4 * i) (4 * i + 4)).extract 0 1 ++ ⟨(Lib.decDigits (st.hold (B s (4 * i + 2)).toNat).toNat).toArray⟩)
    exact ⟨_, by rw [h, ByteArray.append_assoc, ByteArray.append_assoc]⟩
  split
  · obtain ⟨t, h⟩ := memO_tr { st with next := (i : Int) + 1 } (B s (4 * i)) (B s (4 * i + 1)) (B s (4 * i + 2)) (st.hold (B s (4 * i + 1)).toNat) (st.trace ++ (s.extract (4 * i) (4 * i + 4)).extract 0 1 ++ ⟨(Lib.decDigits (st.hold (B s (4 * i + 1)).toNat).toNat).toArray⟩)
    exact ⟨_, by rw [h, ByteArray.append_assoc, ByteArray.append_assoc]⟩
  split
  · exact ⟨_, em _⟩
  split
  · exact ⟨_, em _⟩
  · exact ⟨_, em _⟩
theorem memO_end (st : St) (o a b n : Int) (T : ByteArray) (h : ¬ n < 8) : (memO st o a b n T).status = 1 := by
  unfold memO
  rw [if_neg h]
theorem stepT_end (s : ByteArray) (st : St) (i : Nat) (h : (stepT s st i).2 = false) : (stepT s st i).1.status ≠ 2 := by
  revert h
  unfold stepT
  split
  · intro _; show (0 : Int) ≠ 2; omega
  split
  · intro h; cases h
  split
  · split <;> (intro h; cases h)
  split
  · intro h; rw [memO_end _ _ _ _ _ _ (of_decide_eq_false h)]; omega
  split
  · intro h; rw [memO_end _ _ _ _ _ _ (of_decide_eq_false h)]; omega
  split
  · intro h; cases h
  split
  · intro h; cases h
  · intro h; cases h
theorem runG_tr (s : ByteArray) : ∀ (f : Nat) (st : St), ∃ t, (runG (stepT s) f st).trace = st.trace ++ t := by
  intro f
  induction f with
  | zero => intro st; exact ⟨⟨#[]⟩, (ByteArray.append_empty).symm⟩
  | succ f ih =>
    intro st
    simp only [runG]
    obtain ⟨t, h⟩ := stepT_tr s st st.next.toNat
    split
    · obtain ⟨u, hu⟩ := ih (stepT s st st.next.toNat).1
      exact ⟨t ++ u, by rw [hu, h, ByteArray.append_assoc]⟩
    · exact ⟨t, h⟩
/-- with more fuel -/
theorem runG_more (s : ByteArray) (d : Nat) : ∀ (f : Nat) (st : St), ((runG (stepT s) f st).status = 2 → ∃ t, (runG (stepT s) (f + d) st).trace = (runG (stepT s) f st).trace ++ t) ∧ ((runG (stepT s) f st).status ≠ 2 → runG (stepT s) (f + d) st = runG (stepT s) f st) := by
  intro f
  induction f with
  | zero =>
    intro st
    refine ⟨fun _ => ?_, fun h => absurd rfl h⟩
    rw [Nat.zero_add]
    exact runG_tr s d st
  | succ f ih =>
    intro st
    rw [show f + 1 + d = (f + d) + 1 by omega]
    simp only [runG]
    cases hb : (stepT s st st.next.toNat).2
    · rw [if_neg (by simp)]
      exact ⟨fun h => absurd h (stepT_end s st _ hb), fun _ => rfl⟩
    · rw [if_pos rfl, if_pos rfl]
      exact ih _

/-- the smallest program -/
def small : ByteArray := ⟨#[114, 97, 46, 46]⟩
theorem small_prog : progB (B small) small.size 0 = true := by decide
theorem small_want (v : Int) (k : Nat) (h : wantN (B small) 1 v k 0 = true) : v = 97 := by
  have hr : rdAt (B small) v 0 = (decide ((97 : Int) = v)) := by
    unfold rdAt rdB
    have b0 : B small (4 * 0) = 114 := by decide
    have b1 : B small (4 * 0 + 1) = 97 := by decide
    rw [b0, b1]
    simp [arithB]
    rfl
  have hn : nextL (B small) 1 0 = [] := by decide
  cases k with
  | zero =>
    simp only [wantN] at h
    rw [hr] at h
    exact (of_decide_eq_true h).symm
  | succ k =>
    simp only [wantN] at h
    rw [hr, hn] at h
    simp at h
    exact h.symm
theorem small_formed : FormedR small 0 := by
  refine Or.inr (Or.inr (Or.inr ⟨by decide, small_prog, ?_, rfl⟩))
  rintro ⟨v, _, ha, k, hk⟩
  have := small_want v k hk
  subst this
  exact absurd ha (by decide)
theorem tm_may (I : Inp) (n : Int) (h0 : 0 ≤ n) (h1 : n ≤ 20000) : mayB (tm I) n = true := by
  unfold mayB
  rw [Bool.and_eq_true]
  refine ⟨List.all_eq_true.2 fun j hj => ?_, decide_eq_true ⟨h0, h1⟩⟩
  have hj' := List.mem_range.1 hj
  have p := fun c => pk_bd c 65536 (by omega)
  unfold valB Inp.at' tm tmTo
  simp only
  refine decide_eq_true ?_
  by_cases c1 : j < 4
  · rw [if_pos c1, if_pos c1]; have := p (I.args j); omega
  · rw [if_neg c1]
    by_cases c2 : j < 12
    · rw [if_pos c2, if_pos (by omega)]; have := p (I.pub (j - 4)); omega
    · rw [if_neg c2, if_pos (by omega)]; have := p (I.sec (j - 12)); omega
/-- what Run tells where nothing is refused -/
theorem RunR.good {s : ByteArray} {I : Inp} {fuel : Int} {st : St} {e : Int} (h : RunR s I fuel st e) (hf : FormedR s 0) (hm : mayB I fuel = true) : e = 0 ∧ st = runG (stepT s) fuel.toNat (start pS I.cut 4) := by
  rcases h with ⟨a, b, c⟩ | ⟨a, b, c, d⟩ | ⟨a, b, c, d⟩
  · exact absurd (b.eq hf) a
  · rw [hm] at b; cases b
  · exact ⟨c, d⟩
theorem RunR.formed {s : ByteArray} {I : Inp} {fuel : Int} {st : St} {e : Int} (h : RunR s I fuel st e) (he : e = 0) : FormedR s 0 := by
  rcases h with ⟨a, b, c⟩ | ⟨a, b, c, d⟩ | ⟨a, b, c, d⟩
  · exact absurd he a
  · exact a
  · exact a
theorem small_run0 (I : Inp) : (runG (stepT small) 0 (start pS I 4)).status = 2 := rfl
theorem small_run1 (I : Inp) : (runG (stepT small) 1 (start pS I 4)).status = 0 ∧ (runG (stepT small) 1 (start pS I 4)).value = I.args 0 := by
  have b0 : B small (4 * 0) = 114 := by decide
  have b1 : B small (4 * 0 + 1) = 97 := by decide
  have e : stepT small (start pS I 4) 0 = ({ start pS I 4 with next := (0 : Nat) + 1, status := 0, value := (start pS I 4).hold (97 : Int).toNat }, false) := by
    unfold stepT
    rw [b0, b1, if_pos rfl]
  have e2 : runG (stepT small) 1 (start pS I 4) = (stepT small (start pS I 4) 0).1 := by
    show (if (stepT small (start pS I 4) (start pS I 4).next.toNat).2 = true then _ else _) = _
    have : (start pS I 4).next.toNat = 0 := rfl
    rw [this, e]
    rfl
  rw [e2, e]
  exact ⟨rfl, rfl⟩
end Sp
end Go.Proofs.YtccndnckceagfabGreatDoorR

namespace Go.Proofs.YtccndnckceagfabGreatDoorR
open Go.RowKit

theorem head_of {x : ByteArray} (t : ByteArray) : (x ++ t).extract 0 x.size = x := by
  refine Sp.ext_B (by rw [ByteArray.size_extract, ByteArray.size_append]; omega) fun j hj => ?_
  have h1 : j < x.size := by rw [ByteArray.size_extract, ByteArray.size_append] at hj; omega
  rw [← Sp.B_get _ j hj, ← Sp.B_get x j h1, ByteArray.getElem_extract]
  simp only [Nat.zero_add]
  rw [ByteArray.getElem_append_left h1]

end Go.Proofs.YtccndnckceagfabGreatDoorR
