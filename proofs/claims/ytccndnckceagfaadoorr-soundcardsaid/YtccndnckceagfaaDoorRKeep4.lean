/-
  What the statements without the document's answer do to their arguments: numbers folded into bounds; eight words against eight.
  An input whose numbers are folded into their bounds.
  Runs with more fuel; the smallest program: plain mathematics.
  The statement on runs with more fuel, walked.
-/
import Derived.Test.YtccndnckceagfaaDoorRRunA
import Derived.Test.YtccndnckceagfaaDoorRRunE
namespace Go.Proofs.YtccndnckceagfaaDoorR
open Go.RowKit
namespace Sp
/-- a number folded into 0 .. n - 1 -/
def pk (c n : Int) : Int := (if c < 0 then -(c + 1) else c) % n
theorem pk_bd (c n : Int) (hn : 1 ≤ n) : 0 ≤ pk c n ∧ pk c n < n := ⟨Int.emod_nonneg _ (by omega), Int.emod_lt_of_pos _ (by omega)⟩
/-- an input whose numbers are whole numbers of the machine -/
def Inp.wide (I : Inp) : Prop := ∀ j, j < 20 → -9223372036854775808 ≤ I.at' j ∧ I.at' j ≤ 9223372036854775807
/-- the first a arguments and the first b words of the memories are folded -/
def tmTo (I : Inp) (a b c : Nat) : Inp := ⟨fun k => if k < a then pk (I.args k) 65536 else I.args k, fun k => if k < b then pk (I.pub k) 65536 else I.pub k, fun k => if k < c then pk (I.sec k) 65536 else I.sec k⟩
def tm (I : Inp) : Inp := tmTo I 4 8 8
end Sp

set_option maxHeartbeats 400000 in
theorem pick_any (c n : Int) (w : World) (hc : -9223372036854775808 ≤ c ∧ c ≤ 9223372036854775807) (hn : 1 ≤ n ∧ n ≤ 1000000) :
    Calls Tryd.prog 18 #[.int .i64 c, .int .i64 n] w fun e w' => e = .returned (.int .i64 (Sp.pk c n)) ∧ w = w' := by
  have hn0 : n ≠ 0 := by omega
  by_cases h : c < 0
  · have HP := hid (show Sp.pk c n = (-(c + 1)) % n by unfold Sp.pk; rw [if_pos h])
    have he : Int.tmod (-(c + 1)) n = (-(c + 1)) % n := Int.tmod_eq_emod_of_nonneg (by omega)
    go_enter Tryd.func18, Tryd.ntmps18
    go_wp2_with fail
    go_ret
    refine ⟨ret_int ?_, rfl⟩
    rw [HP.out]
    first | rfl | (simp; omega) | skip
  · have HP := hid (show Sp.pk c n = c % n by unfold Sp.pk; rw [if_neg h])
    go_enter Tryd.func18, Tryd.ntmps18
    go_wp2_with fail
    go_ret
    refine ⟨ret_int ?_, rfl⟩
    rw [HP.out]
    first | rfl | (simp; omega) | skip

theorem karr_row (w : World) (f : Nat → Int) (t : Nat) : (w.alloc (.cells (arrL f).toArray t)).rowIs w.heap.size t 8 (fun j => .int .i64 (f j)) := by
  have h := World.rowIs_alloc w (arrL f).toArray t (fun j => .int .i64 (f j)) (fun r hr => by
    have hr' : r < 8 := by simpa [arrL_len] using hr
    rw [List.getElem?_toArray]
    exact arrL_at f r hr')
  have hs : (arrL f).toArray.size = 8 := by simp [arrL_len]
  rw [hs] at h
  exact h

set_option maxHeartbeats 1000000 in
theorem kwords_same (f : Nat → Int) (w : World) :
    Calls Tryd.prog 19 #[.agg (arrL f).toArray, .agg (arrL f).toArray] w fun e w' => e = .returned (.bool true) ∧ Below w.heap.size w w' := by
  have hs : (arrL f).toArray.size = 8 := by simp [arrL_len]
  have HR1 := hid ((karr_row w f 27).alloc (.cells (arrL f).toArray 27))
  have HR2 : Hid (((w.alloc (.cells (arrL f).toArray 27)).alloc (.cells (arrL f).toArray 27)).rowIs (w.heap.size + 1) 27 8 (fun j => .int .i64 (f j))) := by
    have := karr_row (w.alloc (.cells (arrL f).toArray 27)) f 27
    rw [World.size_alloc] at this
    exact hid this
  have HB := hid (((Below.refl w.heap.size w).alloc (Nat.le_refl _) (.cells (arrL f).toArray 27)).alloc (by simp) (.cells (arrL f).toArray 27))
  generalize hA : (arrL f).toArray = A at *
  go_enter Tryd.func19, Tryd.ntmps19
  go_wp2_with fail
  go_loopw [5] (fun jv wr => ∃ j : Nat, j ≤ 8 ∧ jv = .int .i64 j ∧ wr.rowIs w.heap.size 27 8 (fun j => .int .i64 (f j)) ∧ wr.rowIs (w.heap.size + 1) 27 8 (fun j => .int .i64 (f j)) ∧ Below w.heap.size w wr) (fun jv _ => 8 - (intOf jv).toNat)
  case atStart => exact ⟨0, by omega, rfl, HR1.out, HR2.out, HB.out⟩
  case round =>
    obtain ⟨j, hj, rfl, hr1, hr2, hbw⟩ := hrel
    have HQ1 := hid hr1
    have HQ2 := hid hr2
    have HQB := hid hbw
    clear hbw
    by_cases hlt : j < 8
    · have c1 := hr1.cell (i := j) hlt
      have c2 := hr2.cell (i := j) hlt
      clear hr1 hr2
      go_wp2_with fail
      go_quiet (fail)
      go_wp2_with fail
      go_roundw
      case rel => exact ⟨j + 1, by omega, by go_num, HQ1.out, HQ2.out, below_drewN HQB.out _⟩
      case measure => simp [intOf]; omega
    · clear hr1 hr2
      go_wp2_with fail
      go_ret
      exact ⟨rfl, HQB.out⟩
end Go.Proofs.YtccndnckceagfaaDoorR

namespace Go.Proofs.YtccndnckceagfaaDoorR
open Go.RowKit
namespace Sp
theorem tm_args (I : Inp) (a b c j : Nat) (_hj : j < 4) : (tmTo I a b c).args j = if j < a then pk (I.args j) 65536 else I.args j := rfl
theorem at_args (I : Inp) (j : Nat) (hj : j < 4) : I.at' j = I.args j := by unfold Inp.at'; rw [if_pos hj]
theorem at_pub (I : Inp) (j : Nat) (hj : j < 8) : I.at' (4 + j) = I.pub j := by unfold Inp.at'; rw [if_neg (by omega), if_pos (by omega), Nat.add_sub_cancel_left]
theorem at_sec (I : Inp) (j : Nat) : I.at' (12 + j) = I.sec j := by unfold Inp.at'; rw [if_neg (by omega), if_neg (by omega), Nat.add_sub_cancel_left]
/-- one more argument is folded -/
theorem tm_step1 (I : Inp) (j : Nat) (hj : j < 4) (i : Nat) : (tmTo I (j + 1) 0 0).at' i = if i = j then pk (I.args j) 65536 else (tmTo I j 0 0).at' i := by
  unfold Inp.at' tmTo
  simp only
  by_cases e : i = j
  · subst e; rw [if_pos hj, if_pos (by omega), if_pos rfl]
  · rw [if_neg e]
    by_cases c : i < 4
    · rw [if_pos c, if_pos c]
      by_cases c2 : i < j
      · rw [if_pos (by omega), if_pos c2]
      · rw [if_neg (by omega), if_neg c2]
    · rw [if_neg c, if_neg c]
theorem tm_step2 (I : Inp) (j : Nat) (hj : j < 8) (i : Nat) : (tmTo I 4 (j + 1) j).at' i = if i = 4 + j then pk (I.pub j) 65536 else (tmTo I 4 j j).at' i := by
  unfold Inp.at' tmTo
  simp only
  by_cases e : i = 4 + j
  · subst e
    rw [if_neg (by omega), if_pos (by omega), Nat.add_sub_cancel_left, if_pos (by omega), if_pos rfl]
  · rw [if_neg e]
    by_cases c : i < 4
    · simp only [if_pos c]
    · rw [if_neg c, if_neg c]
      by_cases c2 : i < 12
      · rw [if_pos c2, if_pos c2]
        by_cases c3 : i - 4 < j
        · rw [if_pos (by omega), if_pos c3]
        · rw [if_neg (by omega), if_neg c3]
      · rw [if_neg c2, if_neg c2]
theorem tm_step3 (I : Inp) (j : Nat) (i : Nat) : (tmTo I 4 (j + 1) (j + 1)).at' i = if i = 12 + j then pk (I.sec j) 65536 else (tmTo I 4 (j + 1) j).at' i := by
  unfold Inp.at' tmTo
  simp only
  by_cases e : i = 12 + j
  · subst e
    rw [if_neg (by omega), if_neg (by omega), Nat.add_sub_cancel_left, if_pos (by omega), if_pos rfl]
  · rw [if_neg e]
    by_cases c : i < 4
    · simp only [if_pos c]
    · rw [if_neg c, if_neg c]
      by_cases c2 : i < 12
      · rw [if_pos c2, if_pos c2]
      · rw [if_neg c2, if_neg c2]
        by_cases c3 : i - 12 < j
        · rw [if_pos (by omega), if_pos c3]
        · rw [if_neg (by omega), if_neg c3]
end Sp
theorem in_set {w : World} {b t : Nat} {I J : Sp.Inp} (h : w.rowIs b t 20 (inF I)) (k : Nat) (x : Int) (e : ∀ i, J.at' i = if i = k then x else I.at' i) : (w.setCell ⟨b, k, none⟩ (.int .i64 x)).rowIs b t 20 (inF J) :=
  (h.set k _).congr fun j _ => by
    unfold inF
    rw [e j]
    split <;> rfl
def in0 : Sp.Inp := ⟨fun _ => 0, fun _ => 0, fun _ => 0⟩
theorem run_alloc_in (w : World) : (Instr.alloc 29 true (.tuple #[])).run Tryd.prog w = .ok (.pointer (some ⟨w.heap.size, 0, none⟩)) (w.alloc (.cells (inA in0) 29)) := by kernel_rfl
theorem wpList_alloc_in {ops : Array Oper} {rest : List Oper} {op : Oper} {a : Act} {w : World} {Q : Exit → Act → World → Prop} (hgd : op.guard = none) (ho : op.op = .alloc 29)
    (h : ∀ w', w'.rowIs w.heap.size 29 20 (inF in0) → Below w.heap.size w w' → w'.heap.size = w.heap.size + 1 → wpList Tryd.prog ops Q rest (a.put op.dst (.pointer (some ⟨w.heap.size, 0, none⟩))) w') : wpList Tryd.prog ops Q (op :: rest) a w := by
  refine wpList_plain hgd fun K hK => ?_
  unfold Oper.wp execOp
  simp only [ho, Sem.run_bind, run_alloc_in, Result.andThen_ok, Sem.run_pure]
  exact hK _ _ (h _ (in_row _ _ _) ((Below.refl _ _).alloc (Nat.le_refl _) _) (by simp))
theorem inL_one (I : Sp.Inp) : ∀ u ∈ (List.range 20).map (inF I), u.oneCell' = true := by
  intro u hu
  simp only [List.mem_map] at hu
  obtain ⟨r, _, rfl⟩ := hu
  rfl
theorem wpList_store_in {ops : Array Oper} {rest : List Oper} {op : Oper} {a : Act} {w : World} {Q : Exit → Act → World → Prop} (hgd : op.guard = none) (x y : Operand) (ho : op.op = .store 29 x y)
    (b : Nat) (I J : Sp.Inp) (hx : a.eval x = .pointer (some ⟨b, 0, none⟩)) (hy : a.eval y = .agg (inA I)) (hT : w.rowIs b 29 20 (inF J))
    (h : ∀ w', w'.rowIs b 29 20 (inF I) → Only b w w' → wpList Tryd.prog ops Q rest (a.put op.dst undef) w') : wpList Tryd.prog ops Q (op :: rest) a w := by
  have hl : ((List.range 20).map (inF I)).length = 20 := by simp
  refine wpList_store_mid hgd 29 x y ho b 0 (inA I) hx hy (by rw [inA_size]; exact row_there hT 0 20 (by omega)) (by rw [inA_size]; exact info_in) (all_oneCell_toArray (inL_one I)) (h _ ?_ ?_)
  · have := row_setCells hT ((List.range 20).map (inF I)) 0 (by rw [hl]; omega)
    refine this.congr fun j hj => ?_
    rw [if_pos (by rw [hl]; omega), Nat.sub_zero, List.getD_eq_getElem?_getD, List.getElem?_map, List.getElem?_range hj]
    rfl
  · exact only_setCells w b 0 ((List.range 20).map (inF I))
theorem run_loadVar_in {w : World} {b : Nat} {I : Sp.Inp} (h : w.rowIs b 29 20 (inF I)) : (loadVar 29 ⟨b, 0, none⟩).run Tryd.prog w = .ok (.agg (inA I)) w :=
  run_loadVar_mid w b 0 29 ((List.range 20).map (inF I)) _ (fun j v hj => by
    have hj' : j < 20 := by have := (List.getElem?_eq_some_iff.1 hj).1; simpa using this
    rw [Nat.zero_add, h.cell hj', ← hj]
    simp [hj']) Tryd.underlying29 rfl (by rw [List.length_map, List.length_range]; exact info_in)

set_option maxRecDepth 20000 in
set_option maxHeartbeats 2000000 in
theorem tame_any (I : Sp.Inp) (w : World) (hI : I.wide) :
    Calls Tryd.prog 17 #[.agg (inA I)] w fun e w' => e = .returned (.agg (inA (Sp.tm I))) ∧ Below w.heap.size w w' := by
  have hsz := inA_size I
  have HRI := hid (in_row w I 29)
  have HBB := hid ((Below.refl w.heap.size w).alloc (Nat.le_refl _) (.cells (inA I) 29))
  have HW := hid hI
  clear hI
  go_enter Tryd.func17, Tryd.ntmps17
  go_upto_region 2 with (refine wpList_alloc_in rfl rfl ?_; intro w1 ho1 hb1 hz1; have HO1 := hidd ho1; have HB1 := hidd hb1; clear ho1 hb1)
  have HRI1 := hid (HRI.out.of_block (HB1.out.block w.heap.size (by simp)))
  have HO1' : Hid (w1.rowIs (w.heap.size + 1) 29 20 (inF in0)) := by have := HO1.out; simp only [World.size_alloc] at this; exact hid this
  have HBW := hid (HBB.out.trans (HB1.out.mono (by simp)))
  clear HO1 HRI HBB HB1 hz1
  generalize hN : w.heap.size = N at *
  go_loopw [3] (fun jv wr => ∃ j : Nat, j ≤ 4 ∧ jv = .int .i64 j ∧ wr.rowIs N 29 20 (inF (Sp.tmTo I j 0 0)) ∧ wr.rowIs (N + 1) 29 20 (inF in0) ∧ Below N w wr) (fun jv _ => 4 - (intOf jv).toNat)
  case atStart =>
    refine ⟨0, by omega, rfl, HRI1.out.congr (fun j _ => ?_), HO1'.out, HBW.out⟩
    rfl
  case round =>
    obtain ⟨j, hj, rfl, hr, ho, hb⟩ := hrel
    have HO := hid ho
    have HB := hid hb
    have HR := hid hr
    clear ho hb
    by_cases hlt : j < 4
    · have c := in_args hr j hlt
      have fz := hr.frozen j
      rw [Sp.tm_args I j 0 0 j hlt, if_neg (by omega)] at c
      have hw := HW.out j (by omega)
      rw [Sp.at_args I j hlt] at hw
      have HPK := hid (pick_any (I.args j) 65536 wr hw (by omega))
      have HS := hid (in_set (J := Sp.tmTo I (j + 1) 0 0) HR.out j (Sp.pk (I.args j) 65536) (fun i => Sp.tm_step1 I j hlt i))
      clear hr hw
      generalize Sp.pk (I.args j) 65536 = z at *
      generalize I.args j = y at *
      go_wp2_with (go_at_call 18; refine HPK.out.mono ?_; rintro e w' ⟨rfl, rfl⟩)
      go_roundw
      case rel => exact ⟨j + 1, by omega, by go_num, HS.out, HO.out.of_block (set_other (by omega)), HB.out.setCell (Nat.le_refl _) _⟩
      case measure => simp [intOf]; omega
    · have hj4 : j = 4 := by omega
      rw [hj4] at hr
      have HR4 := hid hr
      clear hr HR hj4
      go_wp2_with fail
      go_loopw [4] (fun jv wr => ∃ j : Nat, j ≤ 8 ∧ jv = .int .i64 j ∧ wr.rowIs N 29 20 (inF (Sp.tmTo I 4 j j)) ∧ wr.rowIs (N + 1) 29 20 (inF in0) ∧ Below N w wr) (fun jv _ => 8 - (intOf jv).toNat)
      case atStart => exact ⟨0, by omega, rfl, HR4.out, HO.out, HB.out⟩
      case round =>
        obtain ⟨j, hj, rfl, hr, ho, hb⟩ := hrel
        have HO := hid ho
        have HB := hid hb
        have HR := hid hr
        clear ho hb
        by_cases hlt : j < 8
        · have c1 := in_pub hr j hlt
          have c2 := in_sec hr j hlt
          have f1 := hr.frozen (4 + j)
          have f2 := hr.frozen (12 + j)
          have e1 : (Sp.tmTo I 4 j j).pub j = I.pub j := by show (if j < j then _ else _) = _; rw [if_neg (by omega)]
          have e2 : (Sp.tmTo I 4 j j).sec j = I.sec j := by show (if j < j then _ else _) = _; rw [if_neg (by omega)]
          rw [e1] at c1
          rw [e2] at c2
          have hw1 := HW.out (4 + j) (by omega)
          rw [Sp.at_pub I j hlt] at hw1
          have hw2 := HW.out (12 + j) (by omega)
          rw [Sp.at_sec I j] at hw2
          have HPK1 := hid (pick_any (I.pub j) 65536 wr hw1 (by omega))
          have HPK2 := hid (fun W => pick_any (I.sec j) 65536 W hw2 (by omega))
          have HS := hid (in_set (J := Sp.tmTo I 4 (j + 1) (j + 1)) (in_set (J := Sp.tmTo I 4 (j + 1) j) HR.out (4 + j) (Sp.pk (I.pub j) 65536) (fun i => Sp.tm_step2 I j hlt i)) (12 + j) (Sp.pk (I.sec j) 65536) (fun i => Sp.tm_step3 I j i))
          clear hr hw1 hw2 e1 e2
          generalize Sp.pk (I.pub j) 65536 = z1 at *
          generalize Sp.pk (I.sec j) 65536 = z2 at *
          generalize I.pub j = y1 at *
          generalize I.sec j = y2 at *
          go_wp2_with (first | (go_at_call_of 18 y1; refine HPK1.out.mono ?_; rintro e w' ⟨rfl, rfl⟩) | (go_at_call_of 18 y2; refine (HPK2.out _).mono ?_; rintro e w' ⟨rfl, rfl⟩))
          go_roundw
          case rel => exact ⟨j + 1, by omega, by go_num, HS.out, (HO.out.of_block (set_other (by omega))).of_block (set_other (by omega)), (HB.out.setCell (Nat.le_refl _) _).setCell (Nat.le_refl _) _⟩
          case measure => simp [intOf]; omega
        · obtain rfl : j = 8 := by omega
          clear hr
          go_wp2_with (first | (refine wpList_load_in rfl (.tmp 1) rfl N (Sp.tm I) (by rfl) HR.out ?_) | (refine wpList_store_in rfl (.tmp 2) (.tmp 37) rfl (N + 1) (Sp.tm I) in0 (by rfl) (by rfl) HO.out ?_; intro w4 ho4 ho4'; have HO4 := hidd ho4; have HY4 := hidd ho4'; clear ho4 ho4'))
          refine bodyPost_ret (v := .agg (inA (Sp.tm I))) (results_cell_one (q := 2) (a := ⟨N + 1, 0, none⟩) rfl _ _ (by rfl) (run_loadVar_in HO4.out)) (by rfl) ⟨rfl, ?_⟩
          rw [hN]
          exact HB.out.trans (HY4.out.below (by omega))
end Go.Proofs.YtccndnckceagfaaDoorR

namespace Go.Proofs.YtccndnckceagfaaDoorR
open Go.RowKit
namespace Sp

theorem memO_tr (st : St) (o a b n : Int) (T : ByteArray) : ∃ t, (memO st o a b n T).trace = T ++ t := by
  unfold memO memS
  repeat' split
  all_goals first | exact ⟨⟨#[33]⟩, rfl⟩ | exact ⟨⟨#[]⟩, (ByteArray.append_empty).symm⟩
theorem stepT_tr (s : ByteArray) (st : St) (i : Nat) : ∃ t, (stepT s st i).1.trace = st.trace ++ t := by
  have em : ∀ t : ByteArray, t = t ++ ⟨#[]⟩ := fun t => (ByteArray.append_empty).symm
  unfold stepT
  split
  · exact ⟨_, em _⟩
  split
  · exact ⟨_, em _⟩
  split
  · split
    · exact ⟨_, rfl⟩
    · exact ⟨_, rfl⟩
  split
  · obtain ⟨t, h⟩ := memO_tr { st with next := (i : Int) + 1 } (B s (4 * i)) (B s (4 * i + 1)) (B s (4 * i + 2)) (st.hold (B s (4 * i + 2)).toNat) (st.trace ++ (s.extract (4 * i) (4 * i + 4)).extract 0 1 ++ ⟨(Lib.decDigits (st.hold (B s (4 * i + 2)).toNat).toNat).toArray⟩)
    exact ⟨_, by rw [h, ByteArray.append_assoc, ByteArray.append_assoc]⟩
  split
  · obtain ⟨t, h⟩ := memO_tr { st with next := (i : Int) + 1 } (B s (4 * i)) (B s (4 * i + 1)) (B s (4 * i + 2)) (st.hold (B s (4 * i + 1)).toNat) (st.trace ++ (s.extract (4 * i) (4 * i + 4)).extract 0 1 ++ ⟨(Lib.decDigits (st.hold (B s (4 * i + 1)).toNat).toNat).toArray⟩)
    exact ⟨_, by rw [h, ByteArray.append_assoc, ByteArray.append_assoc]⟩
  split
  · exact ⟨_, em _⟩
  split
  · exact ⟨_, em _⟩
  · exact ⟨_, em _⟩
theorem memO_end (st : St) (o a b n : Int) (T : ByteArray) (h : ¬ n < 8) : (memO st o a b n T).status = 1 := by
  unfold memO
  rw [if_neg h]
theorem stepT_end (s : ByteArray) (st : St) (i : Nat) (h : (stepT s st i).2 = false) : (stepT s st i).1.status ≠ 2 := by
  revert h
  unfold stepT
  split
  · intro _; show (0 : Int) ≠ 2; omega
  split
  · intro h; cases h
  split
  · split <;> (intro h; cases h)
  split
  · intro h; rw [memO_end _ _ _ _ _ _ (of_decide_eq_false h)]; omega
  split
  · intro h; rw [memO_end _ _ _ _ _ _ (of_decide_eq_false h)]; omega
  split
  · intro h; cases h
  split
  · intro h; cases h
  · intro h; cases h
theorem runG_tr (s : ByteArray) : ∀ (f : Nat) (st : St), ∃ t, (runG (stepT s) f st).trace = st.trace ++ t := by
  intro f
  induction f with
  | zero => intro st; exact ⟨⟨#[]⟩, (ByteArray.append_empty).symm⟩
  | succ f ih =>
    intro st
    simp only [runG]
    obtain ⟨t, h⟩ := stepT_tr s st st.next.toNat
    split
    · obtain ⟨u, hu⟩ := ih (stepT s st st.next.toNat).1
      exact ⟨t ++ u, by rw [hu, h, ByteArray.append_assoc]⟩
    · exact ⟨t, h⟩
/-- with more fuel -/
theorem runG_more (s : ByteArray) (d : Nat) : ∀ (f : Nat) (st : St), ((runG (stepT s) f st).status = 2 → ∃ t, (runG (stepT s) (f + d) st).trace = (runG (stepT s) f st).trace ++ t) ∧ ((runG (stepT s) f st).status ≠ 2 → runG (stepT s) (f + d) st = runG (stepT s) f st) := by
  intro f
  induction f with
  | zero =>
    intro st
    refine ⟨fun _ => ?_, fun h => absurd rfl h⟩
    rw [Nat.zero_add]
    exact runG_tr s d st
  | succ f ih =>
    intro st
    rw [show f + 1 + d = (f + d) + 1 by omega]
    simp only [runG]
    cases hb : (stepT s st st.next.toNat).2
    · rw [if_neg (by simp)]
      exact ⟨fun h => absurd h (stepT_end s st _ hb), fun _ => rfl⟩
    · rw [if_pos rfl, if_pos rfl]
      exact ih _

/-- the smallest program -/
def small : ByteArray := ⟨#[114, 97, 46, 46]⟩
theorem small_prog : progB (B small) small.size 0 = true := by decide
theorem small_want (v : Int) (k : Nat) (h : wantN (B small) 1 v k 0 = true) : v = 97 := by
  have hr : rdAt (B small) v 0 = (decide ((97 : Int) = v)) := by
    unfold rdAt rdB
    have b0 : B small (4 * 0) = 114 := by decide
    have b1 : B small (4 * 0 + 1) = 97 := by decide
    rw [b0, b1]
    simp [arithB]
    rfl
  have hn : nextL (B small) 1 0 = [] := by decide
  cases k with
  | zero =>
    simp only [wantN] at h
    rw [hr] at h
    exact (of_decide_eq_true h).symm
  | succ k =>
    simp only [wantN] at h
    rw [hr, hn] at h
    simp at h
    exact h.symm
theorem small_formed : FormedR small 0 := by
  refine Or.inr (Or.inr (Or.inr ⟨by decide, small_prog, ?_, rfl⟩))
  rintro ⟨v, _, ha, k, hk⟩
  have := small_want v k hk
  subst this
  exact absurd ha (by decide)
theorem tm_may (I : Inp) (n : Int) (h0 : 0 ≤ n) (h1 : n ≤ 20000) : mayB (tm I) n = true := by
  unfold mayB
  rw [Bool.and_eq_true]
  refine ⟨List.all_eq_true.2 fun j hj => ?_, decide_eq_true ⟨h0, h1⟩⟩
  have hj' := List.mem_range.1 hj
  have p := fun c => pk_bd c 65536 (by omega)
  unfold valB Inp.at' tm tmTo
  simp only
  refine decide_eq_true ?_
  by_cases c1 : j < 4
  · rw [if_pos c1, if_pos c1]; have := p (I.args j); omega
  · rw [if_neg c1]
    by_cases c2 : j < 12
    · rw [if_pos c2, if_pos (by omega)]; have := p (I.pub (j - 4)); omega
    · rw [if_neg c2, if_pos (by omega)]; have := p (I.sec (j - 12)); omega
/-- what Run tells where nothing is refused -/
theorem RunR.good {s : ByteArray} {I : Inp} {fuel : Int} {st : St} {e : Int} (h : RunR s I fuel st e) (hf : FormedR s 0) (hm : mayB I fuel = true) : e = 0 ∧ st = runG (stepT s) fuel.toNat (start pS I.cut 4) := by
  rcases h with ⟨a, b, c⟩ | ⟨a, b, c, d⟩ | ⟨a, b, c, d⟩
  · exact absurd (b.eq hf) a
  · rw [hm] at b; cases b
  · exact ⟨c, d⟩
theorem RunR.formed {s : ByteArray} {I : Inp} {fuel : Int} {st : St} {e : Int} (h : RunR s I fuel st e) (he : e = 0) : FormedR s 0 := by
  rcases h with ⟨a, b, c⟩ | ⟨a, b, c, d⟩ | ⟨a, b, c, d⟩
  · exact absurd he a
  · exact a
  · exact a
theorem small_run0 (I : Inp) : (runG (stepT small) 0 (start pS I 4)).status = 2 := rfl
theorem small_run1 (I : Inp) : (runG (stepT small) 1 (start pS I 4)).status = 0 ∧ (runG (stepT small) 1 (start pS I 4)).value = I.args 0 := by
  have b0 : B small (4 * 0) = 114 := by decide
  have b1 : B small (4 * 0 + 1) = 97 := by decide
  have e : stepT small (start pS I 4) 0 = ({ start pS I 4 with next := (0 : Nat) + 1, status := 0, value := (start pS I 4).hold (97 : Int).toNat }, false) := by
    unfold stepT
    rw [b0, b1, if_pos rfl]
  have e2 : runG (stepT small) 1 (start pS I 4) = (stepT small (start pS I 4) 0).1 := by
    show (if (stepT small (start pS I 4) (start pS I 4).next.toNat).2 = true then _ else _) = _
    have : (start pS I 4).next.toNat = 0 := rfl
    rw [this, e]
    rfl
  rw [e2, e]
  exact ⟨rfl, rfl⟩
end Sp
end Go.Proofs.YtccndnckceagfaaDoorR

namespace Go.Proofs.YtccndnckceagfaaDoorR
open Go.RowKit

theorem head_of {x : ByteArray} (t : ByteArray) : (x ++ t).extract 0 x.size = x := by
  refine Sp.ext_B (by rw [ByteArray.size_extract, ByteArray.size_append]; omega) fun j hj => ?_
  have h1 : j < x.size := by rw [ByteArray.size_extract, ByteArray.size_append] at hj; omega
  rw [← Sp.B_get _ j hj, ← Sp.B_get x j h1, ByteArray.getElem_extract]
  simp only [Nat.zero_add]
  rw [ByteArray.getElem_append_left h1]

set_option maxRecDepth 20000 in
set_option maxHeartbeats 8000000 in
theorem longer_any (s : ByteArray) (I : Sp.Inp) (n more : Int) (w : World) (hs : s.size ≤ maxLen) (hI : I.wide) (hn : -9223372036854775808 ≤ n ∧ n ≤ 9223372036854775807) (hm : -9223372036854775808 ≤ more ∧ more ≤ 9223372036854775807) (hA : ArgsAt w) (hT : Tab w) :
    Calls Tryd.prog 5 #[.string s, .agg (inA I), .int .i64 n, .int .i64 more] w fun e w' => e = .returned (.bool true) ∧ Below w.heap.size w w' := by
  have hsz := inA_size I
  have hlt1 := hT.lt
  have HA := hid hA
  have HT := hid hT
  have HRI := hid (in_row w I 29)
  have HBB := hid ((Below.refl w.heap.size w).alloc (Nat.le_refl _) (.cells (inA I) 29))
  have hz0 : (w.alloc (.cells (inA I) 29)).heap.size = w.heap.size + 1 := by simp
  have HTM := hid (tame_any I (w.alloc (.cells (inA I) 29)) hI)
  have HP1 := hid (fun W => pick_any n 20001 W hn (by omega))
  have hp1 := Sp.pk_bd n 20001 (by omega)
  generalize hn1 : Sp.pk n 20001 = n1 at *
  have HP2 := hid (fun W => pick_any more (20001 - n1) W hm (by omega))
  have hp2 := Sp.pk_bd more (20001 - n1) (by omega)
  generalize hm1 : Sp.pk more (20001 - n1) = d1 at *
  have HRUN : Hid (∀ (S : ByteArray) (f : Int) (W : World), S.size ≤ maxLen → Below w.heap.size w W → Calls Tryd.prog 14 #[.string S, .agg (inA (Sp.tm I)), .int .i64 f] W fun e w' => RunPost S (Sp.tm I) f W e w') := hid (fun S f W hS hW => prun_any S (Sp.tm I) f W hS (HA.out.of_block (hW.block 0 (by omega))) (HT.out.of_block (hW.block 1 (by omega))))
  clear hA hT hI hn hm hn1 hm1
  generalize hN : w.heap.size = N at *
  obtain ⟨F, rfl⟩ := Int.eq_ofNat_of_zero_le hp1.1
  obtain ⟨D, rfl⟩ := Int.eq_ofNat_of_zero_le hp2.1
  go_enter Tryd.func5, Tryd.ntmps5
  go_upto_region 4 with (first | (refine wpList_load_in rfl (.tmp 5) rfl N I (by first | rfl | simp [Act.eval]) HRI.out ?_) | (go_at_call 17; refine HTM.out.mono ?_; rintro e w1 ⟨rfl, hb1⟩; rw [hz0] at hb1; have HR1 := hidd (HRI.out.of_block (hb1.block N (by omega))); have HB1 := hidd (HBB.out.trans (hb1.mono (by omega))); have hs1 := hb1.size; rw [hz0] at hs1; clear hb1) | (refine wpList_store_in rfl (.tmp 5) (.tmp 21) rfl N (Sp.tm I) I (by first | rfl | simp [Act.eval]) (by rfl) HR1.out ?_; intro w2 ho2 ho2'; have HJ2 := hidd ho2; have HY2 := hidd ho2'; clear ho2 ho2') | (go_at_call_of 18 more; refine (HP2.out _).mono ?_; rintro e w' ⟨rfl, rfl⟩) | (go_at_call 18; refine (HP1.out _).mono ?_; rintro e w' ⟨rfl, rfl⟩))
  have HW2 := hidd (HB1.out.trans (HY2.out.below (Nat.le_refl N)))
  have hs2 : N + 1 ≤ w2.heap.size := by rw [HY2.out.size]; exact hs1
  clear HR1 HB1 HY2 HRI HBB HTM hs1
  have HRA := hidd (HRUN.out s 0 w2 hs HW2.out)
  go_upto_region 5 with (first | (refine wpList_load_in rfl (.tmp 5) rfl N (Sp.tm I) (by rfl) HJ2.out ?_) | (go_at_call 14; refine HRA.out.mono ?_; rintro e w3 ⟨st3, f3, rfl, hr3, hb3⟩; have HR3 := hidd hr3; have HB3 := hidd hb3; clear hr3 hb3) | (refine wpList_alloc_out rfl rfl ?_; intro w4 ho4 hb4 hz4; have HO4 := hidd ho4; have HB4 := hidd hb4; clear ho4 hb4) | (refine wpList_store_out rfl (.tmp 10) (.tmp 34) rfl w3.heap.size 0 st3 st0 (by rfl) (by rfl) HO4.out ?_; intro w5 ho5 ho5'; have HY5 := hidd ho5'; clear ho5 ho5'))
  have hs3 := HB3.out.size
  have hs5 : w3.heap.size + 1 = w5.heap.size := by rw [HY5.out.size, hz4]
  have HW5 := hidd (((HW2.out.trans (HB3.out.mono (by omega))).trans (HB4.out.mono (by omega))).trans (HY5.out.below (by omega)))
  have HJ5 := hidd (((HJ2.out.of_block (HB3.out.block N (by omega))).of_block (HB4.out.block N (by omega))).of_block (HY5.out.block N (by omega)))
  have hs5' : N + 1 ≤ w5.heap.size := by omega
  clear HO4 HB4 HB3 HY5 HRA hz4 HJ2 HW2 hs3 hs5 hs2
  have HM0 := hidd (Sp.tm_may I 1 (by omega) (by omega))
  have HMZ := hidd (Sp.tm_may I 0 (by omega) (by omega))
  have HMX := hidd (Sp.tm_may I (F : Int) (by omega) (by omega))
  have HMY := hidd (Sp.tm_may I ((F : Int) + (D : Int)) (by omega) (by omega))
  have hsm : Sp.small.size ≤ maxLen := by decide
  have cA := in_args HJ5.out 0 (by omega)
  by_cases h0 : f3 = 0
  · subst h0
    have HFS := hidd (HR3.out.formed rfl)
    clear HR3
    have HR6 := hidd (HRUN.out s (F : Int) w5 hs HW5.out)
    go_upto_region 8 with (first | (refine wpList_load_in rfl (.tmp 5) rfl N (Sp.tm I) (by rfl) HJ5.out ?_) | (go_at_call 14; refine HR6.out.mono ?_; rintro e w6 ⟨st6, f6, rfl, hr6, hb6⟩; obtain ⟨e1, e2⟩ := hr6.good HFS.out HMX.out; subst e1 e2; have HB6 := hidd hb6; clear hr6 hb6) | (refine wpList_alloc_out rfl rfl ?_; intro w7 ho7 hb7 hz7; have HO7 := hidd ho7; have HB7 := hidd hb7; clear ho7 hb7) | (refine wpList_store_out rfl (.tmp 12) (.tmp 43) rfl w6.heap.size 0 _ st0 (by rfl) (by rfl) HO7.out ?_; intro w8 ho8 ho8'; have HO8 := hidd ho8; have HY8 := hidd ho8'; clear ho8 ho8'))
    have hs6 := HB6.out.size
    have hs8 : w6.heap.size + 1 = w8.heap.size := by rw [HY8.out.size, hz7]
    have HW8 := hidd (((HW5.out.trans (HB6.out.mono (by omega))).trans (HB7.out.mono (by omega))).trans (HY8.out.below (by omega)))
    have HJ8 := hidd (((HJ5.out.of_block (HB6.out.block N (by omega))).of_block (HB7.out.block N (by omega))).of_block (HY8.out.block N (by omega)))
    clear HO7 HB7 HB6 HY8 HR6 hz7 HJ5 HW5
    have HX8 := HO8
    generalize hbx : w6.heap.size = bx at *
    clear HO8
    have hbx' : bx < w8.heap.size := by omega
    have HR9 := hidd (HRUN.out s ((F : Int) + (D : Int)) w8 hs HW8.out)
    go_upto_region 9 with (first | (refine wpList_load_in rfl (.tmp 5) rfl N (Sp.tm I) (by rfl) HJ8.out ?_) | (go_at_call 14; refine HR9.out.mono ?_; rintro e w9 ⟨st9, f9, rfl, hr9, hb9⟩; obtain ⟨e1, e2⟩ := hr9.good HFS.out HMY.out; subst e1 e2; have HB9 := hidd hb9; clear hr9 hb9) | (refine wpList_alloc_out rfl rfl ?_; intro w10 ho10 hb10 hz10; have HO10 := hidd ho10; have HB10 := hidd hb10; clear ho10 hb10) | (refine wpList_store_out rfl (.tmp 14) (.tmp 50) rfl w9.heap.size 0 _ st0 (by rfl) (by rfl) HO10.out ?_; intro w11 ho11 ho11'; have HO11 := hidd ho11; have HY11 := hidd ho11'; clear ho11 ho11'))
    have hs9 := HB9.out.size
    have hs11 : w9.heap.size + 1 = w11.heap.size := by rw [HY11.out.size, hz10]
    have HW11 := hidd (((HW8.out.trans (HB9.out.mono (by omega))).trans (HB10.out.mono (by omega))).trans (HY11.out.below (by omega)))
    have HJ11 := hidd (((HJ8.out.of_block (HB9.out.block N (by omega))).of_block (HB10.out.block N (by omega))).of_block (HY11.out.block N (by omega)))
    have HX11 := hidd (((HX8.out.of_block (HB9.out.block bx (by omega))).of_block (HB10.out.block bx (by omega))).of_block (HY11.out.block bx (by omega)))
    clear HO10 HB10 HB9 HY11 HR9 hz10 HJ8 HW8 HX8
    have HV11 := HO11
    generalize hby : w9.heap.size = by' at *
    clear HO11
    have hby' : by' < w11.heap.size ∧ bx < w11.heap.size := by omega
    have HR12 := hidd (HRUN.out Sp.small (1) w11 hsm HW11.out)
    go_upto_region 10 with (first | (refine wpList_load_in rfl (.tmp 5) rfl N (Sp.tm I) (by rfl) HJ11.out ?_) | (go_at_call 14; refine HR12.out.mono ?_; rintro e w12 ⟨st12, f12, rfl, hr12, hb12⟩; obtain ⟨e1, e2⟩ := hr12.good Sp.small_formed HM0.out; subst e1 e2; have HB12 := hidd hb12; clear hr12 hb12) | (refine wpList_alloc_out rfl rfl ?_; intro w13 ho13 hb13 hz13; have HO13 := hidd ho13; have HB13 := hidd hb13; clear ho13 hb13) | (refine wpList_store_out rfl (.tmp 16) (.tmp 55) rfl w12.heap.size 0 _ st0 (by rfl) (by rfl) HO13.out ?_; intro w14 ho14 ho14'; have HO14 := hidd ho14; have HY14 := hidd ho14'; clear ho14 ho14'))
    have hs12 := HB12.out.size
    have hs14 : w12.heap.size + 1 = w14.heap.size := by rw [HY14.out.size, hz13]
    have HW14 := hidd (((HW11.out.trans (HB12.out.mono (by omega))).trans (HB13.out.mono (by omega))).trans (HY14.out.below (by omega)))
    have HJ14 := hidd (((HJ11.out.of_block (HB12.out.block N (by omega))).of_block (HB13.out.block N (by omega))).of_block (HY14.out.block N (by omega)))
    have HX14 := hidd (((HX11.out.of_block (HB12.out.block bx (by omega))).of_block (HB13.out.block bx (by omega))).of_block (HY14.out.block bx (by omega)))
    have HV14 := hidd (((HV11.out.of_block (HB12.out.block by' (by omega))).of_block (HB13.out.block by' (by omega))).of_block (HY14.out.block by' (by omega)))
    clear HO13 HB13 HB12 HY14 HR12 hz13 HJ11 HW11 HX11 HV11
    have HZ14 := HO14
    generalize hbz : w12.heap.size = bz at *
    clear HO14
    have hbz' : bz < w14.heap.size ∧ by' < w14.heap.size ∧ bx < w14.heap.size ∧ bz ≠ by' ∧ bz ≠ bx ∧ bx ≠ by' := by omega
    obtain ⟨z1, z2⟩ := Sp.small_run1 (Sp.tm I).cut
    have HZr : Hid (OutAt w14 bz 0 (Sp.runG (Sp.stepT Sp.small) 1 (Sp.start Sp.pS (Sp.tm I).cut 4))) := hid HZ14.out
    have cz0 := HZr.out.status
    have cz1 := HZr.out.value
    rw [z1] at cz0
    rw [z2] at cz1
    have cI := in_args HJ14.out 0 (by omega)
    have ecut : (Sp.tm I).cut.args 0 = (Sp.tm I).args 0 := rfl
    rw [ecut] at cz1
    clear z1 z2 ecut HZ14 cA
    generalize (Sp.tm I).args 0 = A0 at *
    have HR15 := hidd (HRUN.out Sp.small 0 w14 hsm HW14.out)
    go_upto_region 13 with (first | (refine wpList_load_in rfl (.tmp 5) rfl N (Sp.tm I) (by rfl) HJ14.out ?_) | (go_at_call 14; refine HR15.out.mono ?_; rintro e w15 ⟨st15, f15, rfl, hr15, hb15⟩; obtain ⟨e1, e2⟩ := hr15.good Sp.small_formed HMZ.out; subst e1 e2; have HB15 := hidd hb15; have HZ15 := hidd (HZr.out.of_block (hb15.block bz (by omega))); clear hr15 hb15) | (refine wpList_store_out rfl (.tmp 16) (.tmp 83) rfl bz 0 _ _ (by rfl) (by rfl) HZ15.out ?_; intro w16 ho16 ho16'; have HO16 := hidd ho16; have HY16 := hidd ho16'; clear ho16 ho16'))
    have hs15 := HB15.out.size
    have HX16 := hidd ((HX14.out.of_block (HB15.out.block bx (by omega))).of_block (HY16.out.block bx (by omega)))
    have HV16 := hidd ((HV14.out.of_block (HB15.out.block by' (by omega))).of_block (HY16.out.block by' (by omega)))
    have HW16 := hidd ((HW14.out.trans (HB15.out.mono (by omega))).trans (HY16.out.below (by omega)))
    have cz := HO16.out.status
    have cz' : w16.cell? ⟨bz, 0, none⟩ = some (.int .i64 2) := cz
    have hs16 : N ≤ w16.heap.size := HW16.out.size |> fun h => by omega
    have hs16e : w16.heap.size = w15.heap.size := HY16.out.size
    clear cz HZ15 HO16 HY16 HB15 HR15 HX14 HV14 HW14 HJ14 HZr cz0 cz1 cI
    have HX17 : Hid (OutAt w16 bx 0 (Sp.runG (Sp.stepT s) F (Sp.start Sp.pS (Sp.tm I).cut 4))) := hid HX16.out
    have HMO := hidd (Sp.runG_more s D F (Sp.start Sp.pS (Sp.tm I).cut 4))
    clear HX16
    generalize Sp.runG (Sp.stepT s) (F + D) (Sp.start Sp.pS (Sp.tm I).cut 4) = Y at *
    generalize Sp.runG (Sp.stepT s) F (Sp.start Sp.pS (Sp.tm I).cut 4) = X at *
    have cx0 := HX17.out.status
    have cx1 := HX17.out.value
    have cx4 := HX17.out.trace
    by_cases hst : X.status = 2
    · obtain ⟨t, ht⟩ := HMO.out.1 hst
      have cy4 := HV16.out.trace
      rw [hst] at cx0
      have hlen : (X.trace.size : Int) ≤ (Y.trace.size : Int) := by rw [ht, ByteArray.size_append]; omega
      have hsl : ∀ W : World, (Instr.slice 9 (.string Y.trace) none (some (.int .i64 (X.trace.size : Int))) none).run Tryd.prog W = .ok (.string X.trace) W := by
        intro W
        rw [run_slice_string_h W 9 Y.trace Tryd.underlying9 .i64 (X.trace.size : Int) (by omega) hlen, Int.toNat_natCast, ht, head_of t]
      clear HX17 HV16 HMO ht cx1
      generalize X.trace = tx at *
      generalize Y.trace = ty at *
      go_wp2_with fail
      go_quiet (fail)
      go_wp2_with fail
      go_ret
      exact ⟨by simp, below_drewN HW16.out _⟩
    · have hY := HMO.out.2 hst
      subst hY
      have cy0 := HV16.out.status
      have cy1 := HV16.out.value
      have cy4 := HV16.out.trace
      have HK1 := hidd (kwords_same Y.pub w16)
      go_wp2_with (first | (refine wpList_load8 rfl (.tmp 113) rfl bx 2 Y.pub (by rfl) (fun j hj => HX17.out.pub j hj) ?_) | (refine wpList_load8 rfl (.tmp 115) rfl by' 2 Y.pub (by rfl) (fun j hj => HV16.out.pub j hj) ?_) | (go_at_call 19; refine HK1.out.mono ?_; rintro e w17 ⟨rfl, hb17⟩; have HX18 := hidd (HX17.out.of_block (hb17.block bx (by omega))); have HV18 := hidd (HV16.out.of_block (hb17.block by' (by omega))); have HK2 := hidd (kwords_same Y.sec w17); have HW17 := hidd (HW16.out.trans (hb17.mono hs16)); have hs17 := hb17.size; clear HK1 hb17) | (refine wpList_load8 rfl (.tmp 118) rfl bx 10 Y.sec (by rfl) (fun j hj => HX18.out.sec j hj) ?_) | (refine wpList_load8 rfl (.tmp 120) rfl by' 10 Y.sec (by rfl) (fun j hj => HV18.out.sec j hj) ?_) | (go_at_call 19; refine HK2.out.mono ?_; rintro e w18 ⟨rfl, hb18⟩; have HX19 := hidd (HX18.out.of_block (hb18.block bx (by omega))); have HV19 := hidd (HV18.out.of_block (hb18.block by' (by omega))); have HW18 := hidd (HW17.out.trans (hb18.mono (by omega))); clear hb18; have dx0 := HX19.out.status; have dx1 := HX19.out.value; have dx4 := HX19.out.trace; have dy0 := HV19.out.status; have dy1 := HV19.out.value; have dy4 := HV19.out.trace))
      go_ret
      exact ⟨by simp, HW18.out⟩
  · have HFS := hidd Sp.small_formed
    clear HR3
    have HR6 := hidd (HRUN.out Sp.small (F : Int) w5 hsm HW5.out)
    go_upto_region 8 with (first | (refine wpList_load_in rfl (.tmp 5) rfl N (Sp.tm I) (by rfl) HJ5.out ?_) | (go_at_call 14; refine HR6.out.mono ?_; rintro e w6 ⟨st6, f6, rfl, hr6, hb6⟩; obtain ⟨e1, e2⟩ := hr6.good HFS.out HMX.out; subst e1 e2; have HB6 := hidd hb6; clear hr6 hb6) | (refine wpList_alloc_out rfl rfl ?_; intro w7 ho7 hb7 hz7; have HO7 := hidd ho7; have HB7 := hidd hb7; clear ho7 hb7) | (refine wpList_store_out rfl (.tmp 12) (.tmp 43) rfl w6.heap.size 0 _ st0 (by rfl) (by rfl) HO7.out ?_; intro w8 ho8 ho8'; have HO8 := hidd ho8; have HY8 := hidd ho8'; clear ho8 ho8'))
    have hs6 := HB6.out.size
    have hs8 : w6.heap.size + 1 = w8.heap.size := by rw [HY8.out.size, hz7]
    have HW8 := hidd (((HW5.out.trans (HB6.out.mono (by omega))).trans (HB7.out.mono (by omega))).trans (HY8.out.below (by omega)))
    have HJ8 := hidd (((HJ5.out.of_block (HB6.out.block N (by omega))).of_block (HB7.out.block N (by omega))).of_block (HY8.out.block N (by omega)))
    clear HO7 HB7 HB6 HY8 HR6 hz7 HJ5 HW5
    have HX8 := HO8
    generalize hbx : w6.heap.size = bx at *
    clear HO8
    have hbx' : bx < w8.heap.size := by omega
    have HR9 := hidd (HRUN.out Sp.small ((F : Int) + (D : Int)) w8 hsm HW8.out)
    go_upto_region 9 with (first | (refine wpList_load_in rfl (.tmp 5) rfl N (Sp.tm I) (by rfl) HJ8.out ?_) | (go_at_call 14; refine HR9.out.mono ?_; rintro e w9 ⟨st9, f9, rfl, hr9, hb9⟩; obtain ⟨e1, e2⟩ := hr9.good HFS.out HMY.out; subst e1 e2; have HB9 := hidd hb9; clear hr9 hb9) | (refine wpList_alloc_out rfl rfl ?_; intro w10 ho10 hb10 hz10; have HO10 := hidd ho10; have HB10 := hidd hb10; clear ho10 hb10) | (refine wpList_store_out rfl (.tmp 14) (.tmp 50) rfl w9.heap.size 0 _ st0 (by rfl) (by rfl) HO10.out ?_; intro w11 ho11 ho11'; have HO11 := hidd ho11; have HY11 := hidd ho11'; clear ho11 ho11'))
    have hs9 := HB9.out.size
    have hs11 : w9.heap.size + 1 = w11.heap.size := by rw [HY11.out.size, hz10]
    have HW11 := hidd (((HW8.out.trans (HB9.out.mono (by omega))).trans (HB10.out.mono (by omega))).trans (HY11.out.below (by omega)))
    have HJ11 := hidd (((HJ8.out.of_block (HB9.out.block N (by omega))).of_block (HB10.out.block N (by omega))).of_block (HY11.out.block N (by omega)))
    have HX11 := hidd (((HX8.out.of_block (HB9.out.block bx (by omega))).of_block (HB10.out.block bx (by omega))).of_block (HY11.out.block bx (by omega)))
    clear HO10 HB10 HB9 HY11 HR9 hz10 HJ8 HW8 HX8
    have HV11 := HO11
    generalize hby : w9.heap.size = by' at *
    clear HO11
    have hby' : by' < w11.heap.size ∧ bx < w11.heap.size := by omega
    have HR12 := hidd (HRUN.out Sp.small (1) w11 hsm HW11.out)
    go_upto_region 10 with (first | (refine wpList_load_in rfl (.tmp 5) rfl N (Sp.tm I) (by rfl) HJ11.out ?_) | (go_at_call 14; refine HR12.out.mono ?_; rintro e w12 ⟨st12, f12, rfl, hr12, hb12⟩; obtain ⟨e1, e2⟩ := hr12.good Sp.small_formed HM0.out; subst e1 e2; have HB12 := hidd hb12; clear hr12 hb12) | (refine wpList_alloc_out rfl rfl ?_; intro w13 ho13 hb13 hz13; have HO13 := hidd ho13; have HB13 := hidd hb13; clear ho13 hb13) | (refine wpList_store_out rfl (.tmp 16) (.tmp 55) rfl w12.heap.size 0 _ st0 (by rfl) (by rfl) HO13.out ?_; intro w14 ho14 ho14'; have HO14 := hidd ho14; have HY14 := hidd ho14'; clear ho14 ho14'))
    have hs12 := HB12.out.size
    have hs14 : w12.heap.size + 1 = w14.heap.size := by rw [HY14.out.size, hz13]
    have HW14 := hidd (((HW11.out.trans (HB12.out.mono (by omega))).trans (HB13.out.mono (by omega))).trans (HY14.out.below (by omega)))
    have HJ14 := hidd (((HJ11.out.of_block (HB12.out.block N (by omega))).of_block (HB13.out.block N (by omega))).of_block (HY14.out.block N (by omega)))
    have HX14 := hidd (((HX11.out.of_block (HB12.out.block bx (by omega))).of_block (HB13.out.block bx (by omega))).of_block (HY14.out.block bx (by omega)))
    have HV14 := hidd (((HV11.out.of_block (HB12.out.block by' (by omega))).of_block (HB13.out.block by' (by omega))).of_block (HY14.out.block by' (by omega)))
    clear HO13 HB13 HB12 HY14 HR12 hz13 HJ11 HW11 HX11 HV11
    have HZ14 := HO14
    generalize hbz : w12.heap.size = bz at *
    clear HO14
    have hbz' : bz < w14.heap.size ∧ by' < w14.heap.size ∧ bx < w14.heap.size ∧ bz ≠ by' ∧ bz ≠ bx ∧ bx ≠ by' := by omega
    obtain ⟨z1, z2⟩ := Sp.small_run1 (Sp.tm I).cut
    have HZr : Hid (OutAt w14 bz 0 (Sp.runG (Sp.stepT Sp.small) 1 (Sp.start Sp.pS (Sp.tm I).cut 4))) := hid HZ14.out
    have cz0 := HZr.out.status
    have cz1 := HZr.out.value
    rw [z1] at cz0
    rw [z2] at cz1
    have cI := in_args HJ14.out 0 (by omega)
    have ecut : (Sp.tm I).cut.args 0 = (Sp.tm I).args 0 := rfl
    rw [ecut] at cz1
    clear z1 z2 ecut HZ14 cA
    generalize (Sp.tm I).args 0 = A0 at *
    have HR15 := hidd (HRUN.out Sp.small 0 w14 hsm HW14.out)
    go_upto_region 13 with (first | (refine wpList_load_in rfl (.tmp 5) rfl N (Sp.tm I) (by rfl) HJ14.out ?_) | (go_at_call 14; refine HR15.out.mono ?_; rintro e w15 ⟨st15, f15, rfl, hr15, hb15⟩; obtain ⟨e1, e2⟩ := hr15.good Sp.small_formed HMZ.out; subst e1 e2; have HB15 := hidd hb15; have HZ15 := hidd (HZr.out.of_block (hb15.block bz (by omega))); clear hr15 hb15) | (refine wpList_store_out rfl (.tmp 16) (.tmp 83) rfl bz 0 _ _ (by rfl) (by rfl) HZ15.out ?_; intro w16 ho16 ho16'; have HO16 := hidd ho16; have HY16 := hidd ho16'; clear ho16 ho16'))
    have hs15 := HB15.out.size
    have HX16 := hidd ((HX14.out.of_block (HB15.out.block bx (by omega))).of_block (HY16.out.block bx (by omega)))
    have HV16 := hidd ((HV14.out.of_block (HB15.out.block by' (by omega))).of_block (HY16.out.block by' (by omega)))
    have HW16 := hidd ((HW14.out.trans (HB15.out.mono (by omega))).trans (HY16.out.below (by omega)))
    have cz := HO16.out.status
    have cz' : w16.cell? ⟨bz, 0, none⟩ = some (.int .i64 2) := cz
    have hs16 : N ≤ w16.heap.size := HW16.out.size |> fun h => by omega
    have hs16e : w16.heap.size = w15.heap.size := HY16.out.size
    clear cz HZ15 HO16 HY16 HB15 HR15 HX14 HV14 HW14 HJ14 HZr cz0 cz1 cI
    have HX17 : Hid (OutAt w16 bx 0 (Sp.runG (Sp.stepT Sp.small) F (Sp.start Sp.pS (Sp.tm I).cut 4))) := hid HX16.out
    have HMO := hidd (Sp.runG_more Sp.small D F (Sp.start Sp.pS (Sp.tm I).cut 4))
    clear HX16
    generalize Sp.runG (Sp.stepT Sp.small) (F + D) (Sp.start Sp.pS (Sp.tm I).cut 4) = Y at *
    generalize Sp.runG (Sp.stepT Sp.small) F (Sp.start Sp.pS (Sp.tm I).cut 4) = X at *
    have cx0 := HX17.out.status
    have cx1 := HX17.out.value
    have cx4 := HX17.out.trace
    by_cases hst : X.status = 2
    · obtain ⟨t, ht⟩ := HMO.out.1 hst
      have cy4 := HV16.out.trace
      rw [hst] at cx0
      have hlen : (X.trace.size : Int) ≤ (Y.trace.size : Int) := by rw [ht, ByteArray.size_append]; omega
      have hsl : ∀ W : World, (Instr.slice 9 (.string Y.trace) none (some (.int .i64 (X.trace.size : Int))) none).run Tryd.prog W = .ok (.string X.trace) W := by
        intro W
        rw [run_slice_string_h W 9 Y.trace Tryd.underlying9 .i64 (X.trace.size : Int) (by omega) hlen, Int.toNat_natCast, ht, head_of t]
      clear HX17 HV16 HMO ht cx1
      generalize X.trace = tx at *
      generalize Y.trace = ty at *
      go_wp2_with fail
      go_quiet (fail)
      go_wp2_with fail
      go_ret
      exact ⟨by simp, below_drewN HW16.out _⟩
    · have hY := HMO.out.2 hst
      subst hY
      have cy0 := HV16.out.status
      have cy1 := HV16.out.value
      have cy4 := HV16.out.trace
      have HK1 := hidd (kwords_same Y.pub w16)
      go_wp2_with (first | (refine wpList_load8 rfl (.tmp 113) rfl bx 2 Y.pub (by rfl) (fun j hj => HX17.out.pub j hj) ?_) | (refine wpList_load8 rfl (.tmp 115) rfl by' 2 Y.pub (by rfl) (fun j hj => HV16.out.pub j hj) ?_) | (go_at_call 19; refine HK1.out.mono ?_; rintro e w17 ⟨rfl, hb17⟩; have HX18 := hidd (HX17.out.of_block (hb17.block bx (by omega))); have HV18 := hidd (HV16.out.of_block (hb17.block by' (by omega))); have HK2 := hidd (kwords_same Y.sec w17); have HW17 := hidd (HW16.out.trans (hb17.mono hs16)); have hs17 := hb17.size; clear HK1 hb17) | (refine wpList_load8 rfl (.tmp 118) rfl bx 10 Y.sec (by rfl) (fun j hj => HX18.out.sec j hj) ?_) | (refine wpList_load8 rfl (.tmp 120) rfl by' 10 Y.sec (by rfl) (fun j hj => HV18.out.sec j hj) ?_) | (go_at_call 19; refine HK2.out.mono ?_; rintro e w18 ⟨rfl, hb18⟩; have HX19 := hidd (HX18.out.of_block (hb18.block bx (by omega))); have HV19 := hidd (HV18.out.of_block (hb18.block by' (by omega))); have HW18 := hidd (HW17.out.trans (hb18.mono (by omega))); clear hb18; have dx0 := HX19.out.status; have dx1 := HX19.out.value; have dx4 := HX19.out.trace; have dy0 := HV19.out.status; have dy1 := HV19.out.value; have dy4 := HV19.out.trace))
      go_ret
      exact ⟨by simp, HW18.out⟩
end Go.Proofs.YtccndnckceagfaaDoorR
