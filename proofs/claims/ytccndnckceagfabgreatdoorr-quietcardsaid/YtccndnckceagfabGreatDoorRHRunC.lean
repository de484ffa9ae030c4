/-
  How the program's run begins.
  The program's run of a source program.
-/
import Derived.Test.YtccndnckceagfabGreatDoorRHRunA
import Derived.Test.YtccndnckceagfabGreatDoorRHLv
namespace Go.Proofs.YtccndnckceagfabGreatDoorR
open Go.RowKit

def stL (m : Sp.PSt) (v : Value) : List Value := (List.range 82).map (pF m v)
theorem stL_len (m : Sp.PSt) (v : Value) : (stL m v).length = 82 := by simp [stL]
theorem stL_at (m : Sp.PSt) (v : Value) (r : Nat) (hr : r < 82) : (stL m v)[r]? = some (pF m v r) := by simp [stL, hr]
theorem stL_one (m : Sp.PSt) (v : Value) (hv : v.oneCell' = true) : ∀ u ∈ stL m v, u.oneCell' = true := by
  intro u hu
  simp only [stL, List.mem_map] at hu
  obtain ⟨r, _, rfl⟩ := hu
  unfold pF
  repeat' split
  all_goals first | rfl | exact hv
def pst0 : Sp.PSt := ⟨fun _ => 0, fun _ => 0, fun _ => 0, ⟨#[]⟩, false, 0, 0⟩
/-- the state with which a run begins, ahead of its arguments -/
def bg (I : Sp.Inp) : Sp.PSt := ⟨fun _ => 0, I.pub, I.sec, ⟨#[]⟩, false, 2, 0⟩
theorem info_st : (Tryz.prog.info? 62).map (·.size) = some 82 := by kernel_rfl
theorem run_alloc_state (w : World) : (Instr.alloc 62 true (.tuple #[])).run Tryz.prog w = .ok (.pointer (some ⟨w.heap.size, 0, none⟩)) (w.alloc (.cells (stL pst0 (.slice none 0 0)).toArray 62)) := by kernel_rfl
theorem run_build_state (w : World) (f g : Nat → Int) (I : Sp.Inp) (hf : I.pub = f) (hg : I.sec = g) :
    (Instr.build 62 #[(1, .agg (arrL f).toArray), (2, .agg (arrL g).toArray), (5, .int .i64 2)]).run Tryz.prog w = .ok (.agg (stL (bg I) (.slice none 0 0)).toArray) w := by
  subst hf hg
  kernel_rfl
theorem st_new' (w : World) (m : Sp.PSt) (v : Value) : (w.alloc (.cells (stL m v).toArray 62)).rowIs w.heap.size 62 82 (pF m v) := by
  have h := World.rowIs_alloc w (stL m v).toArray 62 (pF m v) (fun r hr => by
    have hr' : r < 82 := by simpa [stL_len] using hr
    rw [List.getElem?_toArray]
    exact stL_at m v r hr')
  have hs : (stL m v).toArray.size = 82 := by simp [stL_len]
  rw [hs] at h
  exact h
theorem wpList_alloc_state {ops : Array Oper} {rest : List Oper} {op : Oper} {a : Act} {w : World} {Q : Exit → Act → World → Prop} (hgd : op.guard = none) (ho : op.op = .alloc 62)
    (h : ∀ w', w'.rowIs w.heap.size 62 82 (pF pst0 (.slice none 0 0)) → Below w.heap.size w w' → w'.heap.size = w.heap.size + 1 → wpList Tryz.prog ops Q rest (a.put op.dst (.pointer (some ⟨w.heap.size, 0, none⟩))) w') : wpList Tryz.prog ops Q (op :: rest) a w := by
  refine wpList_plain hgd fun K hK => ?_
  unfold Oper.wp execOp
  simp only [ho, Sem.run_bind, run_alloc_state, Result.andThen_ok, Sem.run_pure]
  exact hK _ _ (h _ (st_new' _ _ _) ((Below.refl _ _).alloc (Nat.le_refl _) _) (by simp))
theorem wpList_build_state {ops : Array Oper} {rest : List Oper} {op : Oper} {a : Act} {w : World} {Q : Exit → Act → World → Prop} (hgd : op.guard = none) (x y z : Operand) (ho : op.op = .build 62 #[(1, x), (2, y), (5, z)])
    (I : Sp.Inp) (hx : a.eval x = .agg (arrL I.pub).toArray) (hy : a.eval y = .agg (arrL I.sec).toArray) (hz : a.eval z = .int .i64 2)
    (h : wpList Tryz.prog ops Q rest (a.put op.dst (.agg (stL (bg I) (.slice none 0 0)).toArray)) w) : wpList Tryz.prog ops Q (op :: rest) a w := by
  refine wpList_plain hgd fun K hK => ?_
  unfold Oper.wp execOp
  simp only [ho, Sem.run_bind, List.map_toArray, List.map_cons, List.map_nil, hx, hy, hz, run_build_state w I.pub I.sec I rfl rfl, Result.andThen_ok, Sem.run_pure]
  exact hK _ _ h
theorem row_range {w : World} {b t : Nat} {m : Sp.PSt} {v : Value} (h : w.rowIs b t 82 (pF m v)) : w.rangeAt b 0 (stL m v) := by
  intro j u hj
  have hj' : j < 82 := by have := (List.getElem?_eq_some_iff.1 hj).1; rwa [stL_len] at this
  rw [stL_at m v j hj'] at hj
  rw [Nat.zero_add, h.cell hj', ← hj]
theorem wpList_store_state {ops : Array Oper} {rest : List Oper} {op : Oper} {a : Act} {w : World} {Q : Exit → Act → World → Prop} (hgd : op.guard = none) (x y : Operand) (ho : op.op = .store 62 x y)
    (b : Nat) (m m' : Sp.PSt) (v v' : Value) (hv : v.oneCell' = true) (hx : a.eval x = .pointer (some ⟨b, 0, none⟩)) (hy : a.eval y = .agg (stL m v).toArray) (hT : w.rowIs b 62 82 (pF m' v'))
    (h : ∀ w', w'.rowIs b 62 82 (pF m v) → Only b w w' → wpList Tryz.prog ops Q rest (a.put op.dst undef) w') : wpList Tryz.prog ops Q (op :: rest) a w := by
  have hs : (stL m v).toArray.size = 82 := by simp [stL_len]
  refine wpList_store_mid hgd 62 x y ho b 0 (stL m v).toArray hx hy (by rw [hs]; exact row_there hT 0 82 (by omega)) (by rw [hs]; exact info_st) (all_oneCell_toArray (stL_one m v hv)) (h _ ?_ ?_)
  · have := row_setCells hT (stL m v) 0 (by rw [stL_len]; omega)
    refine this.congr fun j hj => ?_
    rw [if_pos (by rw [stL_len]; omega), Nat.sub_zero, List.getD_eq_getElem?_getD, stL_at m v j hj]
    rfl
  · exact only_setCells w b 0 (stL m v)
theorem run_loadVar_state {w : World} {b : Nat} {m : Sp.PSt} {v : Value} (h : w.rowIs b 62 82 (pF m v)) : (loadVar 62 ⟨b, 0, none⟩).run Tryz.prog w = .ok (.agg (stL m v).toArray) w :=
  run_loadVar_mid w b 0 62 (stL m v) _ (row_range h) Tryz.underlying62 rfl (by rw [stL_len]; exact info_st)

set_option maxRecDepth 20000 in
set_option maxHeartbeats 2000000 in
theorem begin_any (I : Sp.Inp) (w : World) :
    Calls Tryz.prog 25 #[.agg (inA I)] w fun e w' => e = .returned (.agg (stL (bg I) (.slice none 0 0)).toArray) ∧ Below w.heap.size w w' := by
  have hsz := inA_size I
  have HRI := hid (in_row w I 25)
  have HBB := hid ((Below.refl w.heap.size w).alloc (Nat.le_refl _) (.cells (inA I) 25))
  go_enter Tryz.func25, Tryz.ntmps25
  go_upto_region 1 with (refine wpList_alloc_state rfl rfl ?_; intro w1 ho1 hb1 hz1; have HO1 := hidd ho1; have HB1 := hidd hb1; clear ho1 hb1)
  have HRI1 := hid (HRI.out.of_block (HB1.out.block w.heap.size (by simp)))
  have HBW := hid (HBB.out.trans (HB1.out.mono (by simp)))
  have HO1' : Hid (w1.rowIs (w.heap.size + 1) 62 82 (pF pst0 (.slice none 0 0))) := by have := HO1.out; simp only [World.size_alloc] at this; exact hid this
  clear HO1 HRI HBB HB1
  go_wp2_with (first | (refine wpList_load8 rfl (.tmp 3) rfl w.heap.size 4 I.pub (by rfl) (fun j hj => in_pub HRI1.out j hj) ?_) | (refine wpList_load8 rfl (.tmp 5) rfl w.heap.size 12 I.sec (by rfl) (fun j hj => in_sec HRI1.out j hj) ?_) | (refine wpList_build_state rfl (.tmp 4) (.tmp 6) (.const (.int .i64 2)) rfl I (by rfl) (by rfl) (by rfl) ?_) | (refine wpList_store_state rfl (.tmp 2) (.tmp 7) rfl (w.heap.size + 1) (bg I) pst0 (.slice none 0 0) (.slice none 0 0) rfl (by rfl) (by rfl) HO1'.out ?_; intro w4 ho4 ho4'; have HO4 := hidd ho4; have HY4 := hidd ho4'; clear ho4 ho4'))
  refine bodyPost_ret (v := .agg (stL (bg I) (.slice none 0 0)).toArray) (results_cell_one (q := 2) (a := ⟨w.heap.size + 1, 0, none⟩) rfl _ _ (by rfl) (run_loadVar_state HO4.out)) (by rfl) ⟨rfl, ?_⟩
  exact HBW.out.trans (HY4.out.below (by omega))
end Go.Proofs.YtccndnckceagfabGreatDoorR

namespace Go.Proofs.YtccndnckceagfabGreatDoorR
open Go.RowKit

/-- the places of the arguments -/
def argP (j : Nat) : Int := if j = 0 then 0 else if j = 1 then 1 else if j = 2 then 26 else 27
/-- the state when j arguments are laid -/
def argM (I : Sp.Inp) : Nat → Sp.PSt
  | 0 => bg I
  | j + 1 => Sp.wrP (argM I j) (argP j) (I.args j)
theorem ArgsAt.at {w : World} (h : ArgsAt w) (j : Nat) (hj : j < 4) : w.cell? ⟨0, j, none⟩ = some (.int .i64 (argP j)) := by
  have : j = 0 ∨ j = 1 ∨ j = 2 ∨ j = 3 := by omega
  rcases this with rfl | rfl | rfl | rfl
  · exact h.c0
  · exact h.c1
  · exact h.c2
  · exact h.c3
theorem argM_trace (I : Sp.Inp) (j : Nat) : (argM I j).trace = ⟨#[]⟩ := by
  induction j with
  | zero => rfl
  | succ j ih => simp only [argM]; rw [wrP_trace, ih]
theorem argM_ok (I : Sp.Inp) (h : (∀ k, 0 ≤ I.args k ∧ I.args k ≤ 65535) ∧ (∀ k, 0 ≤ I.pub k ∧ I.pub k ≤ 65535) ∧ ∀ k, 0 ≤ I.sec k ∧ I.sec k ≤ 65535) (j : Nat) : (argM I j).ok 1000 := by
  induction j with
  | zero => exact ⟨fun _ => ⟨Int.le_refl _, by show (0 : Int) ≤ 65535; omega⟩, h.2.1, h.2.2, by show 0 ≤ 1000; omega⟩
  | succ j ih => exact Sp.wrP_ok ih _ (h.1 j)

set_option maxRecDepth 20000 in
set_option maxHeartbeats 4000000 in
theorem source_any (Bp p : Nat) (C : List Sp.Ins) (L : List (Nat × Nat)) (I : Sp.Inp) (F : Nat) (w : World) (hG : ProgAt w Bp p C L) (hA : ArgsAt w) (hT : Tab w) (hF : F ≤ 20000)
    (hI : (∀ k, 0 ≤ I.args k ∧ I.args k ≤ 65535) ∧ (∀ k, 0 ≤ I.pub k ∧ I.pub k ≤ 65535) ∧ ∀ k, 0 ≤ I.sec k ∧ I.sec k ≤ 65535)
    (hC : C.length ≤ 1100) (hC0 : 0 < C.length) (hIn : ∀ j (h : j < C.length), insOk C[j]) (hL : ∀ q, -1 ≤ Sp.strP L q ∧ Sp.strP L q ≤ 5000) :
    Calls Tryz.prog 16 #[.pointer (some ⟨p, 0, none⟩), .agg (inA I), .int .i64 (F : Int)] w fun e w' =>
      e = .returned (.agg (outL (outSt (Sp.walkP C (Sp.strP L) F (argM I 4) 0))).toArray) ∧ Below w.heap.size w w' := by
  have hsz := inA_size I
  have hlt1 := hT.lt
  have HG := hid hG
  have HA := hid hA
  have HT := hid hT
  have HRI := hid (in_row w I 25)
  have HBB := hid ((Below.refl w.heap.size w).alloc (Nat.le_refl _) (.cells (inA I) 25))
  have HII := hid hI
  have HIN := hid hIn
  have HLL := hid hL
  clear hG hA hT hI hIn hL
  go_enter Tryz.func16, Tryz.ntmps16
  go_upto_region 1 with (refine wpList_alloc_out rfl rfl ?_; intro w1 ho1 hb1 hz1; have HO1 := hidd ho1; have HB1 := hidd hb1; clear ho1 hb1)
  have hz1' : w1.heap.size = w.heap.size + 2 := by rw [hz1]; simp
  have HRI1 := hid (HRI.out.of_block (HB1.out.block w.heap.size (by simp)))
  have HO1' : Hid (OutAt w1 (w.heap.size + 1) 0 st0) := by have := HO1.out; simp only [World.size_alloc] at this; exact hid this
  have HBW1 := hid (HBB.out.trans (HB1.out.mono (by simp)))
  clear HO1 HRI HBB HB1 hz1
  generalize hN : w.heap.size = N at *
  have HBG := hid (begin_any I w1)
  go_upto_region 3 with (first | (refine wpList_load_in rfl (.tmp 4) rfl N I (by rfl) HRI1.out ?_) | (go_at_call 25; refine HBG.out.mono ?_; rintro e w2 ⟨rfl, hb2⟩; have HB2 := hidd hb2; clear hb2) | (refine wpList_alloc_state rfl rfl ?_; intro w3 ho3 hb3 hz3; have HO3 := hidd ho3; have HB3 := hidd hb3; clear ho3 hb3) | (refine wpList_store_state rfl (.tmp 7) (.tmp 10) rfl w2.heap.size (bg I) pst0 (.slice none 0 0) (.slice none 0 0) rfl (by rfl) (by rfl) HO3.out ?_; intro w4 ho4 ho4'; have HO4 := hidd ho4; have HY4 := hidd ho4'; clear ho4 ho4'))
  have hbN : N + 2 ≤ w2.heap.size := by have := HB2.out.size; omega
  have HBW4 : Hid (Below N w w4) := hid (((HBW1.out.trans (HB2.out.mono (by omega))).trans (HB3.out.mono (by omega))).trans (HY4.out.below (by omega)))
  have hs4 : w4.heap.size = w2.heap.size + 1 := by rw [HY4.out.size, hz3]
  have HRI4 := hid (((HRI1.out.of_block (HB2.out.block N (by omega))).of_block (HB3.out.block N (by omega))).of_block (HY4.out.block N (by omega)))
  have HOO4 := hid (((HO1'.out.of_block (HB2.out.block (N + 1) (by omega))).of_block (HB3.out.block (N + 1) (by omega))).of_block (HY4.out.block (N + 1) (by omega)))
  have HP4 : Hid (PAt w4 (w2.heap.size + 1) w2.heap.size (bg I)) := hid ⟨_, HO4.out, World.ownsRow_nil _ _ _ _⟩
  clear HO3 HB3 HB2 HY4 HO4 HRI1 HO1' HBW1 HBG hz3 hz1'
  generalize w2.heap.size = b at *
  go_loopw [8] (fun nv wr => ∃ j : Nat, j ≤ 4 ∧ nv = .int .i64 j ∧ PAt wr (b + 1) b (argM I j) ∧ Fr (b + 1) b w4 wr) (fun nv _ => 4 - (intOf nv).toNat)
  case atStart => exact ⟨0, by omega, rfl, HP4.out, Fr.refl _ _ _⟩
  case round =>
    obtain ⟨j, hj, rfl, hPj, hFj⟩ := hrel
    have HPJ := hid hPj
    have HFJ := hid hFj
    have HBJ := hid (HBW4.out.trans (show Below N w4 wr from ⟨hFj.but.os, hFj.but.tape, hFj.but.output, hFj.but.size, fun k hk => hFj.but.block k (by omega) (by omega)⟩))
    have hAj := HA.out.of_block (HBJ.out.block 0 (by omega))
    have hIj := HRI4.out.of_block (hFj.but.block N (by omega) (by omega))
    have hsj := hFj.size
    clear hPj hFj
    by_cases hlt : j < 4
    · have cA := hAj.at j hlt
      have cI := in_args hIj j hlt
      have HWR := hid ((show PAt wr.drew (b + 1) b _ from HPJ.out).wr (by omega) (argP j) (I.args j))
      clear hAj hIj
      go_wp2_with fail
      go_region_with (go_at_call 26; refine HWR.out.mono ?_; rintro e w5 ⟨rfl, h5, h6⟩; have HP5 := hid h5; have HF5 := hid (HFJ.out.trans (show Fr (b + 1) b wr w5 from ⟨⟨h6.but.os, h6.but.tape, h6.but.output, h6.but.size, h6.but.block⟩, h6.row⟩)); clear h5 h6)
      all_goals
        go_wp2_with fail
        go_roundw
        case rel => exact ⟨j + 1, by omega, by go_num, HP5.out, HF5.out⟩
        case measure => simp [intOf]; omega
    · obtain rfl : j = 4 := by omega
      have HOJ := hid (HOO4.out.of_block (HFJ.out.but.block (N + 1) (by omega) (by omega)))
      have HGJ := hid (HG.out.move (by rw [hN]; exact HBJ.out))
      have HWK := hid (walk_any (b + 1) b Bp p C L (argM I 4) F wr HPJ.out HGJ.out (by omega) (by omega) (by omega) (HT.out.of_block (HBJ.out.block 1 (by omega))) (argM_ok I HII.out 4) hF hC hC0 HIN.out HLL.out)
      clear hAj hIj
      generalize hM : Sp.walkP C (Sp.strP L) F (argM I 4) 0 = M at *
      have HMM := hid hM
      clear hM
      go_wp2_with fail
      refine HWK.out.mono ?_
      rintro e w5 ⟨rfl, h5, h6⟩
      have HOC := hid (outcome_any (b + 1) b M w5 h5)
      have HO5 := hid (HOJ.out.of_block (h6.but.block (N + 1) (by omega) (by omega)))
      have HB5 := hid (HBJ.out.trans (show Below N wr w5 from ⟨h6.but.os, h6.but.tape, h6.but.output, h6.but.size, fun k hk => h6.but.block k (by omega) (by omega)⟩))
      have hs5 := h6.size
      clear h5 h6
      go_wp2_with (first | (go_at_call 28; refine HOC.out.mono ?_; rintro e w6 ⟨rfl, h7⟩; have HO6 := hid (HO5.out.of_block (h7.block (N + 1) (by omega))); have HB6 := hid (HB5.out.trans (h7.mono (by omega))); clear h7) | (refine wpList_store_out rfl (.tmp 6) (.tmp 30) rfl (N + 1) 0 (outSt M) st0 (by rfl) (by rfl) HO6.out ?_; intro w7 ho7 ho7'; have HO7 := hidd ho7; have HY7 := hidd ho7'; clear ho7 ho7'))
      refine bodyPost_ret (v := .agg (outL (outSt M)).toArray) (results_cell_one (q := 6) (a := ⟨N + 1, 0, none⟩) rfl _ _ (by rfl) (run_loadVar_out HO7.out)) (by rfl) ⟨by rw [HMM.out], ?_⟩
      rw [hN]
      exact HB6.out.trans (HY7.out.below (by omega))
theorem form_ok {k : Int} {o a b d : Int} (ho : 0 ≤ o ∧ o ≤ 255) (hb : 0 ≤ b ∧ b ≤ 255) (hd : 0 ≤ d ∧ d ≤ 255) {i : Sp.Ins} (h : Sp.Form k o a b d i) : insOk i := by
  have r := fun x => Sp.rgK_bd k x
  have sl := fun x => Sp.slO_bd x
  have ra := r a
  have rb := r b
  have sa := sl a
  have sb := sl b
  cases h with
  | num h1 h2 h3 h4 =>
    simp only [Sp.digB, decide_eq_true_eq] at h3 h4
    exact ⟨ho, by show Sp.rgK k a ≤ 1000; omega, by show (-1 : Int) ≤ 1000; omega, by show 0 ≤ 10 * (b - 48) + (d - 48) ∧ 10 * (b - 48) + (d - 48) ≤ 99; omega⟩
  | ar => exact ⟨ho, by show Sp.rgK k a ≤ 1000; omega, by show Sp.rgK k b ≤ 1000; omega, by show (0 : Int) ≤ 0 ∧ (0 : Int) ≤ 99; omega⟩
  | two => exact ⟨ho, by show Sp.rgK k a ≤ 1000; omega, by show Sp.rgK k b ≤ 1000; omega, by show (0 : Int) ≤ 0 ∧ (0 : Int) ≤ 99; omega⟩
  | sto => exact ⟨ho, by show (-1 : Int) ≤ 1000; omega, by show Sp.rgK k a ≤ 1000; omega, by show (0 : Int) ≤ 0 ∧ (0 : Int) ≤ 99; omega⟩
  | jmp => exact ⟨ho, by show (-1 : Int) ≤ 1000; omega, by show (-1 : Int) ≤ 1000; omega, by show (0 : Int) ≤ 0 ∧ (0 : Int) ≤ 99; omega⟩
  | cnd => exact ⟨ho, by show (-1 : Int) ≤ 1000; omega, by show Sp.rgK k a ≤ 1000; omega, by show (0 : Int) ≤ 0 ∧ (0 : Int) ≤ 99; omega⟩
  | ret => exact ⟨ho, by show (-1 : Int) ≤ 1000; omega, by show Sp.rgK k a ≤ 1000; omega, by show (0 : Int) ≤ 0 ∧ (0 : Int) ≤ 99; omega⟩
  | put => exact ⟨ho, by show Sp.slO a ≤ 1000; omega, by show Sp.rgK k b ≤ 1000; omega, by show (0 : Int) ≤ 0 ∧ (0 : Int) ≤ 99; omega⟩
  | get => exact ⟨ho, by show Sp.rgK k a ≤ 1000; omega, by show Sp.slO b ≤ 1000; omega, by show (0 : Int) ≤ 0 ∧ (0 : Int) ≤ 99; omega⟩
  | clrS => exact ⟨ho, by show Sp.slO a ≤ 1000; omega, by show (-1 : Int) ≤ 1000; omega, by show (0 : Int) ≤ 0 ∧ (0 : Int) ≤ 99; omega⟩
  | clrR => exact ⟨ho, by show Sp.rgK k a ≤ 1000; omega, by show (-1 : Int) ≤ 1000; omega, by show (0 : Int) ≤ 0 ∧ (0 : Int) ≤ 99; omega⟩
theorem code_ok {k : Int} (hk : 0 ≤ k ∧ k ≤ 10) {s : ByteArray} (hp : Sp.progB (Sp.B s) s.size k = true) (j : Nat) (h : j < (Sp.codeK k (Sp.B s) (s.size / 4)).length) : insOk (Sp.codeK k (Sp.B s) (s.size / 4))[j] := by
  rw [Sp.codeK_get]
  rw [Sp.codeK_len] at h
  have hd : Sp.dokK k (Sp.B s) j = true := by
    have := Sp.okIns_of_progB hp j h
    rw [Sp.okK_eq _ _ k hk.1, Bool.and_eq_true] at this
    exact this.1
  exact form_ok (Sp.B_bd s _) (Sp.B_bd s _) (Sp.B_bd s _) (Sp.form_of hk.1 hd)
theorem str_bd (c : Nat → Int) (n : Nat) (hn : n ≤ 5000) (q : Int) : -1 ≤ Sp.strP (Sp.blksTo c n) q ∧ Sp.strP (Sp.blksTo c n) q ≤ 5000 := by
  by_cases h : 0 ≤ q ∧ q < (Sp.blksTo c n).length
  · obtain ⟨j, rfl⟩ := Int.eq_ofNat_of_zero_le h.1
    have hj : j < Sp.blocksTo c n := by have := h.2; rw [Sp.blksTo_len] at this; omega
    rw [Sp.str_fst c n j hj]
    have := Sp.fst_lt c n j hj
    omega
  · unfold Sp.strP
    rw [if_neg h]
    omega
end Go.Proofs.YtccndnckceagfabGreatDoorR
