/-
  The program's own test of an input.
  What the program tells of a run that has ended.
-/
import Derived.Test.YtccndnckceagfabGreatDoorRHRun8
import Derived.Test.YtccndnckceagfabGreatDoorRG08
import Derived.Deep.RegionHeld3
namespace Go.Proofs.YtccndnckceagfabGreatDoorR
open Go.RowKit

theorem info_arr4 : (Tryz.prog.info? 22).map (·.size) = some 4 := by kernel_rfl
/-- four numbers read whole -/
theorem wpList_load4 {ops : Array Oper} {rest : List Oper} {op : Oper} {a : Act} {w : World} {Q : Exit → Act → World → Prop} (hgd : op.guard = none) (x : Operand) (ho : op.op = .load 22 x)
    (b o : Nat) (f : Nat → Int) (hx : a.eval x = .pointer (some ⟨b, o, none⟩)) (hf : ∀ j, j < 4 → w.cell? ⟨b, o + j, none⟩ = some (.int .i64 (f j)))
    (h : wpList Tryz.prog ops Q rest (a.put op.dst (.agg #[.int .i64 (f 0), .int .i64 (f 1), .int .i64 (f 2), .int .i64 (f 3)])) w) : wpList Tryz.prog ops Q (op :: rest) a w :=
  wpList_load_mid hgd 22 x ho b o hx [.int .i64 (f 0), .int .i64 (f 1), .int .i64 (f 2), .int .i64 (f 3)] _ (fun j v hj => by
    have hj' : j < 4 := (List.getElem?_eq_some_iff.1 hj).1
    rw [hf j hj', ← hj]
    have : j = 0 ∨ j = 1 ∨ j = 2 ∨ j = 3 := by omega
    rcases this with rfl | rfl | rfl | rfl <;> rfl) Tryz.underlying22 rfl info_arr4 h

theorem run_index4 (f : Nat → Int) (i : Nat) (hi : i < 4) (W : World) : (Instr.index 22 (.agg #[.int .i64 (f 0), .int .i64 (f 1), .int .i64 (f 2), .int .i64 (f 3)]) (.int .i64 (i : Int))).run Tryz.prog W = .ok (.int .i64 (f i)) W := by
  have : i = 0 ∨ i = 1 ∨ i = 2 ∨ i = 3 := by omega
  rcases this with rfl | rfl | rfl | rfl
  all_goals
    simp [Instr.index, run_underlying Tryz.underlying22, asIntOf, go_sem]

set_option maxRecDepth 20000 in
set_option maxHeartbeats 2000000 in
theorem mayBegin_any (I : Sp.Inp) (fuel : Int) (w : World) :
    Calls Tryz.prog 15 #[.agg (inA I), .int .i64 fuel] w fun e w' => e = .returned (.bool (Sp.mayB I fuel)) ∧ Below w.heap.size w w' := by
  have hsz := inA_size I
  by_cases hf : fuel < 0 ∨ 20000 < fuel
  · have HM := hid (show Sp.mayB I fuel = false by
      unfold Sp.mayB
      rw [Bool.and_eq_false_iff]
      exact Or.inr (decide_eq_false (by omega)))
    rcases hf with hf | hf
    all_goals
      go_enter Tryz.func15, Tryz.ntmps15
      go_wp2_with fail
      go_ret
      exact ⟨ret_bool (by rw [HM.out]), (Below.refl _ _).alloc (Nat.le_refl _) _⟩
  · have f0 : 0 ≤ fuel := by omega
    have f1 : fuel ≤ 20000 := by omega
    clear hf
    have HRI := hid (in_row w I 25)
    have HBB := hid ((Below.refl w.heap.size w).alloc (Nat.le_refl _) (.cells (inA I) 25))
    go_enter Tryz.func15, Tryz.ntmps15
    go_wp2_with (refine wpList_load4 rfl (.tmp 14) rfl w.heap.size 0 I.args (by rfl) (fun j hj => by rw [Nat.zero_add]; exact in_args HRI.out j hj) ?_)
    go_loopw [16] (fun iv wr => ∃ i : Nat, i ≤ 4 ∧ iv = .int .i64 i ∧ (∀ j, j < i → Sp.valB (I.at' j) = true) ∧ wr = w.alloc (.cells (inA I) 25)) (fun iv _ => 4 - (intOf iv).toNat)
    case atStart => exact ⟨0, by omega, rfl, (fun j hj => by omega), rfl⟩
    case round =>
      obtain ⟨i, hi, rfl, hall, rfl⟩ := hrel
      have HALL := hidd hall
      clear hall
      by_cases hlt : i < 4
      · have HAT := hidd (show I.at' i = I.args i by unfold Sp.Inp.at'; rw [if_pos hlt])
        have HV := hidd (show ∀ z : Bool, Sp.valB (I.args i) = z → Sp.valB (I.at' i) = z by rw [HAT.out]; exact fun _ h => h)
        have hix := run_index4 I.args i hlt
        cases hv : Sp.valB (I.args i)
        · have HV' := hidd (HV.out _ hv)
          have HMN := hidd (may_no I fuel i (by omega) HV'.out)
          go_wp2_with (go_at_call 24; refine (isValue_any _ _).mono ?_; rintro e w' ⟨rfl, rfl⟩)
          go_ret
          exact ⟨ret_bool HMN.out.symm, HBB.out⟩
        · have HV' := hidd (HV.out _ hv)
          go_wp2_with (go_at_call 24; refine (isValue_any _ _).mono ?_; rintro e w' ⟨rfl, rfl⟩)
          go_roundw
          case rel => exact ⟨i + 1, by omega, by go_num, (fun j hj => by
            by_cases e : j = i
            · rw [e]; exact HV'.out
            · exact HALL.out j (by omega)), (by first | rfl | trivial)⟩
          case measure => simp [intOf]; omega
      · have HA4 := hidd (show ∀ j, j < 4 → Sp.valB (I.at' j) = true from fun j hj => HALL.out j (by omega))
        clear HALL
        go_wp2_with fail
        go_loopw [7] (fun iv wr => ∃ i : Nat, i ≤ 8 ∧ iv = .int .i64 i ∧ (∀ j, j < i → Sp.valB (I.at' (4 + j)) = true ∧ Sp.valB (I.at' (12 + j)) = true) ∧ wr = w.alloc (.cells (inA I) 25)) (fun iv _ => 8 - (intOf iv).toNat)
        case atStart => exact ⟨0, by omega, rfl, (fun j hj => by omega), rfl⟩
        case round =>
          obtain ⟨i, hi, rfl, hall, rfl⟩ := hrel
          have HALL := hidd hall
          clear hall
          by_cases hlt : i < 8
          · have hc1 := inA_at I (4 + i) (by omega)
            have hc2 := inA_at I (12 + i) (by omega)
            cases hv : Sp.valB (I.at' (4 + i))
            · have HV := hidd hv
              go_wp2_with (go_at_call 24; refine (isValue_any _ _).mono ?_; rintro e w' ⟨rfl, rfl⟩)
              go_ret
              exact ⟨ret_bool (may_no I fuel (4 + i) (by omega) HV.out).symm, HBB.out⟩
            · have HV := hidd hv
              cases hu : Sp.valB (I.at' (12 + i))
              · have HU := hidd hu
                go_wp2_with (go_at_call 24; refine (isValue_any _ _).mono ?_; rintro e w' ⟨rfl, rfl⟩)
                go_ret
                exact ⟨ret_bool (may_no I fuel (12 + i) (by omega) HU.out).symm, HBB.out⟩
              · have HU := hidd hu
                go_wp2_with (go_at_call 24; refine (isValue_any _ _).mono ?_; rintro e w' ⟨rfl, rfl⟩)
                go_roundw
                case rel => exact ⟨i + 1, by omega, by go_num, (fun j hj => by
                  by_cases e : j = i
                  · rw [e]; exact ⟨HV.out, HU.out⟩
                  · exact HALL.out j (by omega)), (by first | rfl | trivial)⟩
                case measure => simp [intOf]; omega
          · have HM := hidd (may_yes I fuel HA4.out (fun j hj => HALL.out j (by omega)))
            go_wp2_with fail
            go_ret
            exact ⟨ret_bool (by rw [HM.out]; simp [f0, f1]), HBB.out⟩
end Go.Proofs.YtccndnckceagfabGreatDoorR

namespace Go.Proofs.YtccndnckceagfabGreatDoorR
open Go.RowKit

/-- what is told of a state -/
def outSt (m : Sp.PSt) : Sp.St := ⟨fun _ => 0, 0, m.status, m.value, m.pub, m.sec, m.trace, fun _ => 0, fun _ => 0⟩
theorem run_build_outc (w : World) (s v : Int) (f g : Nat → Int) (t : ByteArray) (m : Sp.PSt) (hs : m.status = s) (hv : m.value = v) (hf : m.pub = f) (hg : m.sec = g) (ht : m.trace = t) :
    (Instr.build 36 #[(0, .int .i64 s), (1, .int .i64 v), (2, .agg (arrL f).toArray), (3, .agg (arrL g).toArray), (4, .string t)]).run Tryz.prog w = .ok (.agg (outL (outSt m)).toArray) w := by
  subst hs hv hf hg ht
  kernel_rfl
theorem range8 {w : World} {b o : Nat} {f : Nat → Int} (h : ∀ j, j < 8 → w.cell? ⟨b, o + j, none⟩ = some (.int .i64 (f j))) : w.rangeAt b o (arrL f) := by
  intro j v hj
  have hj' : j < 8 := by have := (List.getElem?_eq_some_iff.1 hj).1; rwa [arrL_len] at this
  rw [arrL_at f j hj'] at hj
  rw [h j hj', ← hj]
theorem conv_nil (w : World) : (convert 60 9 (.slice none 0 0)).run Tryz.prog w = .ok (.string ⟨#[]⟩) w := by kernel_rfl
/-- the trace as a string -/
theorem conv_trace {w : World} {B n : Nat} {v : Value} {t : ByteArray} (hn : n = t.size) (h : w.ownsRow B 5 1 v n (Lib.strCells t)) : (convert 60 9 v).run Tryz.prog w = .ok (.string t) w := by
  subst hn
  rcases Joins.ownsRow_forms h with ⟨rfl, h0⟩ | ⟨g, cap, rfl⟩
  · have e : t = ⟨#[]⟩ := ByteArray.ext (Array.ext h0 fun j _ h2 => absurd h2 (Nat.not_lt_zero _))
    rw [e]
    exact conv_nil w
  · have hl : t.data.toList.length = t.size := Array.length_toList
    have := run_convert_bytes_back (P := Tryz.prog) w 60 9 5 ⟨g, 0, none⟩ cap t.data.toList Tryz.underlying60 Tryz.underlying5 Tryz.underlying9 (fun j hj => by
      refine h.cells (g := g) rfl j _ ?_
      unfold Lib.strCells
      rw [List.getElem?_map, List.getElem?_eq_getElem hj]
      rfl)
    rw [hl] at this
    rw [this]

theorem yconv {w : World} {B : Nat} {v : Value} {t : ByteArray} {a : Act} {o : Oper} {x : Operand} (ho : o.op = .convert 60 9 x) (hx : a.eval x = v) (h : w.ownsRow B 5 1 v t.size (Lib.strCells t)) : (execOp a.eval o).run Tryz.prog w = .ok (.value (.string t)) w := by
  unfold execOp
  simp only [ho, hx, Sem.run_bind, conv_trace rfl h, Result.andThen_ok, Sem.run_pure]
theorem ybuild (w : World) (m : Sp.PSt) {a : Act} {o : Oper} {x0 x1 x2 x3 x4 : Operand} (ho : o.op = .build 36 #[(0, x0), (1, x1), (2, x2), (3, x3), (4, x4)]) (h0 : a.eval x0 = .int .i64 m.status) (h1 : a.eval x1 = .int .i64 m.value) (h2 : a.eval x2 = .agg (arrL m.pub).toArray) (h3 : a.eval x3 = .agg (arrL m.sec).toArray) (h4 : a.eval x4 = .string m.trace) :
    (execOp a.eval o).run Tryz.prog w = .ok (.value (.agg (outL (outSt m)).toArray)) w := by
  unfold execOp
  simp only [ho, Sem.run_bind, List.map_toArray, List.map_cons, List.map_nil, h0, h1, h2, h3, h4, run_build_outc w m.status m.value m.pub m.sec m.trace m rfl rfl rfl rfl rfl, Result.andThen_ok, Sem.run_pure]
/-- what holds while the answer is made -/
structure SOut (b B N : Nat) (v : Value) (m : Sp.PSt) (w : World) : Prop where
  row : w.rowIs b 62 82 (pF m v)
  own : w.ownsRow B 5 1 v m.trace.size (Lib.strCells m.trace)
  out : ∃ st, OutAt w N 0 st

set_option maxRecDepth 20000 in
set_option maxHeartbeats 4000000 in
theorem outcome_any (B b : Nat) (m : Sp.PSt) (w : World) (hP : PAt w B b m) :
    Calls Tryz.prog 28 #[.pointer (some ⟨b, 0, none⟩)] w fun e w' => e = .returned (.agg (outL (outSt m)).toArray) ∧ Below w.heap.size w w' := by
  obtain ⟨v, hrow, hown⟩ := hP
  have hbl := hrow.lt
  have HR := hid hrow
  have HO := hid hown
  clear hrow hown
  go_enter Tryz.func28, Tryz.ntmps28
  go_upto_region 1 with (refine wpList_alloc_out rfl rfl ?_; intro w1 ho1 hb1 hz1; have HO1 := hidd ho1; have HB1 := hidd hb1; clear ho1 hb1)
  have HR1 := hid (HR.out.of_block (HB1.out.block b hbl))
  have HW1 := hid (own_below HO.out HB1.out)
  generalize hN : w.heap.size = N at *
  have HS : Hid (SOut b B N v m w1) := hid ⟨HR1.out, HW1.out, ⟨_, HO1.out⟩⟩
  refine wp_region_noPanic ?_
  refine wp_region_held (S := SOut b B N v m) (by kernel_rfl) ?_
  show wpAnyH _ _ _ _ _ _ _ _ w1.drew
  have HSD : SOut b B N v m w1.drew := ⟨HS.out.row, HS.out.own, HS.out.out.imp fun _ h => ⟨h.cell, h.free⟩⟩
  simp only [Act.put, List.setIfInBounds_toArray, List.set_cons_zero, List.set_cons_succ]
  refine wpAnyH_take (i := 0) (oi := { dst := some 3, op := Op.move (Operand.tmp 0), type := 85, pos := "run.go:55", after := #[], guard := none }) (v := ?_) rfl (by kernel_rfl) (by kernel_rfl) (by kernel_rfl) (fun _ _ _ h => h) (Or.inl ⟨by rfl, ?_⟩) HSD ?_
  rotate_left 1
  · intro w _
    go_simp
    try with_reducible rfl
  simp only [Act.put, List.setIfInBounds_toArray, List.set_cons_zero, List.set_cons_succ]
  refine wpAnyH_take (i := 1) (oi := { dst := some 4, op := Op.nilCheck (Operand.tmp 3), type := 0, pos := "run.go:55", after := #[{ on := 0, ground := Ground.data }], guard := none }) (v := ?_) rfl (by kernel_rfl) (by kernel_rfl) (by kernel_rfl) (fun _ _ _ h => h) (Or.inl ⟨by rfl, ?_⟩) HSD ?_
  rotate_left 1
  · intro w _
    go_simp
    try with_reducible rfl
  simp only [Act.put, List.setIfInBounds_toArray, List.set_cons_zero, List.set_cons_succ]
  refine wpAnyH_take (i := 2) (oi := { dst := some 5, op := Op.fieldAddr 62 (Operand.tmp 4) 5, type := 0, pos := "run.go:55", after := #[{ on := 1, ground := Ground.data }], guard := none }) (v := ?_) rfl (by kernel_rfl) (by kernel_rfl) (by kernel_rfl) (fun _ _ _ h => h) (Or.inl ⟨by rfl, ?_⟩) HSD ?_
  rotate_left 1
  · intro w _
    go_simp
    try with_reducible rfl
  simp only [Act.put, List.setIfInBounds_toArray, List.set_cons_zero, List.set_cons_succ]
  refine wpAnyH_take (i := 3) (oi := { dst := some 6, op := Op.load 3 (Operand.tmp 5), type := 3, pos := "run.go:55", after := #[{ on := 2, ground := Ground.data }], guard := none }) (v := .int .i64 m.status) rfl (by kernel_rfl) (by kernel_rfl) (by kernel_rfl) (fun _ _ _ h => h) (Or.inl ⟨by rfl, ?_⟩) HSD ?_

  · intro w hS
    have c := p_status hS.row
    go_simp
    try with_reducible rfl
  simp only [Act.put, List.setIfInBounds_toArray, List.set_cons_zero, List.set_cons_succ]
  refine wpAnyH_take (i := 4) (oi := { dst := some 7, op := Op.move (Operand.tmp 0), type := 85, pos := "run.go:55", after := #[], guard := none }) (v := ?_) rfl (by kernel_rfl) (by kernel_rfl) (by kernel_rfl) (fun _ _ _ h => h) (Or.inl ⟨by rfl, ?_⟩) HSD ?_
  rotate_left 1
  · intro w _
    go_simp
    try with_reducible rfl
  simp only [Act.put, List.setIfInBounds_toArray, List.set_cons_zero, List.set_cons_succ]
  refine wpAnyH_take (i := 5) (oi := { dst := some 8, op := Op.nilCheck (Operand.tmp 7), type := 0, pos := "run.go:55", after := #[{ on := 4, ground := Ground.data }], guard := none }) (v := ?_) rfl (by kernel_rfl) (by kernel_rfl) (by kernel_rfl) (fun _ _ _ h => h) (Or.inl ⟨by rfl, ?_⟩) HSD ?_
  rotate_left 1
  · intro w _
    go_simp
    try with_reducible rfl
  simp only [Act.put, List.setIfInBounds_toArray, List.set_cons_zero, List.set_cons_succ]
  refine wpAnyH_take (i := 6) (oi := { dst := some 9, op := Op.fieldAddr 62 (Operand.tmp 8) 6, type := 0, pos := "run.go:55", after := #[{ on := 5, ground := Ground.data }], guard := none }) (v := ?_) rfl (by kernel_rfl) (by kernel_rfl) (by kernel_rfl) (fun _ _ _ h => h) (Or.inl ⟨by rfl, ?_⟩) HSD ?_
  rotate_left 1
  · intro w _
    go_simp
    try with_reducible rfl
  simp only [Act.put, List.setIfInBounds_toArray, List.set_cons_zero, List.set_cons_succ]
  refine wpAnyH_take (i := 7) (oi := { dst := some 10, op := Op.load 3 (Operand.tmp 9), type := 3, pos := "run.go:55", after := #[{ on := 6, ground := Ground.data }], guard := none }) (v := .int .i64 m.value) rfl (by kernel_rfl) (by kernel_rfl) (by kernel_rfl) (fun _ _ _ h => h) (Or.inl ⟨by rfl, ?_⟩) HSD ?_

  · intro w hS
    have c := p_value hS.row
    go_simp
    try with_reducible rfl
  simp only [Act.put, List.setIfInBounds_toArray, List.set_cons_zero, List.set_cons_succ]
  refine wpAnyH_take (i := 8) (oi := { dst := some 11, op := Op.move (Operand.tmp 0), type := 85, pos := "run.go:55", after := #[], guard := none }) (v := ?_) rfl (by kernel_rfl) (by kernel_rfl) (by kernel_rfl) (fun _ _ _ h => h) (Or.inl ⟨by rfl, ?_⟩) HSD ?_
  rotate_left 1
  · intro w _
    go_simp
    try with_reducible rfl
  simp only [Act.put, List.setIfInBounds_toArray, List.set_cons_zero, List.set_cons_succ]
  refine wpAnyH_take (i := 9) (oi := { dst := some 12, op := Op.nilCheck (Operand.tmp 11), type := 0, pos := "run.go:55", after := #[{ on := 8, ground := Ground.data }], guard := none }) (v := ?_) rfl (by kernel_rfl) (by kernel_rfl) (by kernel_rfl) (fun _ _ _ h => h) (Or.inl ⟨by rfl, ?_⟩) HSD ?_
  rotate_left 1
  · intro w _
    go_simp
    try with_reducible rfl
  simp only [Act.put, List.setIfInBounds_toArray, List.set_cons_zero, List.set_cons_succ]
  refine wpAnyH_take (i := 10) (oi := { dst := some 13, op := Op.fieldAddr 62 (Operand.tmp 12) 1, type := 0, pos := "run.go:55", after := #[{ on := 9, ground := Ground.data }], guard := none }) (v := ?_) rfl (by kernel_rfl) (by kernel_rfl) (by kernel_rfl) (fun _ _ _ h => h) (Or.inl ⟨by rfl, ?_⟩) HSD ?_
  rotate_left 1
  · intro w _
    go_simp
    try with_reducible rfl
  simp only [Act.put, List.setIfInBounds_toArray, List.set_cons_zero, List.set_cons_succ]
  refine wpAnyH_take (i := 11) (oi := { dst := some 14, op := Op.load 23 (Operand.tmp 13), type := 23, pos := "run.go:55", after := #[{ on := 10, ground := Ground.data }], guard := none }) (v := .agg (arrL m.pub).toArray) rfl (by kernel_rfl) (by kernel_rfl) (by kernel_rfl) (fun _ _ _ h => h) (yieldsIf_load_mid (by rfl) 23 (.tmp 13) rfl b 62 (by rfl) (arrL m.pub) _ (fun w hS => range8 (fun j hj => p_pub hS.row j hj)) Tryz.underlying23 rfl (by rw [arrL_len]; exact info_arr8)) HSD ?_
  simp only [Act.put, List.setIfInBounds_toArray, List.set_cons_zero, List.set_cons_succ]
  refine wpAnyH_take (i := 12) (oi := { dst := some 15, op := Op.move (Operand.tmp 0), type := 85, pos := "run.go:55", after := #[], guard := none }) (v := ?_) rfl (by kernel_rfl) (by kernel_rfl) (by kernel_rfl) (fun _ _ _ h => h) (Or.inl ⟨by rfl, ?_⟩) HSD ?_
  rotate_left 1
  · intro w _
    go_simp
    try with_reducible rfl
  simp only [Act.put, List.setIfInBounds_toArray, List.set_cons_zero, List.set_cons_succ]
  refine wpAnyH_take (i := 13) (oi := { dst := some 16, op := Op.nilCheck (Operand.tmp 15), type := 0, pos := "run.go:55", after := #[{ on := 12, ground := Ground.data }], guard := none }) (v := ?_) rfl (by kernel_rfl) (by kernel_rfl) (by kernel_rfl) (fun _ _ _ h => h) (Or.inl ⟨by rfl, ?_⟩) HSD ?_
  rotate_left 1
  · intro w _
    go_simp
    try with_reducible rfl
  simp only [Act.put, List.setIfInBounds_toArray, List.set_cons_zero, List.set_cons_succ]
  refine wpAnyH_take (i := 14) (oi := { dst := some 17, op := Op.fieldAddr 62 (Operand.tmp 16) 2, type := 0, pos := "run.go:55", after := #[{ on := 13, ground := Ground.data }], guard := none }) (v := ?_) rfl (by kernel_rfl) (by kernel_rfl) (by kernel_rfl) (fun _ _ _ h => h) (Or.inl ⟨by rfl, ?_⟩) HSD ?_
  rotate_left 1
  · intro w _
    go_simp
    try with_reducible rfl
  simp only [Act.put, List.setIfInBounds_toArray, List.set_cons_zero, List.set_cons_succ]
  refine wpAnyH_take (i := 15) (oi := { dst := some 18, op := Op.load 23 (Operand.tmp 17), type := 23, pos := "run.go:55", after := #[{ on := 14, ground := Ground.data }], guard := none }) (v := .agg (arrL m.sec).toArray) rfl (by kernel_rfl) (by kernel_rfl) (by kernel_rfl) (fun _ _ _ h => h) (yieldsIf_load_mid (by rfl) 23 (.tmp 17) rfl b 70 (by rfl) (arrL m.sec) _ (fun w hS => range8 (fun j hj => p_sec hS.row j hj)) Tryz.underlying23 rfl (by rw [arrL_len]; exact info_arr8)) HSD ?_
  simp only [Act.put, List.setIfInBounds_toArray, List.set_cons_zero, List.set_cons_succ]
  refine wpAnyH_take (i := 16) (oi := { dst := some 19, op := Op.move (Operand.tmp 0), type := 85, pos := "run.go:55", after := #[], guard := none }) (v := ?_) rfl (by kernel_rfl) (by kernel_rfl) (by kernel_rfl) (fun _ _ _ h => h) (Or.inl ⟨by rfl, ?_⟩) HSD ?_
  rotate_left 1
  · intro w _
    go_simp
    try with_reducible rfl
  simp only [Act.put, List.setIfInBounds_toArray, List.set_cons_zero, List.set_cons_succ]
  refine wpAnyH_take (i := 17) (oi := { dst := some 20, op := Op.nilCheck (Operand.tmp 19), type := 0, pos := "run.go:55", after := #[{ on := 16, ground := Ground.data }], guard := none }) (v := ?_) rfl (by kernel_rfl) (by kernel_rfl) (by kernel_rfl) (fun _ _ _ h => h) (Or.inl ⟨by rfl, ?_⟩) HSD ?_
  rotate_left 1
  · intro w _
    go_simp
    try with_reducible rfl
  simp only [Act.put, List.setIfInBounds_toArray, List.set_cons_zero, List.set_cons_succ]
  refine wpAnyH_take (i := 18) (oi := { dst := some 21, op := Op.fieldAddr 62 (Operand.tmp 20) 3, type := 0, pos := "run.go:55", after := #[{ on := 17, ground := Ground.data }], guard := none }) (v := ?_) rfl (by kernel_rfl) (by kernel_rfl) (by kernel_rfl) (fun _ _ _ h => h) (Or.inl ⟨by rfl, ?_⟩) HSD ?_
  rotate_left 1
  · intro w _
    go_simp
    try with_reducible rfl
  simp only [Act.put, List.setIfInBounds_toArray, List.set_cons_zero, List.set_cons_succ]
  refine wpAnyH_take (i := 19) (oi := { dst := some 22, op := Op.load 60 (Operand.tmp 21), type := 60, pos := "run.go:55", after := #[{ on := 18, ground := Ground.data }], guard := none }) (v := v) rfl (by kernel_rfl) (by kernel_rfl) (by kernel_rfl) (fun _ _ _ h => h) (Or.inl ⟨by rfl, ?_⟩) HSD ?_

  · intro w hS
    have c := p_trace hS.row
    go_simp
    try with_reducible rfl
  simp only [Act.put, List.setIfInBounds_toArray, List.set_cons_zero, List.set_cons_succ]
  refine wpAnyH_take (i := 20) (oi := { dst := some 23, op := Op.convert 60 9 (Operand.tmp 22), type := 9, pos := "run.go:55", after := #[{ on := 19, ground := Ground.data }], guard := none }) (v := .string m.trace) rfl (by kernel_rfl) (by kernel_rfl) (by kernel_rfl) (fun _ _ _ h => h) (Or.inl ⟨by rfl, fun w hS => yconv (x := .tmp 22) rfl (by rfl) hS.own⟩) HSD ?_
  simp only [Act.put, List.setIfInBounds_toArray, List.set_cons_zero, List.set_cons_succ]
  refine wpAnyH_take (i := 21) (oi := { dst := some 24, op := Op.build 36 #[(0, Operand.tmp 6), (1, Operand.tmp 10), (2, Operand.tmp 14), (3, Operand.tmp 18), (4, Operand.tmp 23)], type := 36, pos := "run.go:55", after := #[{ on := 3, ground := Ground.data }, { on := 7, ground := Ground.data }, { on := 11, ground := Ground.data }, { on := 15, ground := Ground.data }, { on := 20, ground := Ground.data }], guard := none }) (v := .agg (outL (outSt m)).toArray) rfl (by kernel_rfl) (by kernel_rfl) (by kernel_rfl) (fun _ _ _ h => h) (Or.inl ⟨by rfl, fun w _ => ybuild w m (x0 := .tmp 6) (x1 := .tmp 10) (x2 := .tmp 14) (x3 := .tmp 18) (x4 := .tmp 23) rfl (by rfl) (by rfl) (by rfl) (by rfl) (by rfl)⟩) HSD ?_
  simp only [Act.put, List.setIfInBounds_toArray, List.set_cons_zero, List.set_cons_succ]
  refine wpAnyH_all (rs := [22]) (by kernel_rfl) (by simp) (AllReadyH.cons (o := { dst := none, op := Op.store 36 (Operand.tmp 2) (Operand.tmp 24), type := 0, pos := "run.go:55", after := #[{ on := 21, ground := Ground.data }, { on := 0, ground := Ground.phase }, { on := 1, ground := Ground.phase }, { on := 2, ground := Ground.phase }, { on := 3, ground := Ground.phase }, { on := 4, ground := Ground.phase }, { on := 5, ground := Ground.phase }, { on := 6, ground := Ground.phase }, { on := 7, ground := Ground.phase }, { on := 8, ground := Ground.phase }, { on := 9, ground := Ground.phase }, { on := 10, ground := Ground.phase }, { on := 11, ground := Ground.phase }, { on := 12, ground := Ground.phase }, { on := 13, ground := Ground.phase }, { on := 14, ground := Ground.phase }, { on := 15, ground := Ground.phase }, { on := 16, ground := Ground.phase }, { on := 17, ground := Ground.phase }, { on := 18, ground := Ground.phase }, { on := 19, ground := Ground.phase }, { on := 20, ground := Ground.phase }, { on := 21, ground := Ground.phase }], guard := none }) rfl (fun K' hK => ?_) AllReadyH.nil)
  rw [if_pos (by rfl)]
  obtain ⟨st1, hst1⟩ := HSD.out
  have hsz : (outL (outSt m)).toArray.size = 81 := by simp [outL_len]
  refine wp_store_mid 36 (.tmp 2) (.tmp 24) rfl N 0 (outL (outSt m)).toArray (by rfl) (by rfl) (by rw [hsz]; exact hst1.there) (by rw [hsz]; exact info_out) (all_oneCell_toArray (outL_one (outSt m))) ?_
  have ho2 : OutAt (w1.drew.setCells N 0 (outL (outSt m))) N 0 (outSt m) := OutAt.of_range (World.rangeAt_setCells_same _ N 0 (outL (outSt m)) (by rw [outL_len]; exact hst1.there)) (World.there_setCells hst1.there N 0 (outL (outSt m)))
  have hon := only_setCells w1.drew N 0 (outL (outSt m))
  have hbN : b ≠ N := by omega
  have hwN : ∀ k, v.ownBlock = some k → k ≠ N := fun k hk => by have := (HO.out.lt k hk).2; omega
  have hS2 : SOut b B N v m (w1.drew.setCells N 0 (outL (outSt m))) := ⟨HSD.row.of_block (hon.block b hbN), own_move HSD.own (fun k hk => hon.block k (hwN k hk)), _, ho2⟩
  have HO2 := hid ho2
  have HB2 := hid (HB1.out.drew.trans (hon.below (B := N) (Nat.le_refl _)))
  refine hK.out _ _ hS2 (fun _ => ?_)
  clear hK hS2 hon hst1 HSD ho2 hwN
  refine wpAnyH_done (by kernel_rfl) ?_ _
  refine NoPanic.normal ?_
  have e2 : (outL (outSt m)).toArray.toList = outL (outSt m) := rfl
  rw [e2]
  generalize w1.drew.setCells N 0 (outL (outSt m)) = w2 at *
  go_wp2_with fail
  refine bodyPost_ret (v := .agg (outL (outSt m)).toArray) (results_cell_one (q := 2) (a := ⟨N, 0, none⟩) rfl _ _ (by rfl) (run_loadVar_out HO2.out)) (by rfl) ⟨rfl, ?_⟩
  exact HB2.out
end Go.Proofs.YtccndnckceagfabGreatDoorR
