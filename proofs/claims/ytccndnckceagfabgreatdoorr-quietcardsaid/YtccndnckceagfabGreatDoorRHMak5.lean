/-
  The compiler: the program's compile.Machine.
-/
import Derived.Test.YtccndnckceagfabGreatDoorRG13
namespace Go.Proofs.YtccndnckceagfabGreatDoorR
open Go.RowKit

/-! ### Makers as wholes -/
def mkL (a b c : Int) : List Value := hmL (fun _ => 0) ++ [.int .i64 a, .int .i64 b, .int .i64 c, .slice none 0 0]
def mkG (H : Nat → Int) (a b c : Int) (v : Value) (j : Nat) : Value := if j < 52 then .int .i64 (H j) else if j = 52 then .int .i64 a else if j = 53 then .int .i64 b else if j = 54 then .int .i64 c else v
theorem mkL_len (a b c : Int) : (mkL a b c).length = 56 := by simp [mkL, hmL_len]
theorem mkL_at (a b c : Int) (j : Nat) (hj : j < 56) : (mkL a b c)[j]? = some (mkG (fun _ => 0) a b c (.slice none 0 0) j) := by
  unfold mkL mkG
  by_cases h : j < 52
  · rw [if_pos h, List.getElem?_append_left (by rw [hmL_len]; exact h)]
    exact hmL_at _ j h
  · rw [if_neg h, List.getElem?_append_right (by rw [hmL_len]; omega), hmL_len]
    have h4 : j = 52 ∨ j = 53 ∨ j = 54 ∨ j = 55 := by omega
    rcases h4 with rfl | rfl | rfl | rfl <;> rfl
theorem mkL_one (a b c : Int) : ∀ v ∈ mkL a b c, v.oneCell' = true := by
  intro v hv
  unfold mkL at hv
  rw [List.mem_append] at hv
  rcases hv with hv | hv
  · exact hmL_one _ v hv
  · simp only [List.mem_cons, List.not_mem_nil, or_false] at hv
    rcases hv with rfl | rfl | rfl | rfl <;> rfl
theorem info_mk : (Tryz.prog.info? 70).map (·.size) = some 56 := by kernel_rfl
theorem run_alloc_mk (w : World) : (Instr.alloc 70 true (.tuple #[])).run Tryz.prog w = .ok (.pointer (some ⟨w.heap.size, 0, none⟩)) (w.alloc (.cells (mkL 0 0 0).toArray 70)) := by kernel_rfl
theorem run_build_mk (w : World) (a b c : Int) : (Instr.build 70 #[(1, .int .i64 a), (2, .int .i64 b), (3, .int .i64 c)]).run Tryz.prog w = .ok (.agg (mkL a b c).toArray) w := by kernel_rfl
def MkG (w : World) (q : Nat) (H : Nat → Int) (a b c : Int) (v : Value) : Prop := w.rowIs q 70 56 (mkG H a b c v)
theorem mk_new (w : World) (a b c : Int) : MkG (w.alloc (.cells (mkL a b c).toArray 70)) w.heap.size (fun _ => 0) a b c (.slice none 0 0) := by
  have h := World.rowIs_alloc w (mkL a b c).toArray 70 (mkG (fun _ => 0) a b c (.slice none 0 0)) (fun j hj => by
    have hj' : j < 56 := by simpa [mkL_len] using hj
    rw [List.getElem?_toArray]
    exact mkL_at a b c j hj')
  have hs : (mkL a b c).toArray.size = 56 := by simp [mkL_len]
  rw [hs] at h
  exact h
theorem wpList_alloc_mk {ops : Array Oper} {rest : List Oper} {op : Oper} {a : Act} {w : World} {Q : Exit → Act → World → Prop} (hgd : op.guard = none) (ho : op.op = .alloc 70)
    (h : ∀ w', MkG w' w.heap.size (fun _ => 0) 0 0 0 (.slice none 0 0) → Below w.heap.size w w' → w'.heap.size = w.heap.size + 1 → wpList Tryz.prog ops Q rest (a.put op.dst (.pointer (some ⟨w.heap.size, 0, none⟩))) w') : wpList Tryz.prog ops Q (op :: rest) a w := by
  refine wpList_plain hgd fun K hK => ?_
  unfold Oper.wp execOp
  simp only [ho, Sem.run_bind, run_alloc_mk, Result.andThen_ok, Sem.run_pure]
  exact hK _ _ (h _ (mk_new _ _ _ _) ((Below.refl _ _).alloc (Nat.le_refl _) _) (by simp))
theorem wpList_build_mk {ops : Array Oper} {rest : List Oper} {op : Oper} {a : Act} {w : World} {Q : Exit → Act → World → Prop} (hgd : op.guard = none) (x y z : Operand) (ho : op.op = .build 70 #[(1, x), (2, y), (3, z)]) (p q r : Int) (hx : a.eval x = .int .i64 p) (hy : a.eval y = .int .i64 q) (hz : a.eval z = .int .i64 r)
    (h : wpList Tryz.prog ops Q rest (a.put op.dst (.agg (mkL p q r).toArray)) w) : wpList Tryz.prog ops Q (op :: rest) a w := by
  refine wpList_plain hgd fun K hK => ?_
  unfold Oper.wp execOp
  simp only [ho, Sem.run_bind, List.map_toArray, List.map_cons, List.map_nil, hx, hy, hz, run_build_mk, Result.andThen_ok, Sem.run_pure]
  exact hK _ _ h
set_option maxRecDepth 20000 in
theorem wpList_store_mk {ops : Array Oper} {rest : List Oper} {op : Oper} {a : Act} {w : World} {Q : Exit → Act → World → Prop} (hgd : op.guard = none) (x y : Operand) (ho : op.op = .store 70 x y)
    (b : Nat) (p q r : Int) {H : Nat → Int} {p' q' r' : Int} {v : Value} (hx : a.eval x = .pointer (some ⟨b, 0, none⟩)) (hy : a.eval y = .agg (mkL p q r).toArray) (hK : MkG w b H p' q' r' v)
    (h : ∀ w', MkG w' b (fun _ => 0) p q r (.slice none 0 0) → Only b w w' → wpList Tryz.prog ops Q rest (a.put op.dst undef) w') : wpList Tryz.prog ops Q (op :: rest) a w := by
  have hs : (mkL p q r).toArray.size = 56 := by simp [mkL_len]
  refine wpList_store_mid hgd 70 x y ho b 0 (mkL p q r).toArray hx hy (by rw [hs]; exact row_there hK 0 56 (by omega)) (by rw [hs]; exact info_mk) (all_oneCell_toArray (mkL_one p q r)) (h _ ?_ ?_)
  · have := row_setCells hK (mkL p q r) 0 (by rw [mkL_len]; omega)
    refine World.rowIs.congr this fun j hj => ?_
    rw [if_pos (by rw [mkL_len]; omega), Nat.sub_zero, List.getD_eq_getElem?_getD, mkL_at p q r j hj]
    rfl
  · exact only_setCells w b 0 (mkL p q r)
set_option maxRecDepth 20000 in
theorem wpList_store_mkh {ops : Array Oper} {rest : List Oper} {op : Oper} {a : Act} {w : World} {Q : Exit → Act → World → Prop} (hgd : op.guard = none) (x y : Operand) (ho : op.op = .store 68 x y)
    (b : Nat) (H : Nat → Int) {H' : Nat → Int} {p q r : Int} {v : Value} (hx : a.eval x = .pointer (some ⟨b, 0, none⟩)) (hy : a.eval y = .agg (hmL H).toArray) (hK : MkG w b H' p q r v)
    (h : ∀ w', MkG w' b H p q r v → Only b w w' → wpList Tryz.prog ops Q rest (a.put op.dst undef) w') : wpList Tryz.prog ops Q (op :: rest) a w := by
  have hs : (hmL H).toArray.size = 52 := by simp [hmL_len]
  refine wpList_store_mid hgd 68 x y ho b 0 (hmL H).toArray hx hy (by rw [hs]; exact row_there hK 0 52 (by omega)) (by rw [hs]; exact info_hm) (all_oneCell_toArray (hmL_one H)) (h _ ?_ ?_)
  · have := row_setCells hK (hmL H) 0 (by rw [hmL_len]; omega)
    refine World.rowIs.congr this fun j hj => ?_
    rw [hmL_len]
    by_cases hj52 : j < 52
    · rw [if_pos (by omega), Nat.sub_zero, List.getD_eq_getElem?_getD, hmL_at H j hj52]
      unfold mkG
      rw [if_pos hj52]
      rfl
    · rw [if_neg (by omega)]
      unfold mkG
      rw [if_neg hj52, if_neg hj52]
  · exact only_setCells w b 0 (hmL H)
theorem MkG.r {w : World} {q : Nat} {H : Nat → Int} {k : Int} {v : Value} (h : MkG w q H k (k - 2) (k - 1) v) : MkR w q H k v := h

/-- the homes that the compiler finds -/
def hmsOf (C : List Sp.Ins) (L : List (Nat × Nat)) (nb c : Nat) (K : Nat → Bool) (tk : List Nat) : Nat → Int := Sp.seatH (Sp.rounds C L nb 0) ((Sp.coreL K ++ tk.reverse).foldl (Sp.oneH (fun r x => Sp.ofZ (Sp.ofTo C (Sp.rounds C L nb) C.length C.length) (Sp.rounds C L nb 0) 52 (52 + r * 52 + x)) c) (fun _ => -1)) 4
/-- how the graph was peeled -/
def Peeled (C : List Sp.Ins) (L : List (Nat × Nat)) (nb c : Nat) (K : Nat → Bool) (tk : List Nat) : Prop :=
  Sp.PeelT (fun r => Sp.ofZ (Sp.ofTo C (Sp.rounds C L nb) C.length C.length) (Sp.rounds C L nb 0) 52 r) (fun r x => Sp.ofZ (Sp.ofTo C (Sp.rounds C L nb) C.length C.length) (Sp.rounds C L nb 0) 52 (52 + r * 52 + x)) c tk K ∧
    Sp.IsCore (fun r => Sp.ofZ (Sp.ofTo C (Sp.rounds C L nb) C.length C.length) (Sp.rounds C L nb 0) 52 r) (fun r x => Sp.ofZ (Sp.ofTo C (Sp.rounds C L nb) C.length C.length) (Sp.rounds C L nb 0) 52 (52 + r * 52 + x)) c K
/-- what is laid with given homes -/
def laidOf (C : List Sp.Ins) (L : List (Nat × Nat)) (nb : Nat) (k : Int) (H : Nat → Int) : List Sp.Ins := Sp.cmpL (Sp.HX H) k (Sp.lvX (Sp.rounds C L nb) C.length 0) C
theorem flat_take {α β : Type} (f : α → List β) (l : List α) (j : Nat) (h : j < l.length) : (l.take (j + 1)).flatMap f = (l.take j).flatMap f ++ f l[j] := by
  rw [List.take_succ_eq_append_getElem h, List.flatMap_append]
  simp
theorem flat_len {α β : Type} (f : α → List β) (l : List α) (j : Nat) : ((l.take j).flatMap f).length ≤ (l.flatMap f).length := by
  conv => rhs; rw [← List.take_append_drop j l, List.flatMap_append, List.length_append]
  omega

set_option maxRecDepth 20000 in
set_option maxHeartbeats 4000000 in
theorem machineC_any (p nb Bp c : Nat) (C : List Sp.Ins) (L : List (Nat × Nat)) (k : Int) (w : World) (hk : 6 ≤ k ∧ k ≤ 10) (hk2 : k - 2 = (c : Int)) (hP : ProgAt w Bp p C L) (hA : ArgsAt w) (hnb : L.length = nb) (hC1 : 1 ≤ C.length) (hC : C.length ≤ 1000) (hnb10 : nb ≤ 10) (hnb1 : 1 ≤ nb) (hr : ∀ i, i ∈ C → i.d < 52 ∧ i.x < 52 ∧ i.y < 52)
    (hW : ∀ K tk, Peeled C L nb c K tk → 0 < (laidOf C L nb k (hmsOf C L nb c K tk)).length ∧ (laidOf C L nb k (hmsOf C L nb c K tk)).length ≤ 1000 ∧ ∀ i ∈ laidOf C L nb k (hmsOf C L nb c K tk), Sp.WOk i ∧ i.d ≤ 1000 ∧ i.x ≤ 1000 ∧ i.y ≤ 1000) :
    Calls Tryz.prog 18 #[.pointer (some ⟨p, 0, none⟩), .int .i64 k] w fun e w' => ∃ K tk, Peeled C L nb c K tk ∧ e = .returned (.string (Sp.wrD (laidOf C L nb k (hmsOf C L nb c K tk)))) ∧ Below w.heap.size w w' := by
  have HP := hid hP
  have HA := hid hA
  have HW := hid hW
  have hN0 : 0 < w.heap.size := hA.lt
  have HHO := hid (fun (W : World) (hW : ProgAt W Bp p C L) (hAW : ArgsAt W) => homeOf_any p nb Bp c C L k W hk2 (by omega) hW hAW hnb hC1 hC hnb10 hnb1 hr)
  have HBG := hid (fun (B b : Nat) (H : Nat → Int) (D : List Sp.Ins) (v : Value) (W : World) hM hb hB hb0 hD hW hAW => mkBegin_any B b p nb Bp H k D v C L W hM hb hB hb0 hD hW hAW hnb hC1 hC hnb10 hnb1 hr)
  have e1 : k - 2 + 1 = k - 1 := by omega
  have HK2 := hid hk2
  clear hP hA hW hr hk2 hnb
  generalize hN : w.heap.size = N at *
  go_enter Tryz.func18, Tryz.ntmps18
  go_upto_region 3 with (first | (refine wpList_build_mk rfl (.tmp 11) (.tmp 12) (.tmp 14) rfl k (k - 2) (k - 1) (by rfl) (by rfl) (by rfl) ?_) | (refine wpList_alloc_mk rfl rfl ?_; intro wa hsa hba hza; rw [hN] at hsa hba hza; have HSA := hid hsa; have HBA := hid hba; have HZA := hid hza; clear hsa hba hza) | (refine wpList_store_mk rfl (.tmp 6) (.tmp 15) rfl N k (k - 2) (k - 1) (by first | rfl | (rw [hN]; rfl)) (by rfl) HSA.out ?_; intro w3 hs3 ho3; have HS3 := hid hs3; have HO3 := hid ho3; clear hs3 ho3))
  have hz3 : w3.heap.size = N + 1 := by rw [HO3.out.size, HZA.out]
  have HB3 := hid (HBA.out.trans (HO3.out.below (B := N) (Nat.le_refl _)))
  have HP3 := hid (HP.out.move (by rw [hN]; exact HB3.out))
  have HA3 := hid (HA.out.move (by rw [hN]; exact HB3.out))
  clear HSA HBA HZA HO3
  try rw [hN]
  go_upto_region 4 with (first | (go_at_call 29; refine (HHO.out w3 HP3.out HA3.out).mono ?_; rintro e w4 ⟨K, tk, hpt, hco, he, hb4⟩; have he' : e = .returned (.agg (hmL (hmsOf C L nb c K tk)).toArray) := he; subst he'; have HPE := hid (show Peeled C L nb c K tk from ⟨hpt, hco⟩); have HB4 := hid hb4; have HS4 := hid (HS3.out.of_block (w' := w4) (hb4.block N (by omega))); clear he hpt hco hb4) | (refine wpList_store_mkh rfl (.tmp 19) (.tmp 18) rfl N (hmsOf C L nb c K tk) (by first | rfl | (rw [hN]; rfl)) (by rfl) HS4.out ?_; intro w5 hs5 ho5; have HS5 := hid hs5; have HO5 := hid ho5; clear hs5 ho5))
  obtain ⟨hl0, hl1, hwk⟩ := HW.out K tk HPE.out
  have HWK := hid hwk
  have hs4 := HB4.out.size
  have hz5 : N + 1 ≤ w5.heap.size := by rw [HO5.out.size]; omega
  have HB5 := hid ((HB3.out.trans (HB4.out.mono (by omega))).trans (HO5.out.below (B := N) (Nat.le_refl _)))
  clear hwk HW HB3 HP3 HA3 HB4 HS3 HS4 HO5 HHO
  obtain ⟨H, hH⟩ : ∃ H, hmsOf C L nb c K tk = H := ⟨_, rfl⟩
  have HHH := hid hH
  rw [hH] at hl0 hl1 HWK HS5
  try rw [hH]
  clear hH
  have HM5 := hid (show MkV w5 (N + 1) N H k [] (.slice none 0 0) from ⟨HS5.out.r, World.ownsRow_nil _ _ _ _⟩)
  have HBE := hid (HBG.out (N + 1) N H [] (.slice none 0 0) w5 HM5.out (by omega) hz5 (by omega) (by simp) (HP.out.move (by rw [hN]; exact HB5.out)) (HA.out.move (by rw [hN]; exact HB5.out)))
  have HLA := hid (show laidOf C L nb k H = begTo (Sp.rounds C L nb 0) (Sp.HX H) 4 ++ C.flatMap (Sp.fol (Sp.HX H) k) by
    unfold laidOf Sp.cmpL
    rw [begTo_four (Sp.rounds C L nb) (Sp.HX H) (show 0 < C.length by omega)])
  rw [HLA.out] at hl0 hl1 HWK
  rw [List.nil_append] at HBE
  clear HBG HS5 HM5
  generalize begTo (Sp.rounds C L nb 0) (Sp.HX H) 4 = D0 at *
  obtain ⟨vC, vB, hrow, hoC, _, _⟩ := HP.out
  have HRW := hid hrow
  have HOC := hid hoC
  obtain ⟨gC, kC, hvC⟩ := Joins.ownsRow_form hoC (by omega)
  subst hvC
  clear hrow hoC
  have HPC := hid (show ∀ W, Below N w W → W.cell? ⟨p, 0, none⟩ = some (.slice (some ⟨gC, 0, none⟩) C.length kC) from fun W hW => (HRW.out.of_block (w' := W) (hW.block p (by have := HRW.out.lt; omega))).cell (i := 0) (by omega))
  go_upto_region 6 with (go_at_call 30; refine HBE.out.mono ?_; rintro e w6 ⟨rfl, v6, hm6, hf6⟩; have HB6 := hid (show Below N w w6 from HB5.out.trans ⟨hf6.os, hf6.tape, hf6.output, hf6.size, fun q hq => hf6.block q (by omega) (by omega) (by simp [Value.ownBlock])⟩); have HM6 := hid hm6; have hpc := HPC.out w6 HB6.out; clear hm6 hf6)
  clear HBE HB5
  go_loopw [27] (fun iv wr => ∃ (j : Nat) (vr : Value), j ≤ C.length ∧ iv = .int .i64 (j : Nat) ∧ MkV wr (N + 1) N H k (D0 ++ (C.take j).flatMap (Sp.fol (Sp.HX H) k)) vr ∧ Below N w wr ∧ N + 1 ≤ wr.heap.size) (fun iv _ => C.length - (intOf iv).toNat)
  case atStart => exact ⟨0, v6, by omega, rfl, by rw [List.take_zero, List.flatMap_nil, List.append_nil]; exact HM6.out, HB6.out, by have := HM6.out.1.lt; omega⟩
  case round =>
    clear HM6 HB6 hpc
    obtain ⟨j, vr, hj, rfl, hm, hb, hzr⟩ := hrel
    have HM := hid hm
    have HB := hid hb
    have hfl := flat_len (Sp.fol (Sp.HX H) k) C j
    have hDl : (D0 ++ (C.take j).flatMap (Sp.fol (Sp.HX H) k)).length ≤ 1000 := by rw [List.length_append] at hl1 ⊢; omega
    by_cases hlt : j < C.length
    · have tlt : decide ((j : Int) < (C.length : Int)) = true := by simp; omega
      have tlt' : (j : Int) < (C.length : Int) := by omega
      obtain ⟨c1, c2, c3, c4, c5, c6, c7⟩ := ins_cells (own_below HOC.out (by rw [hN]; exact hb)) j hlt
      have HST := hid (show D0 ++ (C.take (j + 1)).flatMap (Sp.fol (Sp.HX H) k) = D0 ++ (C.take j).flatMap (Sp.fol (Sp.HX H) k) ++ Sp.fol (Sp.HX H) k C[j] by rw [flat_take _ C j hlt, List.append_assoc])
      clear hm hb hfl
      generalize D0 ++ (C.take j).flatMap (Sp.fol (Sp.HX H) k) = Dj at *
      generalize C[j] = I at *
      have HA2 := hid (show Below wr.heap.size wr (wr.alloc (.cells #[.int .u8 I.o, .int .i64 I.d, .int .i64 I.x, .int .i64 I.y, .int .i64 I.n, .int .i64 I.k, .int .i64 I.m] 74)) from (Below.refl _ _).alloc (Nat.le_refl _) _)
      have HFO := hid (mkFollow_any (N + 1) N H k Dj vr I.o I.d I.x I.y I.n I.k I.m (wr.alloc (.cells #[.int .u8 I.o, .int .i64 I.d, .int .i64 I.x, .int .i64 I.y, .int .i64 I.n, .int .i64 I.k, .int .i64 I.m] 74)) hk (HM.out.below HA2.out) (by omega) (by simp; omega) (by omega))
      have hsz : (wr.alloc (.cells #[.int .u8 I.o, .int .i64 I.d, .int .i64 I.x, .int .i64 I.y, .int .i64 I.n, .int .i64 I.k, .int .i64 I.m] 74)).heap.size = wr.heap.size + 1 := by simp
      obtain ⟨d0, d1, d2, d3, d4, d5, d6⟩ := row_cells (row_new wr I.o I.d I.x I.y I.n I.k I.m 74)
      go_wp2_with (go_at_call 31; refine HFO.out.mono ?_; rintro e w8 ⟨rfl, v8, hm8, hf8⟩; have HM8 := hid hm8; have HF8 := hid hf8; clear hm8 hf8)
      go_roundw
      case rel =>
        refine ⟨j + 1, v8, by omega, by go_num, by rw [HST.out]; exact HM8.out, ?_, by have := HM8.out.1.lt; omega⟩
        refine (HB.out.trans (HA2.out.mono (by omega))).trans ⟨HF8.out.os, HF8.out.tape, HF8.out.output, HF8.out.size, fun q hq => HF8.out.block q (by omega) (by omega) (fun e => ?_)⟩
        have := (HM.out.2.lt q e).1
        omega
      case measure => simp [intOf]; omega
    · have tlt : decide ((j : Int) < (C.length : Int)) = false := by simp; omega
      have tlt' : ¬ (j : Int) < (C.length : Int) := by omega
      have hjl : j = C.length := by omega
      have HMF := hid (show MkV wr (N + 1) N H k (D0 ++ C.flatMap (Sp.fol (Sp.HX H) k)) vr by rw [hjl, List.take_length] at hm; exact hm)
      have hc55 := hm.1.v
      have HWM := hid (writeMachine_any (N + 1) (D0 ++ C.flatMap (Sp.fol (Sp.HX H) k)) vr wr HMF.out.2 hl0 (by omega) HWK.out)
      clear hm hb HM hfl
      rw [← HLA.out] at HWM
      go_wp2_with (go_at_call 32; refine HWM.out.mono ?_; rintro e w9 ⟨rfl, hb9⟩; have HB9 := hid hb9; clear hb9)
      go_ret
      exact ⟨K, tk, HPE.out, by rw [HHH.out]; rfl, HB.out.trans (HB9.out.mono (by omega))⟩
end Go.Proofs.YtccndnckceagfabGreatDoorR
