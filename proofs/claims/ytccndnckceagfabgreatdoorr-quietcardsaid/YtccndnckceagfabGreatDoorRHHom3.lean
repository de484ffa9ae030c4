/-
  The program's table of homes: whole tables, seatArguments, Of.
-/
import Derived.Test.YtccndnckceagfabGreatDoorRHHomX
namespace Go.Proofs.YtccndnckceagfabGreatDoorR
open Go.RowKit

/-! ### Tables of homes as wholes -/
def hmL (H : Nat → Int) : List Value := (List.range 52).map (fun j => .int .i64 (H j))
theorem hmL_len (H : Nat → Int) : (hmL H).length = 52 := by simp [hmL]
theorem hmL_at (H : Nat → Int) (j : Nat) (hj : j < 52) : (hmL H)[j]? = some (.int .i64 (H j)) := by simp [hmL, hj]
theorem hmL_one (H : Nat → Int) : ∀ v ∈ hmL H, v.oneCell' = true := by
  intro v hv
  simp only [hmL, List.mem_map] at hv
  obtain ⟨r, _, rfl⟩ := hv
  rfl
theorem info_hm : (Tryz.prog.info? 68).map (·.size) = some 52 := by kernel_rfl
theorem run_alloc_hm (w : World) : (Instr.alloc 68 true (.tuple #[])).run Tryz.prog w = .ok (.pointer (some ⟨w.heap.size, 0, none⟩)) (w.alloc (.cells (hmL (fun _ => 0)).toArray 68)) := by kernel_rfl
theorem run_build_hm (w : World) : (Instr.build 68 #[]).run Tryz.prog w = .ok (.agg (hmL (fun _ => 0)).toArray) w := by kernel_rfl
theorem hm_new (w : World) (H : Nat → Int) : HmAt (w.alloc (.cells (hmL H).toArray 68)) w.heap.size H := by
  have h := World.rowIs_alloc w (hmL H).toArray 68 (fun j => .int .i64 (H j)) (fun j hj => by
    have hj' : j < 52 := by simpa [hmL_len] using hj
    rw [List.getElem?_toArray]
    exact hmL_at H j hj')
  have hs : (hmL H).toArray.size = 52 := by simp [hmL_len]
  rw [hs] at h
  exact h
theorem wpList_alloc_hm {ops : Array Oper} {rest : List Oper} {op : Oper} {a : Act} {w : World} {Q : Exit → Act → World → Prop} (hgd : op.guard = none) (ho : op.op = .alloc 68)
    (h : ∀ w', HmAt w' w.heap.size (fun _ => 0) → Below w.heap.size w w' → w'.heap.size = w.heap.size + 1 → wpList Tryz.prog ops Q rest (a.put op.dst (.pointer (some ⟨w.heap.size, 0, none⟩))) w') : wpList Tryz.prog ops Q (op :: rest) a w := by
  refine wpList_plain hgd fun K hK => ?_
  unfold Oper.wp execOp
  simp only [ho, Sem.run_bind, run_alloc_hm, Result.andThen_ok, Sem.run_pure]
  exact hK _ _ (h _ (hm_new _ _) ((Below.refl _ _).alloc (Nat.le_refl _) _) (by simp))
theorem wpList_build_hm {ops : Array Oper} {rest : List Oper} {op : Oper} {a : Act} {w : World} {Q : Exit → Act → World → Prop} (hgd : op.guard = none) (ho : op.op = .build 68 #[])
    (h : wpList Tryz.prog ops Q rest (a.put op.dst (.agg (hmL (fun _ => 0)).toArray)) w) : wpList Tryz.prog ops Q (op :: rest) a w := by
  refine wpList_plain hgd fun K hK => ?_
  unfold Oper.wp execOp
  simp only [ho, Sem.run_bind, List.map_toArray, List.map_nil, run_build_hm, Result.andThen_ok, Sem.run_pure]
  exact hK _ _ h
set_option maxRecDepth 20000 in
theorem HmAt.range {w : World} {b : Nat} {H : Nat → Int} (h : HmAt w b H) : w.rangeAt b 0 (hmL H) := by
  intro j v hj
  have hj' : j < 52 := by have := (List.getElem?_eq_some_iff.1 hj).1; rwa [hmL_len] at this
  rw [hmL_at H j hj'] at hj
  rw [Nat.zero_add, World.rowIs.cell h hj', ← hj]
theorem wpList_load_hm {ops : Array Oper} {rest : List Oper} {op : Oper} {a : Act} {w : World} {Q : Exit → Act → World → Prop} (hgd : op.guard = none) (x : Operand) (ho : op.op = .load 68 x)
    (b : Nat) (H : Nat → Int) (hx : a.eval x = .pointer (some ⟨b, 0, none⟩)) (hH : HmAt w b H)
    (h : wpList Tryz.prog ops Q rest (a.put op.dst (.agg (hmL H).toArray)) w) : wpList Tryz.prog ops Q (op :: rest) a w :=
  wpList_load_mid hgd 68 x ho b 0 hx (hmL H) _ hH.range Tryz.underlying68 rfl (by rw [hmL_len]; exact info_hm) h
set_option maxRecDepth 20000 in
theorem wpList_store_hm {ops : Array Oper} {rest : List Oper} {op : Oper} {a : Act} {w : World} {Q : Exit → Act → World → Prop} (hgd : op.guard = none) (x y : Operand) (ho : op.op = .store 68 x y)
    (b : Nat) (H K : Nat → Int) (hx : a.eval x = .pointer (some ⟨b, 0, none⟩)) (hy : a.eval y = .agg (hmL H).toArray) (hK : HmAt w b K)
    (h : ∀ w', HmAt w' b H → Only b w w' → wpList Tryz.prog ops Q rest (a.put op.dst undef) w') : wpList Tryz.prog ops Q (op :: rest) a w := by
  have hs : (hmL H).toArray.size = 52 := by simp [hmL_len]
  refine wpList_store_mid hgd 68 x y ho b 0 (hmL H).toArray hx hy (by rw [hs]; exact row_there hK 0 52 (by omega)) (by rw [hs]; exact info_hm) (all_oneCell_toArray (hmL_one H)) (h _ ?_ ?_)
  · have := row_setCells hK (hmL H) 0 (by rw [hmL_len]; omega)
    refine World.rowIs.congr this fun j hj => ?_
    rw [if_pos (by rw [hmL_len]; omega), Nat.sub_zero, List.getD_eq_getElem?_getD, hmL_at H j hj]
    rfl
  · exact only_setCells w b 0 (hmL H)
theorem run_loadVar_hm {w : World} {b : Nat} {H : Nat → Int} (h : HmAt w b H) : (loadVar 68 ⟨b, 0, none⟩).run Tryz.prog w = .ok (.agg (hmL H).toArray) w :=
  run_loadVar_mid w b 0 68 (hmL H) _ h.range Tryz.underlying68 rfl (by rw [hmL_len]; exact info_hm)

theorem argR_N (n : Nat) : argR n = (Sp.argN n : Int) := by
  unfold argR Sp.argN
  repeat' split
  all_goals rfl
theorem ArgsAt.n {w : World} (h : ArgsAt w) {n : Nat} (hn : n < 4) : w.cell? ⟨0, n, none⟩ = some (.int .i64 (Sp.argN n : Nat)) := by
  have h4 : n = 0 ∨ n = 1 ∨ n = 2 ∨ n = 3 := by omega
  rcases h4 with rfl | rfl | rfl | rfl
  · exact h.c0
  · exact h.c1
  · exact h.c2
  · exact h.c3

set_option maxRecDepth 20000 in
set_option maxHeartbeats 2000000 in
theorem seatArgs_any (b p nb B : Nat) (H : Nat → Int) (C : List Sp.Ins) (L : List (Nat × Nat)) (w : World) (h : HmAt w b H) (hb0 : b ≠ 0) (hP : ProgAt w B p C L) (hA : ArgsAt w) (hnb : L.length = nb) (hC1 : 1 ≤ C.length) (hC : C.length ≤ 1000) (hnb10 : nb ≤ 10) (hnb1 : 1 ≤ nb) (hr : ∀ i, i ∈ C → i.d < 52 ∧ i.x < 52 ∧ i.y < 52) :
    Calls Tryz.prog 43 #[.pointer (some ⟨b, 0, none⟩), .pointer (some ⟨p, 0, none⟩)] w fun e w' => e = .returned (.tuple #[]) ∧ HmAt w' b (Sp.seatH (Sp.rounds C L nb 0) H 4) ∧ But w.heap.size b w w' := by
  obtain ⟨S, hS⟩ : ∃ S, Sp.rounds C L nb 0 = S := ⟨_, rfl⟩
  have HSE := hid hS
  rw [hS]
  have HA := hid hA
  have HH := hid h
  have hbl := h.lt
  have hb0' : 0 < w.heap.size := hA.lt
  clear hA hS h
  have HSA := hid (atBeg_any p nb B C L w hP hnb hC1 hC hnb10 hnb1 hr)
  rw [HSE.out] at HSA
  clear hP hnb hC hr
  generalize hN : w.heap.size = N at *
  go_enter Tryz.func43, Tryz.ntmps43
  go_upto_region 2 with (first | (go_at_call 36; refine HSA.out.mono ?_; rintro e w1 ⟨rfl, hb1⟩; have HB1 := hid hb1; clear hb1) | (refine wpList_alloc_set rfl rfl ?_; intro w2 hs2 hb2 hz2; have HS2 := hid hs2; have HB2 := hid hb2; have HZ2 := hid hz2; clear hs2 hb2 hz2) | (refine wpList_store_set rfl (.tmp 4) (.tmp 9) rfl w1.heap.size 0 S _ (by rfl) (by rfl) HS2.out ?_; intro w3 hs3 hs3' ho3; have HS3 := hid hs3; have HO3 := hid ho3; clear hs3 hs3' ho3))
  obtain ⟨m1, hm1⟩ : ∃ m1, w1.heap.size = m1 := ⟨_, rfl⟩
  have hm0 : N ≤ m1 := by rw [← hm1]; exact Nat.le_trans (Nat.le_of_eq hN.symm) HB1.out.size
  rw [hm1] at HS3 HO3 HB2
  rw [hm1]
  have HBW := hid ((HB1.out.trans (HB2.out.mono hm0)).trans (HO3.out.below (B := N) hm0))
  clear hm1 HB1 HS2 HB2 HZ2 HO3 HSA
  go_wp2_with fail
  go_loopw [5] (fun nv wr => ∃ n : Nat, n ≤ 4 ∧ nv = .int .i64 n ∧ HmAt wr b (Sp.seatH S H n) ∧ SetAt wr m1 0 S ∧ But N b w wr) (fun nv _ => 4 - (intOf nv).toNat)
  case atStart => exact ⟨0, by omega, rfl, HH.out.of_block (HBW.out.block b hbl), HS3.out, But.of_below HBW.out⟩
  case round =>
    obtain ⟨n, hn, rfl, hh, hs, hbut⟩ := hrel
    have HM := hid hh
    have HS := hid hs
    have HB := hid hbut
    by_cases hlt : n < 4
    · have hcn := (HA.out.of_block (hbut.block 0 hb0' (Ne.symm hb0))).n hlt
      have hr52 := Sp.argN_lt n
      have HPL := hid (place_any' b (Sp.seatH S H n) (Sp.argN n : Nat) wr hh.c)
      rw [Sp.HX_at _ (by omega) (by omega), Int.toNat_natCast] at HPL
      have HHS := hid (has_any m1 0 S (Sp.argN n) wr hs hr52)
      have HEX := hid (exchange_any b (Sp.seatH S H n) (Sp.seatH S H n (Sp.argN n)) (n : Nat) wr hh)
      cases hl : S (Sp.argN n)
      · have HE := hid (show Sp.seatH S H (n + 1) = Sp.seatH S H n by simp only [Sp.seatH]; rw [if_neg (by rw [hl]; simp)])
        rw [hl] at HHS
        clear hh hs hbut hl HEX
        generalize Sp.seatH S H n (Sp.argN n) = P1 at *
        generalize Sp.argN n = r1 at *
        go_wp2_with (first | (go_at_call 44; refine HPL.out.mono ?_; rintro e w' ⟨rfl, rfl⟩) | (go_at_call 45; refine HHS.out.mono ?_; rintro e w' ⟨rfl, rfl⟩))
        go_roundw
        case rel => exact ⟨n + 1, by omega, by go_num, by rw [HE.out]; exact HM.out, HS.out, HB.out⟩
        case measure => simp [intOf]; omega
      · rw [hl] at HHS
        by_cases h10 : 10 ≤ Sp.seatH S H n (Sp.argN n)
        · have t1 : decide (10 ≤ Sp.seatH S H n (Sp.argN n)) = true := by simp [h10]
          have HE := hid (show Sp.seatH S H (n + 1) = Sp.seatH S H n by simp only [Sp.seatH]; rw [if_neg (by omega)])
          clear hh hs hbut hl HEX h10
          generalize Sp.seatH S H n (Sp.argN n) = P1 at *
          generalize Sp.argN n = r1 at *
          go_wp2_with (first | (go_at_call 44; refine HPL.out.mono ?_; rintro e w' ⟨rfl, rfl⟩) | (go_at_call 45; refine HHS.out.mono ?_; rintro e w' ⟨rfl, rfl⟩) | (go_at_call 67; refine (isSlot_any P1 _).mono ?_; rw [t1]; rintro e w' ⟨rfl, rfl⟩))
          go_roundw
          case rel => exact ⟨n + 1, by omega, by go_num, by rw [HE.out]; exact HM.out, HS.out, HB.out⟩
          case measure => simp [intOf]; omega
        · have t1 : decide (10 ≤ Sp.seatH S H n (Sp.argN n)) = false := by simp; omega
          have HE := hid (show Sp.seatH S H (n + 1) = Sp.excH (Sp.seatH S H n) (Sp.seatH S H n (Sp.argN n)) n by simp only [Sp.seatH]; rw [if_pos ⟨hl, by omega⟩])
          clear hh hs hbut hl h10
          generalize Sp.seatH S H n (Sp.argN n) = P1 at *
          generalize Sp.argN n = r1 at *
          go_wp2_with (first | (go_at_call 44; refine HPL.out.mono ?_; rintro e w' ⟨rfl, rfl⟩) | (go_at_call 45; refine HHS.out.mono ?_; rintro e w' ⟨rfl, rfl⟩) | (go_at_call 67; refine (isSlot_any P1 _).mono ?_; rw [t1]; rintro e w' ⟨rfl, rfl⟩) | (go_at_call 68; refine HEX.out.mono ?_; rintro e w7 ⟨rfl, hm7, ho7⟩; have HM7 := hid hm7; have HO7 := hid ho7; clear hm7 ho7))
          go_roundw
          case rel => exact ⟨n + 1, by omega, by go_num, by rw [HE.out]; exact HM7.out, HS.out.of_block (HO7.out.block m1 (by omega)), HB.out.trans HO7.out.but⟩
          case measure => simp [intOf]; omega
    · have HN := hid (show n = 4 by omega)
      clear hh hs hbut
      go_wp2_with fail
      go_end0
      refine ⟨rfl, ?_, HB.out⟩
      have := HM.out
      rw [HN.out] at this
      exact this

/-- what home.Of answers -/
def OfPost (C : List Sp.Ins) (L : List (Nat × Nat)) (nb c : Nat) (w : World) (e : Ending) (w' : World) : Prop :=
  ∃ (K : Nat → Bool) (tk : List Nat), Sp.PeelT (fun r => Sp.ofZ (Sp.ofTo C (Sp.rounds C L nb) C.length C.length) (Sp.rounds C L nb 0) 52 r) (fun r x => Sp.ofZ (Sp.ofTo C (Sp.rounds C L nb) C.length C.length) (Sp.rounds C L nb 0) 52 (52 + r * 52 + x)) c tk K ∧
    Sp.IsCore (fun r => Sp.ofZ (Sp.ofTo C (Sp.rounds C L nb) C.length C.length) (Sp.rounds C L nb 0) 52 r) (fun r x => Sp.ofZ (Sp.ofTo C (Sp.rounds C L nb) C.length C.length) (Sp.rounds C L nb 0) 52 (52 + r * 52 + x)) c K ∧
    e = .returned (.agg (hmL (Sp.seatH (Sp.rounds C L nb 0) ((Sp.coreL K ++ tk.reverse).foldl (Sp.oneH (fun r x => Sp.ofZ (Sp.ofTo C (Sp.rounds C L nb) C.length C.length) (Sp.rounds C L nb 0) 52 (52 + r * 52 + x)) c) (fun _ => -1)) 4)).toArray) ∧ Below w.heap.size w w'
theorem range_own {w : World} {B e n : Nat} {a : Option Addr} {k : Nat} {l : List Nat} (h : w.ownsRow B e 1 (.slice a n k) n (tkV l)) (hn : n = l.length) (j : Nat) (hj : j < l.length) : ∃ g, a = some ⟨g, 0, none⟩ ∧ w.cell? ⟨g, j, none⟩ = some (.int .i64 (l[j] : Nat)) := by
  obtain ⟨g, cap, hg⟩ := Joins.ownsRow_form h (by omega)
  injection hg with h1 h2 h3
  subst h1
  have hcell := h.cells (g := g) rfl j (.int .i64 (l[j] : Nat)) (by
    unfold tkV
    rw [List.getElem?_map, List.getElem?_eq_getElem hj]
    rfl)
  have e : (⟨g, 0, none⟩ : Addr).add j = ⟨g, j, none⟩ := by simp only [Addr.add, Nat.zero_add]; split <;> simp_all
  rw [e] at hcell
  exact ⟨g, rfl, hcell⟩
theorem foldl_take {α β : Type} (f : α → β → α) (l : List β) (z : α) (j : Nat) (h : j < l.length) : (l.take (j + 1)).foldl f z = f ((l.take j).foldl f z) l[j] := by
  rw [List.take_succ_eq_append_getElem h, List.foldl_append]
  rfl
theorem order_lt {S : Nat → Bool} {M : Nat → Nat → Bool} {c : Int} {tk : List Nat} {K : Nat → Bool} (hp : Sp.PeelT S M c tk K) : ∀ r ∈ Sp.coreL K ++ tk.reverse, r < 52 := by
  intro r hr
  rw [List.mem_append] at hr
  rcases hr with hr | hr
  · unfold Sp.coreL at hr
    rw [List.mem_filter, List.mem_range] at hr
    exact hr.1
  · rw [List.mem_reverse] at hr
    induction hp with
    | start => cases hr
    | @away tk L hp r' hr' hL hc ih =>
      rw [List.mem_append, List.mem_singleton] at hr
      rcases hr with hr | hr
      · exact ih hr
      · rw [hr]; exact hr'

theorem order_len {S : Nat → Bool} {M : Nat → Nat → Bool} {c : Int} {tk : List Nat} {K : Nat → Bool} (hp : Sp.PeelT S M c tk K) : (Sp.coreL K ++ tk.reverse).length ≤ 200 := by
  have h1 := hp.len
  have h2 : (Sp.coreL K).length ≤ 52 := coreTo_len K 52
  rw [List.length_append, List.length_reverse]
  omega

set_option maxRecDepth 20000 in
set_option maxHeartbeats 4000000 in
theorem homeOf_any (p nb B c : Nat) (C : List Sp.Ins) (L : List (Nat × Nat)) (k : Int) (w : World) (hk2 : k - 2 = (c : Int)) (hc : c ≤ 10) (hP : ProgAt w B p C L) (hA : ArgsAt w) (hnb : L.length = nb) (hC1 : 1 ≤ C.length) (hC : C.length ≤ 1000) (hnb10 : nb ≤ 10) (hnb1 : 1 ≤ nb) (hr : ∀ i, i ∈ C → i.d < 52 ∧ i.x < 52 ∧ i.y < 52) :
    Calls Tryz.prog 29 #[.pointer (some ⟨p, 0, none⟩), .int .i64 k] w fun e w' => OfPost C L nb c w e w' := by
  have HP := hid hP
  have HA := hid hA
  have hN0 : 0 < w.heap.size := hA.lt
  have HMO := hid (fun (W : World) (hW : ProgAt W B p C L) => of_any p nb B C L W hW hnb hC1 hC hnb10 hnb1 hr)
  have HSG := hid (fun (b : Nat) (H : Nat → Int) (W : World) (h : HmAt W b H) (hb0 : b ≠ 0) (hW : ProgAt W B p C L) (hAW : ArgsAt W) => seatArgs_any b p nb B H C L W h hb0 hW hAW hnb hC1 hC hnb10 hnb1 hr)
  unfold OfPost
  clear hP hA hnb hC hr
  generalize Sp.ofZ (Sp.ofTo C (Sp.rounds C L nb) C.length C.length) (Sp.rounds C L nb 0) 52 = G at *
  generalize Sp.rounds C L nb 0 = S at *
  generalize hN : w.heap.size = N at *
  go_enter Tryz.func29, Tryz.ntmps29
  go_upto_region 2 with (first | (refine wpList_build_hm rfl rfl ?_) | (refine wpList_alloc_hm rfl rfl ?_; intro wa hsa hba hza; rw [hN] at hsa hba hza; have HSA := hid hsa; have HBA := hid hba; have HZA := hid hza; clear hsa hba hza) | (refine wpList_alloc_hm rfl rfl ?_; intro wb hsb hbb hzb; rw [HZA.out] at hsb hbb hzb; have HSB := hid hsb; have HBB := hid hbb; have HZB := hid hzb; clear hsb hbb hzb) | (refine wpList_store_hm rfl (.tmp 5) (.tmp 11) rfl (N + 1) _ _ (by first | rfl | (rw [HZA.out]; rfl)) (by rfl) HSB.out ?_; intro w3 hs3 ho3; have HS3 := hid hs3; have HO3 := hid ho3; clear hs3 ho3))
  have hz3 : w3.heap.size = N + 2 := by rw [HO3.out.size, HZB.out]
  have HBW := hid ((HBA.out.trans (HBB.out.mono (by omega))).trans (HO3.out.below (B := N) (by omega)))
  have HRN := hid (HSA.out.of_block (w' := w3) (by rw [HO3.out.block N (by omega), HBB.out.block N (by omega)]))
  try rw [HZA.out]
  clear HSA HBA HZA HSB HBB HZB HO3
  go_wp2_with fail
  go_loopw [6] (fun rv wr => ∃ m : Nat, m ≤ 52 ∧ rv = .int .i64 (m : Nat) ∧ HmAt wr (N + 1) (fun x => if x < m then -1 else 0) ∧ HmAt wr N (fun _ => 0) ∧ wr.heap.size = N + 2 ∧ Below N w wr) (fun rv _ => 52 - (intOf rv).toNat)
  case atStart => exact ⟨0, by omega, rfl, HS3.out, HRN.out, hz3, HBW.out⟩
  case round =>
    clear HS3 HRN HBW hz3
    obtain ⟨m, hm, rfl, hs, hn, hz, hb⟩ := hrel
    have HS := hid hs
    have HRN := hid hn
    have HB := hid hb
    by_cases hlt : m < 52
    · have c0 := hs.c m hlt
      rw [if_neg (by omega)] at c0
      have z0 := World.rowIs.frozen hs m
      have HPUT := hid (show HmAt (wr.setCell ⟨N + 1, m, none⟩ (.int .i64 (-1))) (N + 1) (fun x => if x < m + 1 then -1 else 0) from (hs.put m (-1)).congr (fun x _ => by
        by_cases e : x = m
        · rw [if_pos e, if_pos (by omega)]
        · rw [if_neg e]
          by_cases c : x < m
          · rw [if_pos c, if_pos (by omega)]
          · rw [if_neg c, if_neg (by omega)]))
      have HO := hid (Only.set (N + 1) m wr (.int .i64 (-1)))
      clear hs hn hb
      go_wp2_with fail
      go_roundw
      case rel => exact ⟨m + 1, by omega, by go_num, HPUT.out, HRN.out.of_block (HO.out.block N (by omega)), by rw [HO.out.size]; exact hz, HB.out.trans (HO.out.below (by omega))⟩
      case measure => simp [intOf]; omega
    · have HS0 := hid (show HmAt wr (N + 1) (fun _ => -1) from hs.congr (fun x hx => by rw [if_pos (by omega)]))
      have HPW := hid (HP.out.move (by rw [hN]; exact hb))
      clear hs hn hb HS
      go_upto_region 7 with (first | (go_at_call 39; refine (HMO.out wr HPW.out).mono ?_; rintro e w4 ⟨rfl, hb4⟩; have HB4 := hid hb4; clear hb4) | (refine wpList_alloc_gr rfl rfl ?_; intro w5 hg5 hb5 hz5; have HG5 := hid hg5; have HB5 := hid hb5; have HZ5 := hid hz5; clear hg5 hb5 hz5) | (refine wpList_store_gr rfl (.tmp 7) (.tmp 20) rfl w4.heap.size G _ (by rfl) (by rfl) HG5.out ?_; intro w6 hg6 ho6; have HG6 := hid hg6; have HO6 := hid ho6; clear hg6 ho6))
      have hs4 := HB4.out.size
      rw [hz] at hs4
      have hB4' : Below (N + 2) wr w4 := by rw [← hz]; exact HB4.out
      have h46 : Below w4.heap.size w4 w6 := HB5.out.trans (HO6.out.below (Nat.le_refl _))
      have HB46 := hid h46
      have HBWR := hid (show Below (N + 2) wr w6 from hB4'.trans (h46.mono hs4))
      have HB6 := hid (HB.out.trans (HBWR.out.mono (by omega)))
      have HS6 := hid (HS0.out.of_block (w' := w6) (HBWR.out.block (N + 1) (by omega)))
      have HRN6 := hid (HRN.out.of_block (w' := w6) (HBWR.out.block N (by omega)))
      have hz6 : w4.heap.size < w6.heap.size := by rw [HO6.out.size, HZ5.out]; omega
      obtain ⟨gb, hgb⟩ : ∃ gb, w4.heap.size = gb := ⟨_, rfl⟩
      rw [hgb] at HG6 hs4 hz6
      try rw [hgb]
      have HOR := hid (order_any gb G (c : Int) w6 HG6.out)
      clear HB4 hB4' h46 HB46 HBWR HS0 HRN HB HB5 HZ5 HG5 HO6 hgb HPW
      go_upto_region 8 with (go_at_call 40; refine HOR.out.mono ?_; rintro e w7 ⟨K, tk, v7, rfl, hpt, hco, hown, hb7⟩; have HLT := hid (order_lt hpt); have hll := order_len hpt; obtain ⟨l, hl⟩ : ∃ l, Sp.coreL K ++ tk.reverse = l := ⟨_, rfl⟩; have HL := hid hl; rw [hl] at HLT hown hll; clear hl; obtain ⟨a7, k7, hv7⟩ := own_slice hown; subst hv7; have HPT := hid hpt; have HCO := hid hco; have HOW := hid hown; have HB7 := hid hb7; clear hpt hco hown hb7)
      have HQ := hid (And.intro HPT.out HCO.out)
      have hs7 := HB7.out.size
      have HS7 := hid (HS6.out.of_block (w' := w7) (HB7.out.block (N + 1) (by omega)))
      have HRN7 := hid (HRN6.out.of_block (w' := w7) (HB7.out.block N (by omega)))
      have HG7 := hid (HG6.out.of_block (w' := w7) (HB7.out.block gb hz6))
      have HBN7 := hid (HB6.out.trans (HB7.out.mono (by omega)))
      obtain ⟨N6, hN6⟩ : ∃ N6, w6.heap.size = N6 := ⟨_, rfl⟩
      rw [hN6] at HOW hz6 hs7
      clear HB7 HS6 HRN6 HG6 HB6 HOR HPT HCO hN6
      go_loopw [25] (fun iv wr => ∃ j : Nat, j ≤ l.length ∧ iv = .int .i64 (j : Nat) ∧ HmAt wr (N + 1) ((l.take j).foldl (Sp.oneH (fun r x => G (52 + r * 52 + x)) c) (fun _ => -1)) ∧ HmAt wr N (fun _ => 0) ∧ GrAt wr gb G ∧ wr.ownsRow N6 3 1 (.slice a7 l.length k7) l.length (tkV l) ∧ Below N w wr) (fun iv _ => l.length - (intOf iv).toNat)
      case atStart => exact ⟨0, by omega, rfl, HS7.out, HRN7.out, HG7.out, HOW.out, HBN7.out⟩
      case round =>
        clear HS7 HRN7 HG7 HOW HBN7
        obtain ⟨j, hj, rfl, hs, hn, hg, ho, hb⟩ := hrel
        have HS := hid hs
        have HRN := hid hn
        have HG := hid hg
        have HO := hid ho
        have HB := hid hb
        by_cases hlt : j < l.length
        · have tlt : decide ((j : Int) < (l.length : Int)) = true := by simp; omega
          have tlt' : (j : Int) < (l.length : Int) := by omega
          obtain ⟨g, hga, hcell⟩ := range_own ho rfl j hlt
          subst hga
          have hr52 := HLT.out l[j] (List.getElem_mem hlt)
          have HE := hid (foldl_take (Sp.oneH (fun r x => G (52 + r * 52 + x)) c) l (fun _ => -1) j hlt)
          generalize (l.take j).foldl (Sp.oneH (fun r x => G (52 + r * 52 + x)) c) (fun _ => -1) = Hj at *
          obtain ⟨r, hr⟩ : ∃ r, l[j] = r := ⟨_, rfl⟩
          rw [hr] at hcell hr52 HE
          have HCH := hid (choose_any' (N + 1) gb Hj G r c wr hs.c hg hr52 hc)
          have HST := hid (settle_any (N + 1) Hj r (Sp.chsH (fun a b => G (52 + a * 52 + b)) Hj r c 0) wr hs hr52)
          have HE2 := hid (show Sp.oneH (fun r x => G (52 + r * 52 + x)) c Hj r = Sp.stlH Hj r (Sp.chsH (fun a b => G (52 + a * 52 + b)) Hj r c 0) from rfl)
          clear hs hn hg ho hb hr
          generalize Sp.chsH (fun a b => G (52 + a * 52 + b)) Hj r c 0 = P1 at *
          go_wp2_with (first | (go_at_call 41; refine HCH.out.mono ?_; rintro e w' ⟨rfl, rfl⟩) | (go_at_call 42; refine HST.out.mono ?_; rintro e w8 ⟨rfl, hs8, ho8⟩; have HS8 := hid hs8; have HO8 := hid ho8; clear hs8 ho8))
          go_roundw
          case rel => exact ⟨j + 1, by omega, by go_num, by rw [HE.out, HE2.out]; exact HS8.out, HRN.out.of_block (HO8.out.block N (by omega)), HG.out.of_block (HO8.out.block gb (by omega)), own_move HO.out (fun q hq => HO8.out.block q (by have := (HO.out.lt q hq).1; omega)), HB.out.trans (HO8.out.below (by omega))⟩
          case measure => simp [intOf]; omega
        · have tlt : decide ((j : Int) < (l.length : Int)) = false := by simp; omega
          have tlt' : ¬ (j : Int) < (l.length : Int) := by omega
          have hjl : j = l.length := by omega
          have HSF := hid (show HmAt wr (N + 1) (l.foldl (Sp.oneH (fun r x => G (52 + r * 52 + x)) c) (fun _ => -1)) by rw [hjl, List.take_length] at hs; exact hs)
          have hNw : N + 1 < wr.heap.size := hs.lt
          have HSE := hid (HSG.out (N + 1) _ wr HSF.out (by omega) (HP.out.move (by rw [hN]; exact hb)) (HA.out.move (by rw [hN]; exact hb)))
          obtain ⟨Hf, hHf⟩ : ∃ Hf, l.foldl (Sp.oneH (fun r x => G (52 + r * 52 + x)) c) (fun _ => -1) = Hf := ⟨_, rfl⟩
          have HHF := hid hHf
          rw [hHf] at HSF HSE
          clear hHf
          clear hs hn hg ho hb HS
          go_wp2_with (first | (go_at_call 43; refine HSE.out.mono ?_; rintro e w9 ⟨rfl, hs9, hb9⟩; have HS9 := hid hs9; have HB9 := hid hb9; have HRN9 := hid (HRN.out.of_block (w' := w9) (hb9.block N (by omega) (by omega))); clear hs9 hb9) | (refine wpList_load_hm rfl (.tmp 5) rfl (N + 1) _ (by rfl) HS9.out ?_) | (refine wpList_store_hm rfl (.tmp 4) (.tmp 39) rfl N _ _ (by rfl) (by rfl) HRN9.out ?_; intro w10 hs10 ho10; have HS10 := hid hs10; have HO10 := hid ho10; clear hs10 ho10))
          have hld := run_loadVar_hm HS10.out
          refine bodyPost_ret (v := .agg (hmL (Sp.seatH S Hf 4)).toArray) (results_cell_one (q := 4) (a := ⟨N, 0, none⟩) rfl _ _ (by rfl) hld) (by rfl) ⟨K, tk, HQ.out.1, HQ.out.2, ?_, ?_⟩
          · rw [HL.out, HHF.out]
          · exact (HB.out.trans (HB9.out.below (by omega) (by omega))).trans (HO10.out.below (Nat.le_refl _))
end Go.Proofs.YtccndnckceagfabGreatDoorR
