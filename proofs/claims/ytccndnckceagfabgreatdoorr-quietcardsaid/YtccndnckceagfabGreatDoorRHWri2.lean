/-
  The text of a machine program: the program's WriteMachine, walked.
-/
import Derived.Test.YtccndnckceagfabGreatDoorRHWri1
namespace Go.Proofs.YtccndnckceagfabGreatDoorR
open Go.RowKit

theorem ret_u8 {a b : Int} (h : a = b) : Ending.returned (.int .u8 a) = .returned (.int .u8 b) := by rw [h]

set_option maxRecDepth 20000 in
set_option maxHeartbeats 2000000 in
theorem give_any (o d x y n k m : Int) (p : Int) (w : World) (hd : d ≤ 1000) (hx : x ≤ 1000) (hy : y ≤ 1000) (hn : 0 ≤ n ∧ n ≤ 99) :
    Calls Tryz.prog 51 #[.agg #[.int .u8 o, .int .i64 d, .int .i64 x, .int .i64 y, .int .i64 n, .int .i64 k, .int .i64 m], .int .u8 p] w fun e w' => e = .returned (.int .u8 (Sp.giv ⟨o, d, x, y, n, k, m⟩ p)) ∧ Below w.heap.size w w' := by
  have e1 : n.tdiv 10 = n / 10 := by rw [Int.tdiv_eq_ediv_of_nonneg hn.1]
  have e2 : n.tmod 10 = n % 10 := by rw [Int.tmod_eq_emod_of_nonneg hn.1]
  have HPB := hid (fun (q : Int) (hq : q ≤ 1000) (W : World) => placeByte_any q W hq)
  have HDB := hid (fun (q : Int) (W : World) => digitByte_any q W)
  go_enter Tryz.func51, Tryz.ntmps51
  go_wp2_with (first | (go_at_call 74; refine (HPB.out _ (by assumption) _).mono ?_; rintro e w' ⟨rfl, rfl⟩) | (go_at_call 75; refine (HDB.out _ _).mono ?_; rintro e w' ⟨rfl, rfl⟩))
  all_goals
    go_ret
    refine ⟨ret_u8 ?_, (Below.refl _ _).alloc (Nat.le_refl _) _⟩
    simp_all [Sp.giv]

set_option maxHeartbeats 400000 in
theorem mshape_any (o : Int) (w : World) :
    Calls Tryz.prog 50 #[.agg #[.bool true, .int .i64 0], .int .u8 o] w fun e w' => e = .returned (.string (Sp.shpK 1 o)) ∧ Below w.heap.size w w' := by
  go_enter Tryz.func50, Tryz.ntmps50
  go_wp2_with (go_at_call 73; refine (commonShape_any _ _).mono ?_; rintro e w' ⟨rfl, rfl⟩)
  all_goals
    go_ret
    refine ⟨ret_str ?_, (Below.refl _ _).alloc (Nat.le_refl _) _⟩
    simp_all [Sp.shpK]
theorem own_row {w : World} {B e size n b t m : Nat} {v : Value} {xs : List Value} {f : Nat → Value} (h : w.ownsRow B e size v n xs) (hr : w.rowIs b t m f) (he : e ≠ t) : v.ownBlock ≠ some b := by
  intro hk
  obtain ⟨c1, e1⟩ := own_block h hk
  obtain ⟨c2, e2, _⟩ := hr
  rw [e1] at e2
  simp only [Option.some.injEq, Obj.cells.injEq] at e2
  exact he e2.2.1
theorem str_ix (l : ByteArray) (j : Nat) (h : j < l.size) (W : World) : (Instr.index 9 (.string l) (.int .i64 (j : Int))).run Tryz.prog W = .ok (.int .u8 (Sp.B l j)) W := by
  rw [run_index_string W 9 l .i64 _ Tryz.underlying9, dif_pos (by omega)]
  exact congrArg (fun z => Result.ok (Value.int .u8 z) W) (Sp.B_get l j h)
/-- the first q + 1 bytes of an instruction -/
def wrIt (i : Sp.Ins) : Nat → ByteArray
  | 0 => ⟨#[UInt8.ofNat i.o.toNat]⟩
  | q + 1 => wrIt i q ++ ⟨#[UInt8.ofNat (Sp.giv i (Sp.B (Sp.shpK 1 i.o) q)).toNat]⟩
theorem wrIt_size (i : Sp.Ins) : ∀ q, (wrIt i q).size = q + 1
  | 0 => rfl
  | q + 1 => by
    show (wrIt i q ++ _).size = _
    rw [ByteArray.size_append, wrIt_size i q]
    rfl
theorem wrIt_three (i : Sp.Ins) : wrIt i 3 = Sp.wrI i := by
  apply ByteArray.ext
  simp [wrIt, Sp.wrI, ByteArray.data_append]
theorem wrD_take (D : List Sp.Ins) (j : Nat) (h : j < D.length) : Sp.wrD (D.take (j + 1)) = Sp.wrD (D.take j) ++ Sp.wrI D[j] := by
  rw [List.take_succ_eq_append_getElem h, Sp.wrD_app, Sp.wrD_one]
theorem row_gr2 (w : World) : (w.alloc (.cells #[.bool true, .int .i64 0] 78)).rowIs w.heap.size 78 2 (fun j => if j = 0 then .bool true else .int .i64 0) :=
  World.rowIs_alloc w #[.bool true, .int .i64 0] 78 _ (fun j hj => by
    have hj' : j = 0 ∨ j = 1 := by simp at hj; omega
    rcases hj' with rfl | rfl <;> rfl)

set_option maxRecDepth 20000 in
set_option maxHeartbeats 4000000 in
theorem writeMachine_any (B : Nat) (D : List Sp.Ins) (v : Value) (w : World) (ho : w.ownsRow B 74 7 v D.length (insV D)) (hD0 : 0 < D.length) (hD : D.length ≤ 1100) (hW : ∀ i ∈ D, Sp.WOk i ∧ i.d ≤ 1000 ∧ i.x ≤ 1000 ∧ i.y ≤ 1000) :
    Calls Tryz.prog 32 #[v] w fun e w' => e = .returned (.string (Sp.wrD D)) ∧ Below w.heap.size w w' := by
  obtain ⟨g, cap, hv⟩ := Joins.ownsRow_form ho (by omega)
  subst hv
  have HD := hid ho
  have HW := hid hW
  obtain ⟨i8, i1, i2, i3, i4⟩ := info_u8
  have HI := hid (And.intro i1 (And.intro i2 (And.intro i3 i4)))
  clear ho hW i1 i2 i3 i4
  have HT0 := hid (own_empty (w.alloc (.cells #[.bool true, .int .i64 0] 78)))
  have HG0 := hid ((row_gr2 w).alloc (.cells #[] 5))
  have HB0 := hid (show Below w.heap.size w ((w.alloc (.cells #[.bool true, .int .i64 0] 78)).alloc (.cells #[] 5)) from ((Below.refl _ _).alloc (Nat.le_refl _) _).alloc (by simp) _)
  have hsz : (w.alloc (.cells #[.bool true, .int .i64 0] 78)).heap.size = w.heap.size + 1 := by simp
  rw [hsz] at HT0
  generalize hN : w.heap.size = N at *
  go_enter Tryz.func32, Tryz.ntmps32
  go_wp2_with fail
  try rw [hN]
  generalize (w.alloc (.cells #[.bool true, .int .i64 0] 78)).alloc (.cells #[] 5) = w2 at *
  go_loopw [4, 13] (fun tv iv wr => ∃ j : Nat, j ≤ D.length ∧ iv = .int .i64 (j : Nat) ∧ wr.ownsRow (N + 1) 5 1 tv (Sp.wrD (D.take j)).size (Lib.strCells (Sp.wrD (D.take j))) ∧ wr.rowIs N 78 2 (fun j => if j = 0 then .bool true else .int .i64 0) ∧ N + 1 ≤ wr.heap.size ∧ Below N w wr) (fun _ iv _ => D.length - (intOf iv).toNat)
  case atStart => exact ⟨0, by omega, rfl, HT0.out, HG0.out, by have := HG0.out.lt; omega, HB0.out⟩
  case round =>
    clear HT0 HG0 HB0
    obtain ⟨j, hj, rfl, ht, hg, hzr, hb⟩ := hrel
    have HT := hid ht
    have HG := hid hg
    have HB := hid hb
    by_cases hlt : j < D.length
    · have tlt : decide ((j : Int) < (D.length : Int)) = true := by simp; omega
      have tlt' : (j : Int) < (D.length : Int) := by omega
      obtain ⟨c1, c2, c3, c4, c5, c6, c7⟩ := ins_cells (own_below HD.out (by rw [hN]; exact hb)) j hlt
      obtain ⟨hw1, hw2, hw3, hw4⟩ := HW.out D[j] (List.getElem_mem hlt)
      have HE := hid (wrD_take D j hlt)
      have hts : (Sp.wrD (D.take j)).size ≤ 4400 := by rw [Sp.wrD_size, List.length_take]; omega
      clear ht hg hb
      generalize Sp.wrD (D.take j) = T at *
      generalize D[j] = I at *
      have HWK := hid hw1
      have hP3 := hw1.sh
      have HOC := hid (one_cell I.o hw1.o.1 hw1.o.2)
      have hn0 := hw1.n
      clear hw1
      generalize hPP : Sp.shpK 1 I.o = P at *
      have HSH := hid (fun (W : World) => mshape_any I.o W)
      rw [hPP] at HSH
      have HPP := hid hPP
      clear hPP
      have HB2 := hid (show Below wr.heap.size wr ((wr.alloc (.cells #[.int .u8 I.o, .int .i64 I.d, .int .i64 I.x, .int .i64 I.y, .int .i64 I.n, .int .i64 I.k, .int .i64 I.m] 74)).alloc (.cells #[.int .u8 I.o] 5)) from ((Below.refl _ _).alloc (Nat.le_refl _) _).alloc (by simp) _)
      have HR2 := hid ((row_new wr I.o I.d I.x I.y I.n I.k I.m 74).alloc (.cells #[.int .u8 I.o] 5))
      have hz1 : (wr.alloc (.cells #[.int .u8 I.o, .int .i64 I.d, .int .i64 I.x, .int .i64 I.y, .int .i64 I.n, .int .i64 I.k, .int .i64 I.m] 74)).heap.size = wr.heap.size + 1 := by simp
      have HAT := hid (alloc_at (wr.alloc (.cells #[.int .u8 I.o, .int .i64 I.d, .int .i64 I.x, .int .i64 I.y, .int .i64 I.n, .int .i64 I.k, .int .i64 I.m] 74)) #[.int .u8 I.o] 5)
      rw [hz1] at HAT
      go_upto_region 9 with (first | (at_builtin; refine wpList_append_own _ rfl (.tmp 17) (.tmp 20) 60 rfl (N + 1) 5 i8 (.int .u8 0) 1 1 Tryz.underlying60 HI.out.1 HI.out.2.1 HI.out.2.2.1 HI.out.2.2.2 rfl (by decide) u4 T.size (Lib.strCells T) (by simp [Act.eval]) (by exact own_below HT.out HB2.out) ⟨wr.heap.size + 1, 0, none⟩ 1 1 [.int .u8 I.o] (by simp [Act.eval]) rfl (by exact HAT.out) (by intro u hu; rw [List.mem_singleton.1 hu]; rfl) (by unfold maxLen; omega) (by omega) (by simp; omega) ?_; intro v3 w3 hown hgrow _; have HO3 := hid hown; have HG3 := hid hgrow; have hq := (HG.out.of_block (w' := w3) ((grown_old HT.out hgrow (Or.inl (by omega)) (by simp; omega)).trans (HB2.out.block N (by omega)))); have q0 := hq.cell (i := 0) (by omega); have q1 := hq.cell (i := 1) (by omega); have HQ := hid hq; have hq2 := (HR2.out.of_block (w' := w3) (hgrow.block wr.heap.size (by simp; omega) (fun e => own_row (own_below HT.out HB2.out) HR2.out (by decide) e.symm))); have HQ2 := hid hq2; obtain ⟨d0, d1, d2, d3, d4, d5, d6⟩ := row_cells hq2; clear hown hgrow hq hq2) | (go_at_call 50; refine (HSH.out _).mono ?_; rintro e w4 ⟨rfl, hb4⟩; have HB4 := hid hb4; clear hb4))
      have hs3 := HG3.out.size
      rw [show ((wr.alloc (.cells #[.int .u8 I.o, .int .i64 I.d, .int .i64 I.x, .int .i64 I.y, .int .i64 I.n, .int .i64 I.k, .int .i64 I.m] 74)).alloc (.cells #[.int .u8 I.o] 5)).heap.size = wr.heap.size + 2 by simp] at hs3
      have HBN3 := hid (show Below N w w3 from (HB.out.trans (HB2.out.mono (by omega))).trans ⟨HG3.out.os, HG3.out.tape, HG3.out.output, HG3.out.size, fun q hq => grown_old HT.out HG3.out (Or.inl (by omega)) (by simp; omega)⟩)
      have HBN4 := hid (HBN3.out.trans (HB4.out.mono (by omega)))
      have HO4 := hid (show w4.ownsRow (N + 1) 5 1 v3 (T ++ wrIt I 0).size (Lib.strCells (T ++ wrIt I 0)) by
        rw [ByteArray.size_append, strCells_append, show wrIt I 0 = ⟨#[UInt8.ofNat I.o.toNat]⟩ from rfl, HOC.out]
        exact own_below HO3.out HB4.out)
      have HG4 := hid (HQ.out.of_block (HB4.out.block N (by omega)))
      have HR4 := hid (HQ2.out.of_block (HB4.out.block wr.heap.size (by omega)))
      have hs4 := HB4.out.size
      obtain ⟨ib, hib⟩ : ∃ ib, wr.heap.size = ib := ⟨_, rfl⟩
      rw [hib] at HR4
      try rw [hib]
      have hibN : N + 1 ≤ ib := by omega
      have hz4 : ib < w4.heap.size := by omega
      clear HT HG HB HO3 HG3 HB4 HQ HQ2 HBN3 HB2 HR2 hz1 HAT hs3 hs4 hib d0 d1 d2 d3 d4 d5 d6 q0 q1 c1 c2 c3 c4 c5 c6 c7 HSH
      go_loopw [4, 8] (fun tv qv wq => ∃ q : Nat, q ≤ 3 ∧ qv = .int .i64 (q : Nat) ∧ wq.ownsRow (N + 1) 5 1 tv (T ++ wrIt I q).size (Lib.strCells (T ++ wrIt I q)) ∧ wq.rowIs N 78 2 (fun j => if j = 0 then .bool true else .int .i64 0) ∧ wq.rowIs ib 74 7 (insF I) ∧ Below N w wq) (fun _ qv _ => 3 - (intOf qv).toNat)
      case atStart => exact ⟨0, by omega, rfl, HO4.out, HG4.out, HR4.out, HBN4.out⟩
      case round =>
        clear HO4 HG4 HR4 HBN4 hz4
        obtain ⟨q, hq, rfl, ht, hg, hr, hb⟩ := hrel
        have HT := hid ht
        have HG := hid hg
        have HR := hid hr
        have HB := hid hb
        have hts2 : (T ++ wrIt I q).size ≤ 4500 := by rw [ByteArray.size_append, wrIt_size]; omega
        by_cases hq3 : q < 3
        · obtain ⟨d0, d1, d2, d3, d4, d5, d6⟩ := row_cells hr
          have hix := str_ix P q (by omega)
          have HGV := hid (show ∀ W : World, Calls Tryz.prog 51 #[.agg #[.int .u8 I.o, .int .i64 I.d, .int .i64 I.x, .int .i64 I.y, .int .i64 I.n, .int .i64 I.k, .int .i64 I.m], .int .u8 (Sp.B P q)] W fun e w' => e = .returned (.int .u8 (Sp.giv I (Sp.B P q))) ∧ Below W.heap.size W w' from fun W => give_any I.o I.d I.x I.y I.n I.k I.m (Sp.B P q) W hw2 hw3 hw4 hn0)
          have hgb := HWK.out.g q hq3
          have HST := hid (show wrIt I (q + 1) = wrIt I q ++ ⟨#[UInt8.ofNat (Sp.giv I (Sp.B (Sp.shpK 1 I.o) q)).toNat]⟩ from rfl)
          rw [HPP.out] at hgb HST
          have HOCq := hid (one_cell _ hgb.1 hgb.2)
          clear ht hg hr hb hgb
          generalize Sp.giv I (Sp.B P q) = gv at *
          obtain ⟨T2, hT2⟩ : ∃ T2, T ++ wrIt I q = T2 := ⟨_, rfl⟩
          have HT2 := hid hT2
          rw [hT2] at HT hts2
          clear hT2
          go_upto_region 11 with fail
          have hzr2 := HR.out.lt
          go_region_law (first | (go_simp; go_at_call 51; refine (HGV.out _).mono ?_; rintro e w5 ⟨rfl, hb5⟩; have HB5 := hid (show Below wr.heap.size wr w5 from ⟨hb5.os, hb5.tape, hb5.output, hb5.size, hb5.block⟩); clear hb5) | (refine step_append_own rfl (.tmp 32) (.tmp 38) 60 rfl (N + 1) 5 i8 (.int .u8 0) 1 1 Tryz.underlying60 HI.out.1 HI.out.2.1 HI.out.2.2.1 HI.out.2.2.2 rfl (by decide) u4 T2.size (Lib.strCells T2) (by simp [Act.eval]) (by exact own_below (own_below HT.out HB5.out) ((Below.refl _ _).alloc (Nat.le_refl _) _)) ⟨w5.heap.size, 0, none⟩ 1 1 [.int .u8 gv] (by simp [Act.eval]) rfl (by exact alloc_at w5 #[.int .u8 gv] 5) (by intro u hu; rw [List.mem_singleton.1 hu]; rfl) (by unfold maxLen; omega) (by omega) (by have := HB5.out.size; simp; omega) ?_; intro v6 w6 hown hgrow; have HO6 := hid hown; have HG6 := hid hgrow; clear hown hgrow))
          all_goals
            have HA6 := hid (show Below wr.heap.size wr (w5.alloc (.cells #[.int .u8 gv] 5)) from HB5.out.trans ((Below.refl w5.heap.size w5).alloc (Nat.le_refl _) _ |>.mono HB5.out.size))
            have hz6 : (w5.alloc (.cells #[.int .u8 gv] 5)).heap.size = w5.heap.size + 1 := by simp
            have hz5 := HB5.out.size
            have HGN := hid (show ∀ r, r < N + 1 → w6.heap[r]? = wr.heap[r]? from fun r hr => (grown_old HT.out HG6.out (Or.inl hr) (by omega)).trans (HA6.out.block r (by omega)))
            have HRN := hid (show w6.heap[ib]? = wr.heap[ib]? from (HG6.out.block ib (by omega) (fun e => own_row HT.out HR.out (by decide) e.symm)).trans (HA6.out.block ib (by omega)))
            have HBN := hid (show Below N w w6 from HB.out.trans ⟨HG6.out.os.trans HA6.out.os, HG6.out.tape.trans HA6.out.tape, HG6.out.output.trans HA6.out.output, Nat.le_trans HA6.out.size HG6.out.size, fun r hr => HGN.out r (by omega)⟩)
            go_wp2_with fail
            go_roundw
            case rel =>
              refine ⟨q + 1, by omega, by go_num, ?_, HG.out.of_block (HGN.out N (by omega)), HR.out.of_block HRN.out, HBN.out⟩
              rw [HST.out, ← ByteArray.append_assoc, HT2.out, ByteArray.size_append, strCells_append, HOCq.out]
              exact HO6.out
            case measure => simp [intOf]; omega
        · obtain rfl : q = 3 := by omega
          rw [wrIt_three] at HT
          clear ht hg hr hb
          go_wp2_with fail
          go_roundw
          case rel => exact ⟨j + 1, by omega, by go_num, by rw [HE.out]; exact HT.out, HG.out, by have := HR.out.lt; omega, HB.out⟩
          case measure => simp [intOf]; omega
    · have tlt : decide ((j : Int) < (D.length : Int)) = false := by simp; omega
      have tlt' : ¬ (j : Int) < (D.length : Int) := by omega
      have hjl : j = D.length := by omega
      have HTF := hid (show wr.ownsRow (N + 1) 5 1 u4 (Sp.wrD D).size (Lib.strCells (Sp.wrD D)) by rw [hjl, List.take_length] at ht; exact ht)
      have hcv := conv_trace rfl HTF.out
      clear ht hg hb HT
      go_wp2_with fail
      go_ret
      exact ⟨rfl, HB.out⟩
end Go.Proofs.YtccndnckceagfabGreatDoorR
