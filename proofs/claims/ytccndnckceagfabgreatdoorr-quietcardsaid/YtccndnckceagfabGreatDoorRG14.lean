/-
  Two outcomes that are the same are found the same.
  The program's run of a machine program.
-/
import Derived.Test.YtccndnckceagfabGreatDoorRG08
import Derived.Test.YtccndnckceagfabGreatDoorRHMacSim
namespace Go.Proofs.YtccndnckceagfabGreatDoorR
open Go.RowKit

theorem arr_row (w : World) (f : Nat → Int) (t : Nat) : (w.alloc (.cells (arrL f).toArray t)).rowIs w.heap.size t 8 (fun j => .int .i64 (f j)) := by
  have h := World.rowIs_alloc w (arrL f).toArray t (fun j => .int .i64 (f j)) (fun j hj => by
    have hj' : j < 8 := by simpa [arrL_len] using hj
    rw [List.getElem?_toArray]
    exact arrL_at f j hj')
  have hs : (arrL f).toArray.size = 8 := by simp [arrL_len]
  rw [hs] at h
  exact h

theorem outV_pub (st : Sp.St) (j : Nat) (hj : j < 8) : outV st (2 + j) = .int .i64 (st.pub j) := by
  unfold outV stF
  rw [if_neg (by omega), if_neg (by omega), if_neg (by omega), if_neg (by omega), if_neg (by omega), if_pos (by omega)]
  rw [show 130 + (2 + j) - 132 = j from by omega]
theorem outV_sec (st : Sp.St) (j : Nat) (hj : j < 8) : outV st (10 + j) = .int .i64 (st.sec j) := by
  unfold outV stF
  rw [if_neg (by omega), if_neg (by omega), if_neg (by omega), if_neg (by omega), if_neg (by omega), if_neg (by omega), if_pos (by omega)]
  rw [show 130 + (10 + j) - 140 = j from by omega]
theorem outV_regs (st : Sp.St) (j : Nat) (hj : j < 10) : outV st (19 + j) = .int .i64 (st.regs j) := by
  unfold outV stF
  rw [if_neg (by omega), if_neg (by omega), if_neg (by omega), if_neg (by omega), if_neg (by omega), if_neg (by omega), if_neg (by omega), if_neg (by omega), if_pos (by omega)]
  rw [show 130 + (19 + j) - 149 = j from by omega]
theorem outV_slots (st : Sp.St) (j : Nat) (_hj : j < 52) : outV st (29 + j) = .int .i64 (st.slots j) := by
  unfold outV stF
  rw [if_neg (by omega), if_neg (by omega), if_neg (by omega), if_neg (by omega), if_neg (by omega), if_neg (by omega), if_neg (by omega), if_neg (by omega), if_neg (by omega)]
  rw [show 130 + (29 + j) - 159 = j from by omega]
theorem OutAt.pub {w : World} {b : Nat} {st : Sp.St} (h : OutAt w b 0 st) (j : Nat) (hj : j < 8) : w.cell? ⟨b, 2 + j, none⟩ = some (.int .i64 (st.pub j)) := by
  have := h.cell (2 + j) (by omega)
  rwa [Nat.zero_add, outV_pub st j hj] at this
theorem OutAt.sec {w : World} {b : Nat} {st : Sp.St} (h : OutAt w b 0 st) (j : Nat) (hj : j < 8) : w.cell? ⟨b, 10 + j, none⟩ = some (.int .i64 (st.sec j)) := by
  have := h.cell (10 + j) (by omega)
  rwa [Nat.zero_add, outV_sec st j hj] at this
theorem OutAt.regs {w : World} {b : Nat} {st : Sp.St} (h : OutAt w b 0 st) (j : Nat) (hj : j < 10) : w.cell? ⟨b, 19 + j, none⟩ = some (.int .i64 (st.regs j)) := by
  have := h.cell (19 + j) (by omega)
  rwa [Nat.zero_add, outV_regs st j hj] at this
theorem OutAt.slots {w : World} {b : Nat} {st : Sp.St} (h : OutAt w b 0 st) (j : Nat) (hj : j < 52) : w.cell? ⟨b, 29 + j, none⟩ = some (.int .i64 (st.slots j)) := by
  have := h.cell (29 + j) (by omega)
  rwa [Nat.zero_add, outV_slots st j hj] at this
theorem OutAt.status {w : World} {b : Nat} {st : Sp.St} (h : OutAt w b 0 st) : w.cell? ⟨b, 0, none⟩ = some (.int .i64 st.status) := h.cell 0 (by omega)
theorem OutAt.value {w : World} {b : Nat} {st : Sp.St} (h : OutAt w b 0 st) : w.cell? ⟨b, 1, none⟩ = some (.int .i64 st.value) := h.cell 1 (by omega)
theorem OutAt.trace {w : World} {b : Nat} {st : Sp.St} (h : OutAt w b 0 st) : w.cell? ⟨b, 18, none⟩ = some (.string st.trace) := h.cell 18 (by omega)

end Go.Proofs.YtccndnckceagfabGreatDoorR

namespace Go.Proofs.YtccndnckceagfabGreatDoorR
open Go.RowKit

theorem OutAt.setOne {w : World} {b : Nat} {st st' : Sp.St} (h : OutAt w b 0 st) (j : Nat) (v : Value) (e : ∀ i, i < 81 → outV st' i = if i = j then v else outV st i) : OutAt (w.setCell ⟨b, j, none⟩ v) b 0 st' := by
  refine ⟨fun i hi => ?_, fun i hi => by rw [show (w.setCell ⟨b, j, none⟩ v).frozen? ⟨b, 0 + i, none⟩ = w.frozen? ⟨b, 0 + i, none⟩ by simp]; exact h.free i hi⟩
  have hc := h.cell i hi
  rw [Nat.zero_add] at hc ⊢
  rw [e i hi]
  by_cases c : i = j
  · subst c
    rw [if_pos rfl, World.cell?_setCell_same' _ _ _ (by rw [hc]; rfl)]
  · rw [if_neg c, World.cell?_setCell_other _ _ _ _ (fun h => c (by have := congrArg Addr.off h; simp at this; omega)), hc]
theorem OutAt.setRegs {w : World} {b : Nat} {st : Sp.St} (h : OutAt w b 0 st) (j : Nat) (hj : j < 10) (v : Int) : OutAt (w.setCell ⟨b, 19 + j, none⟩ (.int .i64 v)) b 0 { st with regs := Sp.upd st.regs j v } :=
  h.setOne (19 + j) _ fun i hi => by
    by_cases c : i = 19 + j
    · rw [if_pos c, c, outV_regs _ j hj]
      simp [Sp.upd]
    · rw [if_neg c]
      unfold outV stF
      repeat' split
      all_goals first | (simp only [Sp.upd]; rw [if_neg (by omega)]) | rfl
theorem OutAt.setSlots {w : World} {b : Nat} {st : Sp.St} (h : OutAt w b 0 st) (j : Nat) (hj : j < 52) (v : Int) : OutAt (w.setCell ⟨b, 29 + j, none⟩ (.int .i64 v)) b 0 { st with slots := Sp.upd st.slots j v } :=
  h.setOne (29 + j) _ fun i hi => by
    by_cases c : i = 29 + j
    · rw [if_pos c, c, outV_slots _ j hj]
      simp [Sp.upd]
    · rw [if_neg c]
      unfold outV stF
      repeat' split
      all_goals first | (simp only [Sp.upd]; rw [if_neg (by omega)]) | rfl
/-- what registers and slots do not touch -/
structure Five (m : Sp.PSt) (st : Sp.St) : Prop where
  f1 : st.status = m.status
  f2 : st.value = m.value
  f3 : st.pub = m.pub
  f4 : st.sec = m.sec
  f5 : st.trace = m.trace
theorem rdP_at (m : Sp.PSt) (j : Nat) (h : j < 62) : Sp.rdP m (j : Int) = m.pl j := by
  unfold Sp.rdP
  rw [if_pos (by omega), Int.toNat_natCast]

set_option maxRecDepth 20000 in
set_option maxHeartbeats 4000000 in
theorem machine_any (Bp p : Nat) (C : List Sp.Ins) (L : List (Nat × Nat)) (I : Sp.Inp) (F : Nat) (w : World) (hG : ProgAt w Bp p C L) (hT : Tab w) (hF : F ≤ 20000)
    (hI : (∀ k, 0 ≤ I.args k ∧ I.args k ≤ 65535) ∧ (∀ k, 0 ≤ I.pub k ∧ I.pub k ≤ 65535) ∧ ∀ k, 0 ≤ I.sec k ∧ I.sec k ≤ 65535)
    (hC : C.length ≤ 1100) (hC0 : 0 < C.length) (hIn : ∀ j (h : j < C.length), insOk C[j]) (hL : ∀ q, -1 ≤ Sp.strP L q ∧ Sp.strP L q ≤ 5000) :
    Calls Tryz.prog 20 #[.pointer (some ⟨p, 0, none⟩), .agg (inA I), .int .i64 (F : Int)] w fun e w' =>
      e = .returned (.agg (outL (outM (Sp.walkP C (Sp.strP L) F (argK I 4) 0))).toArray) ∧ Below w.heap.size w w' := by
  have hsz := inA_size I
  have hlt1 := hT.lt
  have HG := hid hG
  have HT := hid hT
  have HRI := hid (in_row w I 25)
  have HBB := hid ((Below.refl w.heap.size w).alloc (Nat.le_refl _) (.cells (inA I) 25))
  have HII := hid hI
  have HIN := hid hIn
  have HLL := hid hL
  clear hG hT hI hIn hL
  go_enter Tryz.func20, Tryz.ntmps20
  go_upto_region 1 with (refine wpList_alloc_out rfl rfl ?_; intro w1 ho1 hb1 hz1; have HO1 := hidd ho1; have HB1 := hidd hb1; clear ho1 hb1)
  have hz1' : w1.heap.size = w.heap.size + 2 := by rw [hz1]; simp
  have HRI1 := hid (HRI.out.of_block (HB1.out.block w.heap.size (by simp)))
  have HO1' : Hid (OutAt w1 (w.heap.size + 1) 0 st0) := by have := HO1.out; simp only [World.size_alloc] at this; exact hid this
  have HBW1 := hid (HBB.out.trans (HB1.out.mono (by simp)))
  clear HO1 HRI HBB HB1 hz1
  generalize hN : w.heap.size = N at *
  have HBG := hid (begin_any I w1)
  go_upto_region 3 with (first | (refine wpList_load_in rfl (.tmp 4) rfl N I (by rfl) HRI1.out ?_) | (go_at_call 25; refine HBG.out.mono ?_; rintro e w2 ⟨rfl, hb2⟩; have HB2 := hidd hb2; clear hb2) | (refine wpList_alloc_state rfl rfl ?_; intro w3 ho3 hb3 hz3; have HO3 := hidd ho3; have HB3 := hidd hb3; clear ho3 hb3) | (refine wpList_store_state rfl (.tmp 7) (.tmp 13) rfl w2.heap.size (bg I) pst0 (.slice none 0 0) (.slice none 0 0) rfl (by rfl) (by rfl) HO3.out ?_; intro w4 ho4 ho4'; have HO4 := hidd ho4; have HY4 := hidd ho4'; clear ho4 ho4'))
  have hbN : N + 2 ≤ w2.heap.size := by have := HB2.out.size; omega
  have HBW4 : Hid (Below N w w4) := hid (((HBW1.out.trans (HB2.out.mono (by omega))).trans (HB3.out.mono (by omega))).trans (HY4.out.below (by omega)))
  have hs4 : w4.heap.size = w2.heap.size + 1 := by rw [HY4.out.size, hz3]
  have HRI4 := hid (((HRI1.out.of_block (HB2.out.block N (by omega))).of_block (HB3.out.block N (by omega))).of_block (HY4.out.block N (by omega)))
  have HOO4 := hid (((HO1'.out.of_block (HB2.out.block (N + 1) (by omega))).of_block (HB3.out.block (N + 1) (by omega))).of_block (HY4.out.block (N + 1) (by omega)))
  have HP4 : Hid (PAt w4 (w2.heap.size + 1) w2.heap.size (bg I)) := hid ⟨_, HO4.out, World.ownsRow_nil _ _ _ _⟩
  clear HO3 HB3 HB2 HY4 HO4 HRI1 HO1' HBW1 HBG hz3 hz1'
  generalize w2.heap.size = b at *
  go_loopw [8] (fun nv wr => ∃ j : Nat, j ≤ 4 ∧ nv = .int .i64 j ∧ PAt wr (b + 1) b (argK I j) ∧ Fr (b + 1) b w4 wr) (fun nv _ => 4 - (intOf nv).toNat)
  case atStart => exact ⟨0, by omega, rfl, HP4.out, Fr.refl _ _ _⟩
  case round =>
    obtain ⟨j, hj, rfl, hPj, hFj⟩ := hrel
    have HPJ := hid hPj
    have HFJ := hid hFj
    have HBJ := hid (HBW4.out.trans (show Below N w4 wr from ⟨hFj.but.os, hFj.but.tape, hFj.but.output, hFj.but.size, fun k hk => hFj.but.block k (by omega) (by omega)⟩))
    have hIj := HRI4.out.of_block (hFj.but.block N (by omega) (by omega))
    have hsj := hFj.size
    clear hPj hFj
    by_cases hlt : j < 4
    · have cI := in_args hIj j hlt
      have HWR := hid (HPJ.out.wr (by omega) (j : Int) (I.args j))
      clear hIj
      go_wp2_with (go_at_call 26; refine HWR.out.mono ?_; rintro e w5 ⟨rfl, h5, h6⟩; have HP5 := hid h5; have HF5 := hid (HFJ.out.trans h6); clear h5 h6)
      go_roundw
      case rel => exact ⟨j + 1, by omega, by go_num, HP5.out, HF5.out⟩
      case measure => simp [intOf]; omega
    · obtain rfl : j = 4 := by omega
      have HOJ := hid (HOO4.out.of_block (HFJ.out.but.block (N + 1) (by omega) (by omega)))
      have HGJ := hid (HG.out.move (by rw [hN]; exact HBJ.out))
      have HWK := hid (walk_any (b + 1) b Bp p C L (argK I 4) F wr HPJ.out HGJ.out (by omega) (by omega) (by omega) (HT.out.of_block (HBJ.out.block 1 (by omega))) (argK_ok I HII.out 4) hF hC hC0 HIN.out HLL.out)
      clear hIj
      generalize hM : Sp.walkP C (Sp.strP L) F (argK I 4) 0 = M at *
      have HMM := hid hM
      clear hM
      go_wp2_with fail
      refine HWK.out.mono ?_
      rintro e w5 ⟨rfl, h5, h6⟩
      have HP5W := hid h5
      have HOC := hid (outcome_any (b + 1) b M w5 h5)
      have HO5 := hid (HOJ.out.of_block (h6.but.block (N + 1) (by omega) (by omega)))
      have HB5 := hid (HBJ.out.trans (show Below N wr w5 from ⟨h6.but.os, h6.but.tape, h6.but.output, h6.but.size, fun k hk => h6.but.block k (by omega) (by omega)⟩))
      have hs5 := h6.size
      clear h5 h6
      obtain ⟨vt, hrow5, _⟩ := HP5W.out
      have HROW5 := hid hrow5
      clear hrow5 HP5W
      go_upto_region 9 with (first | (go_at_call 28; refine HOC.out.mono ?_; rintro e w6 ⟨rfl, h7⟩; have HO6 := hid (HO5.out.of_block (h7.block (N + 1) (by omega))); have HR6 := hid (HROW5.out.of_block (h7.block b (by omega))); have HB6 := hid (HB5.out.trans (h7.mono (by omega))); have hs6 := h7.size; clear h7) | (refine wpList_alloc_out rfl rfl ?_; intro w8 ho8 hb8 hz8; have HO8 := hid ho8; have HB8 := hid hb8; clear ho8 hb8) | (refine wpList_store_out rfl (.tmp 9) (.tmp 27) rfl w6.heap.size 0 (outSt M) st0 (by rfl) (by rfl) HO8.out ?_; intro w9 ho9 ho9'; have HO9 := hid ho9; have HY9 := hid ho9'; clear ho9 ho9'))
      have hs9 : w9.heap.size = w6.heap.size + 1 := by rw [HY9.out.size, hz8]
      have HR9 := hid ((HR6.out.of_block (HB8.out.block b (by omega))).of_block (HY9.out.block b (by omega)))
      have HN9 := hid ((HO6.out.of_block (HB8.out.block (N + 1) (by omega))).of_block (HY9.out.block (N + 1) (by omega)))
      have HB9 := hid ((HB6.out.trans (HB8.out.mono (by omega))).trans (HY9.out.below (by omega)))
      clear HO8 HB8 HY9 HO6 HR6 HB6 HO5 HB5 HROW5 hz8
      generalize w6.heap.size = q at *
      go_loopw [10] (fun nv wr => ∃ (j : Nat) (st : Sp.St), j ≤ 10 ∧ nv = .int .i64 j ∧ OutAt wr q 0 st ∧ Five M st ∧ (∀ i, i < j → st.regs i = M.pl i) ∧ Only q w9 wr) (fun nv _ => 10 - (intOf nv).toNat)
      case atStart => exact ⟨0, _, by omega, rfl, HO9.out, ⟨rfl, rfl, rfl, rfl, rfl⟩, fun i hi => by omega, Only.refl _ _⟩
      case round =>
        obtain ⟨j, st, hj, rfl, hO, h5, hreg, hon⟩ := hrel
        have HO := hid hO
        have H5 := hid h5
        have HREG := hid hreg
        have HON := hid hon
        clear h5 hreg
        by_cases hlt : j < 10
        · have cR := hO.regs j hlt
          have fR := hO.free (19 + j) (by omega)
          rw [Nat.zero_add] at fR
          have HRD := hid (rd_any b M vt (j : Int) wr (HR9.out.of_block (hon.block b (by omega))))
          have HV := hid (rdP_at M j (by omega))
          clear hO hon
          go_wp2_with (go_at_call 34; refine HRD.out.mono ?_; rintro e w' ⟨rfl, rfl⟩)
          go_roundw
          case rel => exact ⟨j + 1, _, by omega, by go_num, HO.out.setRegs j hlt _, ⟨H5.out.f1, H5.out.f2, H5.out.f3, H5.out.f4, H5.out.f5⟩, fun i hi => by
            show Sp.upd st.regs j _ i = _
            unfold Sp.upd
            by_cases e : i = j
            · rw [if_pos e, e, HV.out]
            · rw [if_neg e]; exact HREG.out i (by omega), HON.out.trans (Only.set _ _ _ _)⟩
          case measure => simp [intOf]; omega
        · have HJ := hid (show j = 10 by omega)
          clear hO hon
          go_wp2_with fail
          go_loopw [11] (fun nv wr' => ∃ (j : Nat) (st : Sp.St), j ≤ 52 ∧ nv = .int .i64 j ∧ OutAt wr' q 0 st ∧ Five M st ∧ (∀ i, i < 10 → st.regs i = M.pl i) ∧ (∀ i, i < j → st.slots i = M.pl (10 + i)) ∧ Only q w9 wr') (fun nv _ => 52 - (intOf nv).toNat)
          case atStart => exact ⟨0, _, by omega, rfl, HO.out, H5.out, fun i hi => HREG.out i (by rw [HJ.out]; exact hi), fun i hi => by omega, HON.out⟩
          case round =>
            obtain ⟨j', st', hj', rfl, hO', h5', hreg', hslt', hon'⟩ := hrel
            have HO' := hid hO'
            have H5' := hid h5'
            have HREG' := hid hreg'
            have HSLT' := hid hslt'
            have HON' := hid hon'
            clear h5' hreg' hslt'
            by_cases hlt' : j' < 52
            · have cS := hO'.slots j' hlt'
              have fS := hO'.free (29 + j') (by omega)
              rw [Nat.zero_add] at fS
              have HRD := hid (rd_any b M vt ((10 : Int) + j') _ (HR9.out.of_block (hon'.block b (by omega))))
              have HV := hid (rdP_at M (10 + j') (by omega))
              clear hO' hon'
              go_wp2_with (go_at_call 34; refine HRD.out.mono ?_; rintro e w' ⟨rfl, rfl⟩)
              go_roundw
              case rel => exact ⟨j' + 1, _, by omega, by go_num, HO'.out.setSlots j' hlt' _, ⟨H5'.out.f1, H5'.out.f2, H5'.out.f3, H5'.out.f4, H5'.out.f5⟩, HREG'.out, fun i hi => by
                show Sp.upd st'.slots j' _ i = _
                unfold Sp.upd
                by_cases e : i = j'
                · rw [if_pos e, e, ← HV.out]; rfl
                · rw [if_neg e]; exact HSLT'.out i (by omega), HON'.out.trans (Only.set _ _ _ _)⟩
              case measure => simp [intOf]; omega
            · have HJ' := hid (show j' = 52 by omega)
              clear hO' hon'
              have HE : Hid (outL st' = outL (outM M)) := hid (outL_congr' H5'.out.f1 H5'.out.f2 H5'.out.f3 H5'.out.f4 H5'.out.f5 HREG'.out (fun i hi => HSLT'.out i (by rw [HJ'.out]; exact hi)))
              have HNF := hid (HN9.out.of_block (HON'.out.block (N + 1) (by omega)))
              go_wp2_with (first | (refine wpList_load_out rfl (.tmp 9) rfl q 0 st' (by rfl) HO'.out ?_) | (refine wpList_store_out rfl (.tmp 6) (.tmp 47) rfl (N + 1) 0 st' st0 (by rfl) (by rfl) HNF.out ?_; intro w7 ho7 ho7'; have HO7 := hidd ho7; have HY7 := hidd ho7'; clear ho7 ho7'))
              refine bodyPost_ret (v := .agg (outL st').toArray) (results_cell_one (q := 6) (a := ⟨N + 1, 0, none⟩) rfl _ _ (by rfl) (run_loadVar_out HO7.out)) (by rfl) ⟨by rw [HE.out, HMM.out], ?_⟩
              rw [hN]
              exact (HB9.out.trans (HON'.out.below (by omega))).trans (HY7.out.below (by omega))
end Go.Proofs.YtccndnckceagfabGreatDoorR
