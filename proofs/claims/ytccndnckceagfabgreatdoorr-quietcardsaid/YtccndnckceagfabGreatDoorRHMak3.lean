/-
  The compiler's maker: how a program ends, and what each instruction becomes.
-/
import Derived.Test.YtccndnckceagfabGreatDoorRHMak2
namespace Go.Proofs.YtccndnckceagfabGreatDoorR
open Go.RowKit

def clrRt (j : Nat) : List Sp.Ins := (List.range j).map fun (p : Nat) => Sp.clrI ((p : Int) + 1)
theorem clrRt_succ (j : Nat) : clrRt (j + 1) = clrRt j ++ [Sp.clrI ((j : Int) + 1)] := by
  unfold clrRt
  rw [List.range_succ, List.map_append]
  rfl
theorem clrRt_len (j : Nat) : (clrRt j).length = j := by simp [clrRt]
def clrSt (H : Int → Int) (j : Nat) : List Sp.Ins := ((List.range j).filter fun (r : Nat) => decide (10 ≤ H (r : Int))).map fun (r : Nat) => Sp.clrI (H (r : Int))
theorem clrSt_yes {H : Int → Int} {j : Nat} (h : 10 ≤ H (j : Int)) : clrSt H (j + 1) = clrSt H j ++ [Sp.clrI (H (j : Int))] := by
  unfold clrSt
  rw [List.range_succ, List.filter_append, List.map_append]
  simp [h]
theorem clrSt_no {H : Int → Int} {j : Nat} (h : ¬ 10 ≤ H (j : Int)) : clrSt H (j + 1) = clrSt H j := by
  unfold clrSt
  rw [List.range_succ, List.filter_append, List.map_append]
  simp [h]
theorem clrSt_len (H : Int → Int) (j : Nat) : (clrSt H j).length ≤ j := by
  unfold clrSt
  rw [List.length_map]
  have := List.length_filter_le (fun (r : Nat) => decide (10 ≤ H (r : Int))) (List.range j)
  rw [List.length_range] at this
  exact this

set_option maxRecDepth 20000 in
set_option maxHeartbeats 4000000 in
theorem mkEnd_any (B b : Nat) (H : Nat → Int) (k : Int) (D : List Sp.Ins) (v : Value) (r : Int) (w : World) (hk : 6 ≤ k ∧ k ≤ 10) (hM : MkV w B b H k D v) (hb : b < B) (hB : B ≤ w.heap.size) (hD : D.length ≤ 1800) :
    Calls Tryz.prog 48 #[.pointer (some ⟨b, 0, none⟩), .int .i64 r] w fun e w' => e = .returned (.tuple #[]) ∧ MkP B b H k (D ++ (Sp.endM (Sp.HX H) k r ++ [Sp.retI])) v w w' := by
  obtain ⟨ii, zz, hi1, hi2, hi3, hi4, hi5⟩ := info_ins
  have HI := hid (And.intro hi1 (And.intro hi2 (And.intro hi3 (And.intro hi4 hi5))))
  clear hi1 hi2 hi3 hi4 hi5
  have hl := brgL_len (Sp.HX H) k 0 r
  have HBR := hid (mkBring_any B b H k D v 0 r w hM hb hB (by omega))
  obtain ⟨K, hK⟩ : ∃ K : Nat, k = K := ⟨k.toNat, by omega⟩
  have HE := hid (show D ++ (Sp.endM (Sp.HX H) k r ++ [Sp.retI]) = D ++ Sp.brgL (Sp.HX H) k 0 r ++ clrRt (K - 1) ++ clrSt (Sp.HX H) 52 ++ [Sp.retI] by
    have e : Sp.clrR k = clrRt (K - 1) := by
      unfold Sp.clrR clrRt
      rw [hK, Int.toNat_natCast]
    have e2 : Sp.clrS (Sp.HX H) = clrSt (Sp.HX H) 52 := rfl
    unfold Sp.endM
    rw [e, e2]
    simp only [List.append_assoc])
  have hK6 : 6 ≤ K ∧ K ≤ 10 := by omega
  have hD1 : (D ++ Sp.brgL (Sp.HX H) k 0 r).length ≤ 1802 := by rw [List.length_append]; omega
  generalize D ++ Sp.brgL (Sp.HX H) k 0 r = D1 at *
  clear hM hl hD
  go_enter Tryz.func48, Tryz.ntmps48
  go_wp2_with (go_at_call 47; refine HBR.out.mono ?_; rintro e w1 ⟨rfl, v1, hm1, hf1⟩; have HM1 := hid hm1; have HF1 := hid hf1; clear hm1 hf1)
  clear HBR
  go_loopw [4] (fun pv wr => ∃ (j : Nat) (vr : Value), j ≤ K - 1 ∧ pv = .int .i64 ((j : Int) + 1) ∧ MkV wr B b H k (D1 ++ clrRt j) vr ∧ MF b v vr w wr) (fun pv _ => K - (intOf pv).toNat)
  case atStart => exact ⟨0, v1, by omega, by simp, by rw [show clrRt 0 = [] from rfl, List.append_nil]; exact HM1.out, HF1.out⟩
  case round =>
    clear HM1 HF1
    obtain ⟨j, vr, hj, rfl, hm, hf⟩ := hrel
    have HM := hid hm
    have HF := hid hf
    have c52 := hm.1.k
    have hlen := clrRt_len j
    clear hm hf
    by_cases hlt : j < K - 1
    · have t1 : decide ((j : Int) + 1 < k) = true := by simp; omega
      have HS := hid (clrRt_succ j)
      have hDl : (D1 ++ clrRt j).length ≤ 1900 := by rw [List.length_append]; omega
      have HCL := hid (mkClear_any B b H k (D1 ++ clrRt j) vr ((j : Int) + 1) wr HM.out hb (Nat.le_trans hB HF.out.size) (by omega))
      go_wp2_with (go_at_call 72; refine HCL.out.mono ?_; rintro e w2 ⟨rfl, v2, hm2, hf2⟩; have HM2 := hid hm2; have HF2 := hid hf2; clear hm2 hf2)
      go_roundw
      case rel => exact ⟨j + 1, v2, by omega, by go_num, by rw [HS.out, ← List.append_assoc]; exact HM2.out, HF.out.trans HF2.out⟩
      case measure => simp [intOf]; omega
    · have t1 : decide ((j : Int) + 1 < k) = false := by simp; omega
      obtain rfl : j = K - 1 := by omega
      have hD2 : (D1 ++ clrRt (K - 1)).length ≤ 1820 := by rw [List.length_append]; omega
      generalize D1 ++ clrRt (K - 1) = D2 at *
      go_wp2_with fail
      go_loopw [5] (fun ov wr => ∃ (j : Nat) (vr : Value), j ≤ 52 ∧ ov = .int .i64 (j : Nat) ∧ MkV wr B b H k (D2 ++ clrSt (Sp.HX H) j) vr ∧ MF b v vr w wr) (fun ov _ => 52 - (intOf ov).toNat)
      case atStart => exact ⟨0, vr, by omega, by simp, by rw [show clrSt (Sp.HX H) 0 = [] from rfl, List.append_nil]; exact HM.out, HF.out⟩
      case round =>
        clear HM HF c52 t1
        obtain ⟨i, vi, hi, rfl, hm, hf⟩ := hrel
        have HM := hid hm
        have HF := hid hf
        have hlen2 := clrSt_len (Sp.HX H) i
        have hDl : (D2 ++ clrSt (Sp.HX H) i).length ≤ 1900 := by rw [List.length_append]; omega
        by_cases hlt2 : i < 52
        · have HPL := hid (place_any' b H (i : Nat) wr hm.1.c)
          clear hm hf
          by_cases h10 : 10 ≤ Sp.HX H (i : Nat)
          · have t2 : decide (10 ≤ Sp.HX H (i : Nat)) = true := by simp [h10]
            have HS := hid (clrSt_yes h10)
            have HCL := hid (mkClear_any B b H k (D2 ++ clrSt (Sp.HX H) i) vi (Sp.HX H (i : Nat)) wr HM.out hb (Nat.le_trans hB HF.out.size) (by omega))
            clear h10
            generalize Sp.HX H (i : Nat) = P1 at *
            go_wp2_with (first | (go_at_call 44; refine HPL.out.mono ?_; rintro e w' ⟨rfl, rfl⟩) | (go_at_call 67; refine (isSlot_any P1 _).mono ?_; rw [t2]; rintro e w' ⟨rfl, rfl⟩) | (go_at_call 72; refine HCL.out.mono ?_; rintro e w2 ⟨rfl, v2, hm2, hf2⟩; have HM2 := hid hm2; have HF2 := hid hf2; clear hm2 hf2))
            go_roundw
            case rel => exact ⟨i + 1, v2, by omega, by go_num, by rw [HS.out, ← List.append_assoc]; exact HM2.out, HF.out.trans HF2.out⟩
            case measure => simp [intOf]; omega
          · have t2 : decide (10 ≤ Sp.HX H (i : Nat)) = false := by simp; omega
            have HS := hid (clrSt_no h10)
            clear h10
            generalize Sp.HX H (i : Nat) = P1 at *
            go_wp2_with (first | (go_at_call 44; refine HPL.out.mono ?_; rintro e w' ⟨rfl, rfl⟩) | (go_at_call 67; refine (isSlot_any P1 _).mono ?_; rw [t2]; rintro e w' ⟨rfl, rfl⟩))
            go_roundw
            case rel => exact ⟨i + 1, vi, by omega, by go_num, by rw [HS.out]; exact HM.out, HF.out⟩
            case measure => simp [intOf]; omega
        · obtain rfl : i = 52 := by omega
          generalize D2 ++ clrSt (Sp.HX H) 52 = D3 at *
          have HR := hid hm.1
          have HO := hid hm.2
          have hsr := hf.size
          clear hm hf HM
          go_upto_region 13 with (go_at_call 69; refine (bare_any _ _).mono ?_; rintro e w1 ⟨rfl, rfl⟩)
          have hA1 : Below wr.heap.size wr ((wr.alloc (.cells #[.int .u8 114, .int .i64 (-1), .int .i64 (-1), .int .i64 (-1), .int .i64 0, .int .i64 (-1), .int .i64 (-1)] 74)).alloc (.cells #[.int .u8 114, .int .i64 (-1), .int .i64 0, .int .i64 (-1), .int .i64 0, .int .i64 (-1), .int .i64 (-1)] 74)) := ((Below.refl _ _).alloc (Nat.le_refl _) _).alloc (by simp) _
          have HI5 := hid (show ((wr.alloc (.cells #[.int .u8 114, .int .i64 (-1), .int .i64 (-1), .int .i64 (-1), .int .i64 0, .int .i64 (-1), .int .i64 (-1)] 74)).alloc (.cells #[.int .u8 114, .int .i64 (-1), .int .i64 0, .int .i64 (-1), .int .i64 0, .int .i64 (-1), .int .i64 (-1)] 74)).rowIs (wr.heap.size + 1) 74 7 (insF ⟨114, (-1), 0, -1, 0, -1, -1⟩) from by
            have := row_new (wr.alloc (.cells #[.int .u8 114, .int .i64 (-1), .int .i64 (-1), .int .i64 (-1), .int .i64 0, .int .i64 (-1), .int .i64 (-1)] 74)) 114 (-1) 0 (-1) 0 (-1) (-1) 74
            rw [show (wr.alloc (.cells #[.int .u8 114, .int .i64 (-1), .int .i64 (-1), .int .i64 (-1), .int .i64 0, .int .i64 (-1), .int .i64 (-1)] 74)).heap.size = wr.heap.size + 1 by simp] at this
            exact this)
          have HR5 := hid (HR.out.of_block (hA1.block b HR.out.lt))
          have HO5 := hid (own_below HO.out hA1)
          have HB5 := hid hA1
          have hs5 := hA1.size
          generalize ((wr.alloc (.cells #[.int .u8 114, .int .i64 (-1), .int .i64 (-1), .int .i64 (-1), .int .i64 0, .int .i64 (-1), .int .i64 (-1)] 74)).alloc (.cells #[.int .u8 114, .int .i64 (-1), .int .i64 0, .int .i64 (-1), .int .i64 0, .int .i64 (-1), .int .i64 (-1)] 74)) = w5 at *
          obtain ⟨ib, hib⟩ : ∃ ib, wr.heap.size + 1 = ib := ⟨_, rfl⟩
          rw [hib] at HI5
          try rw [hib]
          clear hA1 HR HO
          have hpl := World.rowIs.lt HR5.out
          have c55 := HR5.out.v
          have z55 := World.rowIs.frozen HR5.out 55
          obtain ⟨e0, e1, e2, e3, e4, e5, e6⟩ := row_cells HI5.out
          have HG := hid (show ∀ w', ((w5.alloc (.cells #[.int .u8 114, .int .i64 (-1), .int .i64 0, .int .i64 (-1), .int .i64 0, .int .i64 (-1), .int .i64 (-1)] 74)).drew).grownBy w' vi.ownBlock → MkR w' b H k vi from fun w' hg => HR5.out.of_block ((grown_old HO5.out hg (Or.inl hb) (by simp; omega)).trans ((((Below.refl w5.heap.size w5).alloc (Nat.le_refl _) _).drew).block b hpl)))
          go_region_law (refine step_append_own2 rfl (.tmp 42) (.tmp 44) 44 rfl B 74 ii zz 7 56 Tryz.underlying44 HI.out.1 HI.out.2.1 HI.out.2.2.1 HI.out.2.2.2.1 HI.out.2.2.2.2 (by decide) vi D3.length (insV D3) (by simp [Act.eval]) (by exact own_below HO5.out (((Below.refl _ _).alloc (Nat.le_refl _) _).drew)) ⟨w5.heap.size, 0, none⟩ 1 1 (insL ⟨114, (-1), 0, (-1), 0, (-1), (-1)⟩) (by simp [Act.eval]) rfl (by exact insL_at (row_last w5 114 (-1) 0 (-1) 0 (-1) (-1) 74)) (insL_cells _) (by unfold maxLen; omega) (by omega) (by simp; omega) ?_; intro v' w' hown hgrow hfr; obtain ⟨g', cap', hv⟩ := Joins.ownsRow_form hown (by omega); subst hv; have r1 := HG.out w' hgrow; have q0 := r1.v; have q2 := World.rowIs.frozen r1 55)
          all_goals
            obtain ⟨f1, f2⟩ := mk_fin (D := D3) HR5.out HO5.out hb (((Below.refl w5.heap.size w5).alloc (Nat.le_refl _) _).drew) hgrow hfr hown
            have HF' := hid (And.intro f1 f2)
            clear f1 f2 hown hgrow hfr r1
            go_wp2_with fail
            go_end0
            refine ⟨rfl, _, ?_, (HF.out.trans (MF.of_below HB5.out)).trans HF'.out.2⟩
            rw [← hK, HE.out]
            exact HF'.out.1

set_option maxRecDepth 20000 in
set_option maxHeartbeats 4000000 in
theorem mkFollow_any (B b : Nat) (H : Nat → Int) (k : Int) (D : List Sp.Ins) (v : Value) (o d x y n kk m : Int) (w : World) (hk : 6 ≤ k ∧ k ≤ 10) (hM : MkV w B b H k D v) (hb : b < B) (hB : B ≤ w.heap.size) (hD : D.length ≤ 1800) :
    Calls Tryz.prog 31 #[.pointer (some ⟨b, 0, none⟩), .agg #[.int .u8 o, .int .i64 d, .int .i64 x, .int .i64 y, .int .i64 n, .int .i64 kk, .int .i64 m]] w fun e w' => e = .returned (.tuple #[]) ∧ MkP B b H k (D ++ Sp.fol (Sp.HX H) k ⟨o, d, x, y, n, kk, m⟩) v w w' := by
  have HB0 := hid (bx_new hM hB o d x y n kk m)
  have HF0 := hid (show MF b v v w (w.alloc (.cells #[.int .u8 o, .int .i64 d, .int .i64 x, .int .i64 y, .int .i64 n, .int .i64 kk, .int .i64 m] 74)) from MF.of_below ((Below.refl _ _).alloc (Nat.le_refl _) _))
  clear hM
  have HPL := hid (fun (W : World) hW => place_any' b H d W hW)
  have HBR := hid (fun (W : World) hM hB => mkBring_any B b H k D v (Sp.HX H d) x W hM hb hB (by omega))
  have HEN := hid (fun (W : World) hM hB => mkEnd_any B b H k D v x W hk hM hb hB hD)
  have HWK := hid (fun (W : World) hM hB => mkWork_any B b H k D v o d x y n kk m W hM hb hB (by omega))
  by_cases h61 : o = 61
  · have t1 : (o == 61) = true := by simp [h61]
    have HE := hid (show Sp.fol (Sp.HX H) k ⟨o, d, x, y, n, kk, m⟩ = Sp.brgL (Sp.HX H) k (Sp.HX H d) x by unfold Sp.fol; rw [if_pos h61])
    clear h61
    generalize Sp.HX H d = P1 at *
    go_enter Tryz.func31, Tryz.ntmps31
    go_upto_region 1 with fail
    obtain ⟨ib, hib⟩ : ∃ ib, w.heap.size = ib := ⟨_, rfl⟩
    rw [hib] at HB0
    try rw [hib]
    generalize w.alloc (.cells #[.int .u8 o, .int .i64 d, .int .i64 x, .int .i64 y, .int .i64 n, .int .i64 kk, .int .i64 m] 74) = w0 at *
    obtain ⟨a0, a1, a2, a3, a4, a5, a6⟩ := row_cells HB0.out.row
    go_upto_region 4 with fail
    go_quiet ((go_at_call 44; exact Calls.quiet_of_same ((HPL.out _ (by exact HB0.out.mv.1.c)).mono (fun _ _ hh => ⟨hh.1, hh.2.symm⟩))))
    go_wp2_with (go_at_call 47; refine (HBR.out _ (by exact (HB0.out.drewN nq).mv) (by exact HB0.out.lt)).mono ?_; rintro e w1 ⟨rfl, v1, hm1, hf1⟩; have HM1 := hid hm1; have HF1 := hid hf1; clear hm1 hf1)
    go_end0
    refine ⟨rfl, v1, ?_, (HF0.out.trans (MF.drewN (n := nq))).trans HF1.out⟩
    rw [HE.out]
    exact HM1.out
  by_cases h114 : o = 114
  · have t1 : (o == 61) = false := by simp [h61]
    have t2 : (o == 114) = true := by simp [h114]
    have HE := hid (show Sp.fol (Sp.HX H) k ⟨o, d, x, y, n, kk, m⟩ = Sp.endM (Sp.HX H) k x ++ [Sp.retI] by unfold Sp.fol; rw [if_neg h61, if_pos h114])
    clear h61 h114
    go_enter Tryz.func31, Tryz.ntmps31
    go_upto_region 1 with fail
    obtain ⟨ib, hib⟩ : ∃ ib, w.heap.size = ib := ⟨_, rfl⟩
    rw [hib] at HB0
    try rw [hib]
    generalize w.alloc (.cells #[.int .u8 o, .int .i64 d, .int .i64 x, .int .i64 y, .int .i64 n, .int .i64 kk, .int .i64 m] 74) = w0 at *
    obtain ⟨a0, a1, a2, a3, a4, a5, a6⟩ := row_cells HB0.out.row
    go_wp2_with (go_at_call 48; refine (HEN.out w0 HB0.out.mv HB0.out.lt).mono ?_; rintro e w1 ⟨rfl, v1, hm1, hf1⟩; have HM1 := hid hm1; have HF1 := hid hf1; clear hm1 hf1)
    go_end0
    refine ⟨rfl, v1, ?_, HF0.out.trans HF1.out⟩
    rw [HE.out]
    exact HM1.out
  · have t1 : (o == 61) = false := by simp [h61]
    have t2 : (o == 114) = false := by simp [h114]
    have HE := hid (show Sp.fol (Sp.HX H) k ⟨o, d, x, y, n, kk, m⟩ = Sp.wrkL (Sp.HX H) k ⟨o, d, x, y, n, kk, m⟩ by unfold Sp.fol; rw [if_neg h61, if_neg h114])
    clear h61 h114
    go_enter Tryz.func31, Tryz.ntmps31
    go_upto_region 1 with fail
    obtain ⟨ib, hib⟩ : ∃ ib, w.heap.size = ib := ⟨_, rfl⟩
    rw [hib] at HB0
    try rw [hib]
    generalize w.alloc (.cells #[.int .u8 o, .int .i64 d, .int .i64 x, .int .i64 y, .int .i64 n, .int .i64 kk, .int .i64 m] 74) = w0 at *
    obtain ⟨a0, a1, a2, a3, a4, a5, a6⟩ := row_cells HB0.out.row
    go_wp2_with (go_at_call 49; refine (HWK.out w0 HB0.out.mv HB0.out.lt).mono ?_; rintro e w1 ⟨rfl, v1, hm1, hf1⟩; have HM1 := hid hm1; have HF1 := hid hf1; clear hm1 hf1)
    go_end0
    refine ⟨rfl, v1, ?_, HF0.out.trans HF1.out⟩
    rw [HE.out]
    exact HM1.out
end Go.Proofs.YtccndnckceagfabGreatDoorR
