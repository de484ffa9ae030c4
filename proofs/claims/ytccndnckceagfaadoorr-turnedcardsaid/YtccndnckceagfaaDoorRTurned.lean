/-
  The statement on registers under other names, walked.
-/
import Derived.Test.YtccndnckceagfaaDoorRTurnW
import Derived.Test.YtccndnckceagfaaDoorRKeep4
namespace Go.Proofs.YtccndnckceagfaaDoorR
open Go.RowKit
namespace Sp
/-- two instructions: d becomes a + b, and is returned -/
def two (d : UInt8) : ByteArray := ⟨#[43, d, 97, 98, 114, d, 46, 46]⟩
theorem two_want (d : UInt8) (v : Int) (k : Nat) (h : wantN (B (two d)) 2 v k 0 = true) : v = 97 ∨ v = 98 := by
  have b0 : B (two d) (4 * 0) = 43 := rfl
  have b1 : B (two d) (4 * 0 + 1) = (d.toNat : Int) := rfl
  have b2 : B (two d) (4 * 0 + 2) = 97 := rfl
  have b3 : B (two d) (4 * 0 + 3) = 98 := rfl
  have c0 : B (two d) (4 * 1) = 114 := rfl
  have c1 : B (two d) (4 * 1 + 1) = (d.toNat : Int) := rfl
  have r0 : rdAt (B (two d)) v 0 = ((97 : Int) == v || (98 : Int) == v) := by
    unfold rdAt rdB
    rw [b0, b2, b3]
    rfl
  have w0 : wrAt (B (two d)) v 0 = ((d.toNat : Int) == v) := by
    unfold wrAt wrB
    rw [b0, b1]
    rfl
  have r1 : rdAt (B (two d)) v 1 = ((d.toNat : Int) == v) := by
    unfold rdAt rdB
    rw [c0, c1]
    rfl
  have n0 : nextL (B (two d)) 2 0 = [1] := by
    unfold nextL
    rw [b0]
    rfl
  have n1 : nextL (B (two d)) 2 1 = [] := by
    unfold nextL
    rw [c0]
    rfl
  have key : rdAt (B (two d)) v 0 = true → v = 97 ∨ v = 98 := fun e => by
    rw [r0, Bool.or_eq_true, beq_iff_eq, beq_iff_eq] at e
    omega
  cases k with
  | zero => exact key h
  | succ k =>
    simp only [wantN, Bool.or_eq_true, Bool.and_eq_true] at h
    rcases h with h | ⟨hw, ha⟩
    · exact key h
    · rw [n0] at ha
      have h1 : wantN (B (two d)) 2 v k 1 = true := by simpa using ha
      have : rdAt (B (two d)) v 1 = true := by
        cases k with
        | zero => exact h1
        | succ k =>
          simp only [wantN, n1, List.any_nil, Bool.and_false, Bool.or_false] at h1
          exact h1
      rw [r1] at this
      rw [w0, this] at hw
      cases hw
theorem two_size (d : UInt8) : (two d).size / 4 = 2 := by
  have h : (two d).size = 8 := rfl
  rw [h]
theorem two_check (d : UInt8) (hp : progB (B (two d)) (two d).size 0 = true) (hs : ∀ i, i < 2 → shwAt (B (two d)) i = false) : CheckR (two d) 2 0 := by
  have hf : FormedR (two d) 0 := by
    refine Or.inr (Or.inr (Or.inr ⟨show 8 ≤ 256 by omega, hp, ?_, rfl⟩))
    rintro ⟨v, _, ha, k, hk⟩
    rw [two_size] at hk
    have := two_want d v k hk
    rcases this with rfl | rfl
    · exact absurd ha (by decide)
    · exact absurd ha (by decide)
  exact Or.inr (Or.inr ⟨hf, by rw [two_size]; exact hs, by rw [two_size]; rfl, rfl⟩)
theorem two_c : CheckR (two 99) 2 0 := two_check 99 (by decide) (fun i hi => by
  have : i = 0 ∨ i = 1 := by omega
  rcases this with rfl | rfl <;> decide)
theorem two_z : CheckR (two 122) 2 0 := two_check 122 (by decide) (fun i hi => by
  have : i = 0 ∨ i = 1 := by omega
  rcases this with rfl | rfl <;> decide)
end Sp

set_option maxRecDepth 20000 in
set_option maxHeartbeats 8000000 in
theorem turned_any (s : ByteArray) (I : Sp.Inp) (n y c : Int) (w : World) (hs : s.size ≤ maxLen) (hI : I.wide) (hn : -9223372036854775808 ≤ n ∧ n ≤ 9223372036854775807) (hy : -9223372036854775808 ≤ y ∧ y ≤ 9223372036854775807) (hc : -9223372036854775808 ≤ c ∧ c ≤ 9223372036854775807) (hA : ArgsAt w) (hT : Tab w) :
    Calls Tryd.prog 11 #[.string s, .agg (inA I), .int .i64 n, .int .i64 y, .int .i64 c] w fun e w' => e = .returned (.bool true) ∧ Below w.heap.size w w' := by
  have hsz := inA_size I
  have hlt1 := hT.lt
  have HA := hid hA
  have HT := hid hT
  have HRI := hid (in_row w I 29)
  have HBB := hid ((Below.refl w.heap.size w).alloc (Nat.le_refl _) (.cells (inA I) 29))
  have hz0 : (w.alloc (.cells (inA I) 29)).heap.size = w.heap.size + 1 := by simp
  have HTM := hid (tame_any I (w.alloc (.cells (inA I) 29)) hI)
  have HPN := hid (fun W => pick_any n 20001 W hn (by omega))
  have HPY := hid (fun W => pick_any y 24 W hy (by omega))
  have HPC := hid (fun W => pick_any c 52 W hc (by omega))
  have hpn := Sp.pk_bd n 20001 (by omega)
  have hpy := Sp.pk_bd y 24 (by omega)
  have hpc := Sp.pk_bd c 52 (by omega)
  generalize hn1 : Sp.pk n 20001 = n1 at *
  generalize hy1 : Sp.pk y 24 = y1 at *
  generalize hc1 : Sp.pk c 52 = c1 at *
  have HTD := hid (fun W => kturned_any s y1 W hs hpy.1 hpy.2)
  have HTR := hid (Sp.tnT_trn s y1 hpy.1 hpy.2)
  have HTZ := hid (Sp.tnT_size s y1)
  have hst : (Sp.tnT s y1).size ≤ maxLen := by rw [Sp.tnT_size]; exact hs
  have HCHK : Hid (∀ (S : ByteArray) (W : World), S.size ≤ maxLen → Below w.heap.size w W → Calls Tryd.prog 12 #[.string S] W fun e w' => ∃ n f : Int, e = .returned (.tuple #[.int .i64 n, .int .i64 f]) ∧ Sp.CheckR S n f ∧ Below W.heap.size W w') := hid (fun S W hS hW => check_any S W hS (HA.out.of_block (hW.block 0 (by omega))))
  have HRUN : Hid (∀ (S : ByteArray) (W : World), S.size ≤ maxLen → Below w.heap.size w W → Calls Tryd.prog 14 #[.string S, .agg (inA (Sp.tm I)), .int .i64 n1] W fun e w' => RunPost S (Sp.tm I) n1 W e w') := hid (fun S W hS hW => prun_any S (Sp.tm I) n1 W hS (HA.out.of_block (hW.block 0 (by omega))) (HT.out.of_block (hW.block 1 (by omega))))
  have HCOR : Hid (∀ (S : ByteArray) (W : World), S.size ≤ maxLen → Below w.heap.size w W → Calls Tryd.prog 28 #[.string S, .int .i64 (1 + c1)] W fun e w' => CorePost S (1 + c1) W e w') := hid (fun S W hS hW => pcore_any S (1 + c1) W hS (HA.out.of_block (hW.block 0 (by omega))))
  clear hA hT hI hn hy hc hn1 hy1 hc1
  generalize hN : w.heap.size = N at *
  generalize Sp.tnT s y1 = t at *
  go_enter Tryd.func11, Tryd.ntmps11
  go_upto_region 3 with (first | (refine wpList_load_in rfl (.tmp 6) rfl N I (by first | rfl | simp [Act.eval]) HRI.out ?_) | (go_at_call 17; refine HTM.out.mono ?_; rintro e w1 ⟨rfl, hb1⟩; rw [hz0] at hb1; have HR1 := hid (HRI.out.of_block (hb1.block N (by omega))); have HB1 := hid (HBB.out.trans (hb1.mono (by omega))); have hs1 := hb1.size; rw [hz0] at hs1; clear hb1) | (refine wpList_store_in rfl (.tmp 6) (.tmp 27) rfl N (Sp.tm I) I (by first | rfl | simp [Act.eval]) (by rfl) HR1.out ?_; intro w2 ho2 ho2'; have HI2 := hid ho2; have HB2 := hid (HB1.out.trans (ho2'.below (Nat.le_refl N))); have hs2 : N + 1 ≤ w2.heap.size := (by rw [ho2'.size]; exact hs1); clear ho2 ho2') | (go_at_call 18; refine (HPN.out _).mono ?_; rintro e w' ⟨rfl, rfl⟩))
  clear HR1 HB1 HRI HBB HTM hs1 hz0
  go_upto_region 4 with (first | (go_at_call 18; refine (HPY.out _).mono ?_; rintro e w' ⟨rfl, rfl⟩) | (go_at_call 30; refine (HTD.out _).mono ?_; rintro e w3 ⟨rfl, hb3⟩; have HI3 := hid (HI2.out.of_block (hb3.block N (by omega))); have HB3 := hid (HB2.out.trans (hb3.mono (by omega))); have hs3 : N + 1 ≤ w3.heap.size := Nat.le_trans hs2 hb3.size; clear hb3))
  clear HI2 HB2 hs2 HTD
  have HK1 := hid (HCHK.out (Sp.two 99) w3 (by decide) HB3.out)
  go_upto_region 5 with (go_at_call 12; refine HK1.out.mono ?_; rintro e w4 ⟨m4, f4, rfl, hr4, hb4⟩; obtain ⟨e1, e2⟩ := hr4.eq Sp.two_c; subst e1 e2; have HI4 := hid (HI3.out.of_block (hb4.block N (by omega))); have HB4 := hid (HB3.out.trans (hb4.mono (by omega))); have hs4 : N + 1 ≤ w4.heap.size := Nat.le_trans hs3 hb4.size; clear hr4 hb4)
  clear HI3 HB3 hs3 HK1
  have HK2 := hid (HCHK.out (Sp.two 122) w4 (by decide) HB4.out)
  go_upto_region 8 with (go_at_call 12; refine HK2.out.mono ?_; rintro e w5 ⟨m5, f5, rfl, hr5, hb5⟩; obtain ⟨e1, e2⟩ := hr5.eq Sp.two_z; subst e1 e2; have HI5 := hid (HI4.out.of_block (hb5.block N (by omega))); have HB5 := hid (HB4.out.trans (hb5.mono (by omega))); have hs5 : N + 1 ≤ w5.heap.size := Nat.le_trans hs4 hb5.size; clear hr5 hb5)
  clear HI4 HB4 hs4 HK2
  have HK3 := hid (HCHK.out s w5 hs HB5.out)
  go_upto_region 9 with (go_at_call 12; refine HK3.out.mono ?_; rintro e w6 ⟨m6, f6, rfl, hr6, hb6⟩; have HCS := hid hr6; have HI6 := hid (HI5.out.of_block (hb6.block N (by omega))); have HB6 := hid (HB5.out.trans (hb6.mono (by omega))); have hs6 : N + 1 ≤ w6.heap.size := Nat.le_trans hs5 hb6.size; clear hr6 hb6)
  clear HI5 HB5 hs5 HK3
  have HK4 := hid (HCHK.out t w6 hst HB6.out)
  go_upto_region 10 with (go_at_call 12; refine HK4.out.mono ?_; rintro e w7 ⟨m7, f7, rfl, hr7, hb7⟩; obtain ⟨e1, e2⟩ := Sp.check_trn HTZ.out HTR.out HCS.out hr7; subst e1 e2; have HI7 := hid (HI6.out.of_block (hb7.block N (by omega))); have HB7 := hid (HB6.out.trans (hb7.mono (by omega))); have hs7 : N + 1 ≤ w7.heap.size := Nat.le_trans hs6 hb7.size; clear hr7 hb7)
  clear HI6 HB6 hs6 HK4 HCS HCHK
  have HR1 := hid (HRUN.out s w7 hs HB7.out)
  go_upto_region 11 with (first | (refine wpList_load_in rfl (.tmp 6) rfl N (Sp.tm I) (by rfl) HI7.out ?_) | (go_at_call 14; refine HR1.out.mono ?_; rintro e w8 ⟨X, f8, rfl, hr8, hb8⟩; have HRX := hid hr8; have HB8 := hid hb8; clear hr8 hb8) | (refine wpList_alloc_out rfl rfl ?_; intro w9 ho9 hb9 hz9; have HO9 := hid ho9; have HB9 := hid hb9; clear ho9 hb9) | (refine wpList_store_out rfl (.tmp 16) (.tmp 71) rfl w8.heap.size 0 X st0 (by rfl) (by rfl) HO9.out ?_; intro w10 ho10 ho10'; have HX10 := hid ho10; have HY10 := hid ho10'; clear ho10 ho10'))
  have hs8 := HB8.out.size
  have hs10 : w10.heap.size = w8.heap.size + 1 := by rw [HY10.out.size, hz9]
  have HW10 := hid (((HB7.out.trans (HB8.out.mono (by omega))).trans (HB9.out.mono (by omega))).trans (HY10.out.below (by omega)))
  have HI10 := hid (((HI7.out.of_block (HB8.out.block N (by omega))).of_block (HB9.out.block N (by omega))).of_block (HY10.out.block N (by omega)))
  clear HO9 HB9 HB8 HY10 HR1 hz9 HI7 HB7
  generalize w8.heap.size = bx at *
  have hbx : N ≤ bx ∧ bx < w10.heap.size := by omega
  have HR2 := hid (HRUN.out t w10 hst HW10.out)
  go_upto_region 12 with (first | (refine wpList_load_in rfl (.tmp 6) rfl N (Sp.tm I) (by rfl) HI10.out ?_) | (go_at_call 14; refine HR2.out.mono ?_; rintro e w11 ⟨V, f11, rfl, hr11, hb11⟩; have HRV := hid hr11; have HB11 := hid hb11; clear hr11 hb11) | (refine wpList_alloc_out rfl rfl ?_; intro w12 ho12 hb12 hz12; have HO12 := hid ho12; have HB12 := hid hb12; clear ho12 hb12) | (refine wpList_store_out rfl (.tmp 18) (.tmp 78) rfl w11.heap.size 0 V st0 (by rfl) (by rfl) HO12.out ?_; intro w13 ho13 ho13'; have HV13 := hid ho13; have HY13 := hid ho13'; clear ho13 ho13'))
  have hs11 := HB11.out.size
  have hs13 : w13.heap.size = w11.heap.size + 1 := by rw [HY13.out.size, hz12]
  have HW13 := hid (((HW10.out.trans (HB11.out.mono (by omega))).trans (HB12.out.mono (by omega))).trans (HY13.out.below (by omega)))
  have HX13 := hid (((HX10.out.of_block (HB11.out.block bx (by omega))).of_block (HB12.out.block bx (by omega))).of_block (HY13.out.block bx (by omega)))
  obtain ⟨ee, e1, e2, e3, e4, e5⟩ := Sp.run_trn HTZ.out HTR.out HRX.out HRV.out
  subst ee
  have HEQ := hid (And.intro e1 (And.intro e2 (And.intro e3 (And.intro e4 e5))))
  clear HO12 HB12 HB11 HY13 HR2 hz12 HI10 HW10 HX10 HRX HRV HRUN e1 e2 e3 e4 e5
  generalize w11.heap.size = bv at *
  have hbv : N ≤ bv ∧ bv < w13.heap.size ∧ bx < w13.heap.size ∧ bx ≠ bv := by omega
  have HC1 := hid (HCOR.out s w13 hs HW13.out)
  go_upto_region 13 with (first | (go_at_call 18; refine (HPC.out _).mono ?_; rintro e w' ⟨rfl, rfl⟩) | (go_at_call 28; refine HC1.out.mono ?_; rintro e w14 ⟨l14, f14, rfl, hr14, hb14⟩; have HCX := hid hr14; have HX14 := hid (HX13.out.of_block (hb14.block bx (by omega))); have HV14 := hid (HV13.out.of_block (hb14.block bv (by omega))); have HW14 := hid (HW13.out.trans (hb14.mono (by omega))); have hs14 := hb14.size; clear hr14 hb14))
  clear HC1 HX13 HV13 HW13
  have HC2 := hid (HCOR.out t w14 hst HW14.out)
  go_upto_region 14 with (first | (go_at_call 18; refine (HPC.out _).mono ?_; rintro e w' ⟨rfl, rfl⟩) | (go_at_call 28; refine HC2.out.mono ?_; rintro e w15 ⟨l15, f15, rfl, hr15, hb15⟩; have HCV := hid hr15; have HX15 := hid (HX14.out.of_block (hb15.block bx (by omega))); have HV15 := hid (HV14.out.of_block (hb15.block bv (by omega))); have HW15 := hid (HW14.out.trans (hb15.mono (by omega))); have hs15 := hb15.size; clear hr15 hb15))
  clear HC2 HX14 HV14 HW14 HCOR
  obtain ⟨ef, el⟩ := Sp.core_trn HTZ.out HTR.out HCX.out HCV.out
  subst ef
  clear HCX HCV
  have hlen : ((l14.size : Int) != (l15.size : Int)) = false := by simp [el]
  have hs15' : N ≤ w15.heap.size := by have := HW15.out.size; omega
  obtain ⟨q1, q2, q3, q4, q5⟩ := HEQ.out
  have HVP := hid (show ∀ j, j < 8 → w15.cell? ⟨bv, 2 + j, none⟩ = some (.int .i64 (X.pub j)) from fun j hj => by rw [q3]; exact HV15.out.pub j hj)
  have HQ := hid (And.intro q1 (And.intro q2 (And.intro q4 q5)))
  have HK1 := hid (kwords_same X.pub w15)
  clear q1 q2 q3 q4 q5 HEQ
  go_wp2_with (first | (refine wpList_load8 rfl (.tmp 96) rfl bx 2 X.pub (by rfl) (fun j hj => HX15.out.pub j hj) ?_) | (refine wpList_load8 rfl (.tmp 98) rfl bv 2 X.pub (by rfl) (fun j hj => HVP.out j hj) ?_) | (go_at_call 19; refine HK1.out.mono ?_; rintro e w17 ⟨rfl, hb17⟩; have HX18 := hid (HX15.out.of_block (hb17.block bx (by omega))); have HV18 := hid (HV15.out.of_block (hb17.block bv (by omega))); have HVS := hid (show ∀ j, j < 8 → w17.cell? ⟨bv, 10 + j, none⟩ = some (.int .i64 (X.sec j)) from fun j hj => (by rw [HQ.out.2.2.1]; exact HV18.out.sec j hj)); have HK2 := hid (kwords_same X.sec w17); have HW17 := hid (HW15.out.trans (hb17.mono hs15')); have hs17 := hb17.size; clear HK1 hb17) | (refine wpList_load8 rfl (.tmp 101) rfl bx 10 X.sec (by rfl) (fun j hj => HX18.out.sec j hj) ?_) | (refine wpList_load8 rfl (.tmp 103) rfl bv 10 X.sec (by rfl) (fun j hj => HVS.out j hj) ?_) | (go_at_call 19; refine HK2.out.mono ?_; rintro e w18 ⟨rfl, hb18⟩; have HX19 := hid (HX18.out.of_block (hb18.block bx (by omega))); have HV19 := hid (HV18.out.of_block (hb18.block bv (by omega))); have HW18 := hid (HW17.out.trans (hb18.mono (by omega))); clear hb18; have dx0 := HX19.out.status; have dx1 := HX19.out.value; have dx4 := HX19.out.trace; have dy0 := HV19.out.status; have dy1 := HV19.out.value; have dy4 := HV19.out.trace; rw [← HQ.out.1] at dy0; rw [← HQ.out.2.1] at dy1; rw [← HQ.out.2.2.2] at dy4))
  go_ret
  exact ⟨by simp, HW18.out⟩
end Go.Proofs.YtccndnckceagfaaDoorR
