/-
  The statement on how many slots are taken, walked.
-/
import Derived.Test.YtccndnckceagfabDoorHThrW
namespace Go.Proofs.YtccndnckceagfabDoor
open Go.RowKit
namespace Sp
/-- three registers of which two meet at a time -/
def three : ByteArray := ⟨#[43, 99, 97, 98, 42, 99, 99, 97, 114, 99, 46, 46]⟩
theorem three_prog : progB (B three) three.size 0 = true := by decide +kernel
theorem three_live (r : Nat) (hr : r < 52) (q : Nat) (hq : q < 3) : (rounds (codeTo (B three) (three.size / 4)) (blksTo (B three) (three.size / 4)) (blocksTo (B three) (three.size / 4)) q r = true ↔ Want (B three) 3 (rv r) q) := by
  have hi : ∀ i, i < three.size / 4 → InsIs (B three) i := fun i hn => insIs_of (dok_of_progB three_prog i hn)
  exact live_eq three_prog hi (by decide) hr q hq
theorem three_formed : FormedR three 0 := by
  refine Or.inr (Or.inr (Or.inr ⟨by decide, three_prog, ?_, rfl⟩))
  rintro ⟨v, hv, ha, hw⟩
  obtain ⟨r, hr, rfl⟩ := let_rv hv
  have h1 := (three_live r hr 0 (by decide)).2 hw
  have key : ∀ i : _root_.Fin 52, argB (rv i.val) = false → rounds (codeTo (B three) (three.size / 4)) (blksTo (B three) (three.size / 4)) (blocksTo (B three) (three.size / 4)) 0 i.val = false := by decide +kernel
  rw [key ⟨r, hr⟩ ha] at h1
  cases h1
def s3 (k : Nat) : Bool := k == 26 || k == 27 || k == 28
def m3 (k j : Nat) : Bool := (k == 26 && (j == 27 || j == 28)) || (j == 26 && (k == 27 || k == 28))
theorem three_stands (k : Nat) (hk : k < 52) : s3 k = standsB (B three) (three.size / 4) k := by
  have key : ∀ i : _root_.Fin 52, ((List.range 3).any fun q => rdAt (B three) (reg i.val) q || wrAt (B three) (reg i.val) q) = s3 i.val := by decide +kernel
  rw [Bool.eq_iff_iff, standsB_iff, ← key ⟨k, hk⟩, List.any_eq_true]
  constructor
  · rintro ⟨q, hq, h⟩
    rw [Bool.or_eq_true] at h
    exact ⟨q, List.mem_range.1 hq, h⟩
  · rintro ⟨q, hq, h⟩
    exact ⟨q, List.mem_range.2 hq, by rw [Bool.or_eq_true]; exact h⟩
theorem three_meet (k j : Nat) (hk : k < 52) (hj : j < 52) : m3 k j = meetB (B three) (three.size / 4) k j := by
  have key : ∀ a b : _root_.Fin 52, (decide (a.val ≠ b.val) && ((rounds (codeTo (B three) (three.size / 4)) (blksTo (B three) (three.size / 4)) (blocksTo (B three) (three.size / 4)) 0 (ord a.val) && rounds (codeTo (B three) (three.size / 4)) (blksTo (B three) (three.size / 4)) (blocksTo (B three) (three.size / 4)) 0 (ord b.val)) || (List.range 2).any fun q => (wrAt (B three) (reg a.val) q && rounds (codeTo (B three) (three.size / 4)) (blksTo (B three) (three.size / 4)) (blocksTo (B three) (three.size / 4)) (q + 1) (ord b.val)) || (wrAt (B three) (reg b.val) q && rounds (codeTo (B three) (three.size / 4)) (blksTo (B three) (three.size / 4)) (blocksTo (B three) (three.size / 4)) (q + 1) (ord a.val)))) = m3 a.val b.val := by decide +kernel
  have hend : ∀ v, wrAt (B three) v 2 = false := fun v => by
    unfold wrAt wrB
    rfl
  have L := fun (r : Nat) (hr : r < 52) (q : Nat) (hq : q < 3) => (three_live (ord r) (ord_lt r) q hq).trans (by rw [rv_ord r hr])
  rw [Bool.eq_iff_iff, meetB_iff, ← key ⟨k, hk⟩ ⟨j, hj⟩]
  simp only [Bool.and_eq_true, Bool.or_eq_true, decide_eq_true_eq, List.any_eq_true, List.mem_range]
  rw [L k hk 0 (by omega), L j hj 0 (by omega)]
  constructor
  · rintro ⟨hne, h⟩
    refine ⟨fun e => hne (regs_inj hk hj e), ?_⟩
    rcases h with h | ⟨q, hq, h⟩
    · exact Or.inl h
    · rw [L j hj (q + 1) (by omega), L k hk (q + 1) (by omega)] at h
      exact Or.inr ⟨q, show q < 3 by omega, h⟩
  · rintro ⟨hne, h⟩
    refine ⟨fun e => hne (by rw [e]), ?_⟩
    rcases h with h | ⟨q, hq, h⟩
    · exact Or.inl h
    · have hq3 : q < 3 := hq
      by_cases e : q = 2
      · subst e
        rw [hend, hend] at h
        rcases h with ⟨h, _⟩ | ⟨h, _⟩ <;> cases h
      · refine Or.inr ⟨q, by omega, ?_⟩
        rw [L j hj (q + 1) (by omega), L k hk (q + 1) (by omega)]
        exact h
theorem three_one : CoreR three 1 ⟨#[97, 98, 99]⟩ 0 := by
  refine Or.inr (Or.inr ⟨three_formed, by omega, rfl, s3, ?_, by decide +kernel⟩)
  refine IsCore.congr (S := s3) (M := m3) three_stands three_meet ⟨fun _ _ h => h, fun r hr h => ?_, fun D hD _ => hD⟩
  have key : ∀ i : _root_.Fin 52, s3 i.val = true → 1 ≤ cT (fun x => m3 i.val x && s3 x) 52 := by decide +kernel
  have h1 : 1 ≤ cT (fun x => m3 r x && s3 x) 52 := key ⟨r, hr⟩ h
  omega
theorem three_two : CoreR three 2 ⟨#[]⟩ 0 := by
  have p3 : Peel s3 m3 2 (fun x => ((s3 x && x != 27) && x != 26) && x != 28) := (((Peel.start s3 m3 2).away 27 (by decide +kernel)).away 26 (by decide +kernel)).away 28 (by decide +kernel)
  have hno : ∀ i : _root_.Fin 52, (((s3 i.val && i.val != 27) && i.val != 26) && i.val != 28) = false := by decide +kernel
  have hcore := p3.fin (fun r hr h => by
    have h' : (((s3 r && r != 27) && r != 26) && r != 28) = true := h
    have h2 : (((s3 r && r != 27) && r != 26) && r != 28) = false := hno ⟨r, hr⟩
    rw [h2] at h'
    cases h')
  exact Or.inr (Or.inr ⟨three_formed, by omega, rfl, _, IsCore.congr three_stands three_meet hcore, by decide +kernel⟩)
end Sp
theorem rgs_mac2 (k : Int) : Sp.macB (Sp.rgs k) = true := by
  have := rgs_bd k
  simp [Sp.macB]
  omega
theorem core_len {s : ByteArray} {c : Int} {t : ByteArray} {e : Int} (h : Sp.CoreR s c t e) : t.size ≤ 100000 := by
  rcases h with ⟨_, _, h⟩ | ⟨_, _, _, h⟩ | ⟨_, _, _, P, _, h⟩
  · rw [h]; decide
  · rw [h]; decide
  · rw [h]
    have := Sp.letT_size P 52
    omega

set_option maxRecDepth 20000 in
set_option maxHeartbeats 8000000 in
theorem thrifty_any (s : ByteArray) (k y : Int) (w : World) (hs : s.size ≤ maxLen) (hk : -9223372036854775808 ≤ k ∧ k ≤ 9223372036854775807) (hy : -9223372036854775808 ≤ y ∧ y ≤ 9223372036854775807) (hA : ArgsAt w) :
    Calls Tryd.prog 4 #[.string s, .int .i64 k, .int .i64 y] w fun e w' => e = .returned (.bool true) ∧ Below w.heap.size w w' := by
  have HA := hid hA
  have hlt0 := hA.lt
  have hAX : Hid (∀ W, Below w.heap.size w W → ArgsAt W) := hid (fun W hW => HA.out.of_block (hW.block 0 hlt0))
  have HRG := hid (fun W => registers_any k W hk)
  have HMC := hid (rgs_mac2 k)
  have hkb := rgs_bd k
  generalize Sp.rgs k = k1 at *
  have HPK := hid (fun W => pick_any y 51 W hy (by omega))
  have hpk := Sp.pk_bd y 51 (by omega)
  generalize Sp.pk y 51 = n1 at *
  have HCOR := hid (fun (S : ByteArray) (c : Int) (hS : S.size ≤ maxLen) W (hW : Below w.heap.size w W) => pcore_any S c W hS (hAX.out W hW))
  have HCMP := hid (fun W (hW : Below w.heap.size w W) => compile_any s k1 W hs (hAX.out W hW))
  clear hA hk hy
  generalize hN : w.heap.size = N at *
  unfold CorePost at HCOR
  unfold CompPost at HCMP
  have HC1 := hid (HCOR.out Sp.three 1 (by decide) w (by rw [← hN]; exact Below.refl _ _))
  go_enter Tryd.func4, Tryd.ntmps4
  go_upto_region 2 with (go_at_call 11; refine HC1.out.mono ?_; rintro e w1 ⟨t1, f1, rfl, hc1, hb1⟩; obtain ⟨e1, e2⟩ := hc1.det Sp.three_one; subst e1; subst e2; have HB1 := hid (show Below N w w1 by rw [← hN]; exact hb1); clear hc1 hb1)
  clear HC1
  have hs1 : N ≤ w1.heap.size := by have := HB1.out.size; omega
  have HC2 := hid (HCOR.out Sp.three 2 (by decide) w1 HB1.out)
  go_upto_region 5 with (go_at_call 11; refine HC2.out.mono ?_; rintro e w2 ⟨t2, f2, rfl, hc2, hb2⟩; obtain ⟨e1, e2⟩ := hc2.det Sp.three_two; subst e1; subst e2; have HB2 := hid (HB1.out.trans (hb2.mono hs1)); have hs2 := Nat.le_trans hs1 hb2.size; clear hc2 hb2)
  clear HC2 HB1 hs1
  have HC3 := hid (HCOR.out s (1 + n1) hs w2 HB2.out)
  go_upto_region 8 with (first | (go_at_call 6; refine (HRG.out _).mono ?_; rintro e w' ⟨rfl, rfl⟩) | (go_at_call 7; refine (HPK.out _).mono ?_; rintro e w' ⟨rfl, rfl⟩) | (go_at_call 11; refine HC3.out.mono ?_; rintro e w3 ⟨t3, f3, rfl, hc3, hb3⟩; have HK3 := hid hc3; have HB3 := hid (HB2.out.trans (hb3.mono hs2)); have hs3 := Nat.le_trans hs2 hb3.size; clear hc3 hb3))
  clear HC3 HB2 hs2 HRG HPK
  have HC4 := hid (HCOR.out s (1 + n1 + 1) hs w3 HB3.out)
  go_upto_region 9 with (go_at_call 11; refine HC4.out.mono ?_; rintro e w4 ⟨t4, f4, rfl, hc4, hb4⟩; obtain ⟨e1, e2⟩ := Sp.coreR_less (show 1 ≤ 1 + n1 ∧ 1 + n1 ≤ 51 by omega) HK3.out hc4; subst e1; have HWT := hid e2; have HL4 := hid (core_len hc4); have HB4 := hid (HB3.out.trans (hb4.mono hs3)); have hs4 := Nat.le_trans hs3 hb4.size; clear e2 hc4 hb4)
  clear HC4 HB3 hs3
  have HWI := hid (fun (W : World) => within_any t4 t3 W HL4.out (core_len HK3.out))
  go_upto_region 10 with (go_at_call 12; refine (HWI.out _).mono ?_; rintro e w5 ⟨r, rfl, hr, _, hb5⟩; have er : r = true := hr.2 HWT.out; subst er; have HB5 := hid (HB4.out.trans (hb5.mono hs4)); have hs5 := Nat.le_trans hs4 hb5.size; clear hr hb5)
  clear HWI HWT HB4 hs4 HL4 HK3
  have HCM := hid (HCMP.out w5 HB5.out)
  go_upto_region 13 with (go_at_call 10; refine HCM.out.mono ?_; rintro e w6 ⟨t, f6, rfl, hcp, hb6⟩; have HCP := hid hcp; have HB6 := hid (HB5.out.trans (hb6.mono hs5)); have hs6 := Nat.le_trans hs5 hb6.size; clear hcp hb6)
  clear HCM HCMP HB5 hs5
  by_cases h0 : f6 = 0
  case neg =>
    have ht : t = ⟨#[]⟩ := by
      rcases HCP.out with ⟨_, _, h⟩ | ⟨_, _, h, _⟩ | ⟨_, _, _, h, _⟩
      · exact h
      · exact h
      · exact absurd h h0
    subst ht
    have tf : (f6 != 0) = true := by simp [h0]
    go_wp2_with fail
    go_ret
    exact ⟨rfl, HB6.out⟩
  subst h0
  have hcp : Sp.FormedR s 0 ∧ ∃ H K, MadeOf s t k1 H K := by
    rcases HCP.out with ⟨h1, _⟩ | ⟨_, _, _, h4⟩ | ⟨_, h2, _, _, h5⟩
    · exact absurd rfl h1
    · omega
    · exact ⟨h2, h5⟩
  obtain ⟨hfs, H, K, hmd⟩ := hcp
  have hz := hmd.md.size
  have tne : t.toList.isEmpty = false := by
    rw [ByteArray.toList_eq]
    cases h : t.data.toList with
    | nil =>
      have h1 : t.data.toList.length = 0 := by rw [h]; rfl
      rw [Array.length_toList] at h1
      exact absurd (show t.size = 0 from h1) (by omega)
    | cons => rfl
  have HCS := hid (fun (h : ByteArray) (e : Int) (hc : Sp.CoreR s (k1 - 2) h e) => core_size hkb hfs hmd hc)
  have HFW := hid (fun (l : ByteArray) (hl : Sp.NmR t l) => named_few hkb hfs.zero.2.1 hmd hl)
  have HC7 := hid (HCOR.out s (k1 - 2) hs w6 HB6.out)
  have HNM := hid (fun (W : World) => named_any t W hz.2)
  clear hfs hmd HCP hz
  go_upto_region 16 with (go_at_call 11; refine HC7.out.mono ?_; rintro e w7 ⟨h7, f7, rfl, hc7, hb7⟩; obtain ⟨e1, e2⟩ := HCS.out h7 f7 hc7; subst e1; have HSZ := hid e2; have HB7 := hid (HB6.out.trans (hb7.mono hs6)); have hs7 := Nat.le_trans hs6 hb7.size; clear e2 hc7 hb7)
  clear HC7 HB6 hs6 HCS HCOR
  go_upto_region 17 with (go_at_call 13; refine (HNM.out _).mono ?_; rintro e w8 ⟨l, rfl, hl, hb8⟩; have hle : l.size ≤ h7.size := (by rw [HSZ.out]; exact HFW.out l hl); have HB8 := hid (HB7.out.trans (hb8.mono hs7)); clear hl hb8)
  have tle : decide ((l.size : Int) ≤ (h7.size : Int)) = true := by simp; omega
  go_wp2_with fail
  go_ret
  exact ⟨by first | rfl | simp, HB8.out⟩
end Go.Proofs.YtccndnckceagfabDoor
