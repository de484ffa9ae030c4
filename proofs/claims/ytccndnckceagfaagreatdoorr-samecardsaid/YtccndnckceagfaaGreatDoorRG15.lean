/-
  The program's Compile: what it answers.
  The statement on what Compile makes, walked.
-/
import Derived.Test.YtccndnckceagfaaGreatDoorRHMak5
import Derived.Test.YtccndnckceagfaaGreatDoorRHSnd7
namespace Go.Proofs.YtccndnckceagfaaGreatDoorR
open Go.RowKit
open Sp in
theorem MI.bd {k : Int} (hk : 6 ≤ k ∧ k ≤ 10) {nb : Nat} {i : Ins} (h : MI k nb i) : i.d ≤ 1000 ∧ i.x ≤ 1000 ∧ i.y ≤ 1000 := by
  cases h with
  | ar o d x y ha hd hx hy => unfold Rg at hd hx hy; refine ⟨?_, ?_, ?_⟩ <;> (simp only []; omega)
  | num d n hd hn => unfold Rg at hd; refine ⟨?_, ?_, ?_⟩ <;> (simp only []; omega)
  | two o d x ho hd hx => unfold Rg at hd hx; refine ⟨?_, ?_, ?_⟩ <;> (simp only []; omega)
  | sto o x y ho hx hy => unfold Rg at hx hy; refine ⟨?_, ?_, ?_⟩ <;> (simp only []; omega)
  | jmp t ht => refine ⟨?_, ?_, ?_⟩ <;> (simp only []; omega)
  | cnd x t u hx ht hu => unfold Rg at hx; refine ⟨?_, ?_, ?_⟩ <;> (simp only []; omega)
  | ret => refine ⟨?_, ?_, ?_⟩ <;> (simp only []; omega)
  | put d x hd hx => unfold Rg at hx; refine ⟨?_, ?_, ?_⟩ <;> (simp only []; omega)
  | get d x hd hx => unfold Rg at hd; refine ⟨?_, ?_, ?_⟩ <;> (simp only []; omega)
  | clr d hd => unfold Rg at hd; refine ⟨?_, ?_, ?_⟩ <;> (simp only []; omega)
/-- the homes of a program that was read -/
structure HomesOf (s : ByteArray) (k : Int) (H : Nat → Int) (K : Nat → Bool) : Prop where
  hom : Sp.Homes k (Sp.codeTo (Sp.B s) (s.size / 4)) (Sp.blksTo (Sp.B s) (s.size / 4)) (Sp.HX H) (Sp.lvX (Sp.rounds (Sp.codeTo (Sp.B s) (s.size / 4)) (Sp.blksTo (Sp.B s) (s.size / 4)) (Sp.blocksTo (Sp.B s) (s.size / 4))) (Sp.codeTo (Sp.B s) (s.size / 4)).length)
  few : Sp.cT (fun r => decide (10 ≤ H r)) 52 ≤ Sp.cT K 52
  core : Sp.IsCore (Sp.standsB (Sp.B s) (s.size / 4)) (Sp.meetB (Sp.B s) (s.size / 4)) (k - 2) (fun n => K (Sp.ord n))
theorem src_rd {s : ByteArray} (hp : Sp.progB (Sp.B s) s.size 0 = true) : Sp.Rd 0 s (Sp.codeTo (Sp.B s) (s.size / 4)) (Sp.blksTo (Sp.B s) (s.size / 4)) := by
  have h := Sp.rd_of 0 (Int.le_refl 0) s hp
  rw [src_eq hp] at h
  exact h
open Sp in
theorem homesOf {s : ByteArray} (hp : progB (B s) s.size 0 = true) (hu : ¬ Unset (B s) (s.size / 4)) {k : Int} (hk : 6 ≤ k ∧ k ≤ 10) {c : Nat} (hc : (c : Int) = k - 2) {K : Nat → Bool} {tk : List Nat}
    (h : Peeled (codeTo (B s) (s.size / 4)) (blksTo (B s) (s.size / 4)) (blocksTo (B s) (s.size / 4)) c K tk) : HomesOf s k (hmsOf (codeTo (B s) (s.size / 4)) (blksTo (B s) (s.size / 4)) (blocksTo (B s) (s.size / 4)) c K tk) K := by
  obtain ⟨hpt, hco⟩ := h
  have hc10 : c ≤ 10 := by omega
  have hc4 : 4 ≤ c := by omega
  unfold hmsOf
  have hlen : (codeTo (B s) (s.size / 4)).length = s.size / 4 := codeTo_len _ _
  obtain ⟨G, hG⟩ : ∃ G, G = ofZ (ofTo (codeTo (B s) (s.size / 4)) (rounds (codeTo (B s) (s.size / 4)) (blksTo (B s) (s.size / 4)) (blocksTo (B s) (s.size / 4))) (codeTo (B s) (s.size / 4)).length (codeTo (B s) (s.size / 4)).length) (rounds (codeTo (B s) (s.size / 4)) (blksTo (B s) (s.size / 4)) (blocksTo (B s) (s.size / 4)) 0) 52 := ⟨_, rfl⟩
  rw [← hG] at hpt hco ⊢
  obtain ⟨g1, g2⟩ := graph_of hp (G := G) (by rw [hG, hlen])
  have hM : ∀ a b, a < 52 → b < 52 → G (52 + a * 52 + b) = G (52 + b * 52 + a) := by
    intro a b ha hb
    rw [Bool.eq_iff_iff, g2 a b ha hb, g2 b a hb ha]
    exact ⟨Meet.symm, Meet.symm⟩
  have hMr : ∀ a, a < 52 → G (52 + a * 52 + a) = false := by
    intro a ha
    cases hx : G (52 + a * 52 + a)
    · rfl
    · exact absurd rfl ((g2 a a ha ha).1 hx).1
  have h0 : HomeOf (fun a b => G (52 + a * 52 + b)) c (fun _ => false) (fun _ => -1) := ⟨fun _ _ _ => rfl, fun _ _ h => (by cases h), fun _ _ _ _ h => (by cases h)⟩
  have hnd : (coreL K).Nodup := by
    unfold coreL
    exact List.Pairwise.filter _ List.nodup_range
  have h1 := home_core hM hMr hc10 (coreL K) _ _ h0 (fun r hr => by
    unfold coreL at hr
    rw [List.mem_filter, List.mem_range] at hr
    exact ⟨hr.1, rfl⟩) hnd
  have h1' : HomeOf (fun a b => G (52 + a * 52 + b)) c K ((coreL K).foldl (oneH (fun a b => G (52 + a * 52 + b)) c) (fun _ => -1)) := h1.congr (fun r hr => by
    rw [Bool.false_or, Bool.eq_iff_iff, List.contains_iff_mem]
    unfold coreL
    rw [List.mem_filter, List.mem_range]
    exact ⟨fun x => x.2, fun x => ⟨hr, x⟩⟩)
  obtain ⟨h2, h3⟩ := home_taken hM hMr hc10 hpt _ h1'
  rw [List.foldl_append]
  generalize tk.reverse.foldl (oneH (fun a b => G (52 + a * 52 + b)) c) ((coreL K).foldl (oneH (fun a b => G (52 + a * 52 + b)) c) (fun _ => -1)) = Hf at *
  obtain ⟨a1, a2, _⟩ := homes_of hp hu hk hc rfl rfl rfl rfl hG h2
  obtain ⟨b1, b2, b3⟩ := seat_ok hc4 hc10 a2 a1 h2 4 (by omega)
  obtain ⟨_, _, a3⟩ := homes_of hp hu hk hc rfl rfl rfl rfl hG b1
  refine ⟨a3 (fun n hn hl hlt => b3 n hn hl hlt), ?_, ?_⟩
  · have hs := slots_core hc10 h2 (fun r hr hL hS => ((h3 r hr).2 hL hS).2)
    refine Nat.le_trans (cT_mono 52 (fun r hr hx => ?_)) hs
    simp only [decide_eq_true_eq] at hx ⊢
    exact (b2 r hr).1 hx
  · rw [← hc]
    refine (core_ord hco).congr (fun n hn => ?_) (fun n j hn hj => ?_)
    · rw [Bool.eq_iff_iff, standsB_iff, ← rv_ord n hn]
      exact g1 _ (ord_lt n)
    · rw [Bool.eq_iff_iff, meetB_iff, ← rv_ord n hn, ← rv_ord j hj]
      exact g2 _ _ (ord_lt n) (ord_lt j)
/-- what was made of a program -/
structure MadeOf (s t : ByteArray) (k : Int) (H : Nat → Int) (K : Nat → Bool) : Prop where
  hs : HomesOf s k H K
  md : Sp.Made s t k (Sp.codeTo (Sp.B s) (s.size / 4)) (Sp.blksTo (Sp.B s) (s.size / 4)) (Sp.HX H) (Sp.lvX (Sp.rounds (Sp.codeTo (Sp.B s) (s.size / 4)) (Sp.blksTo (Sp.B s) (s.size / 4)) (Sp.blocksTo (Sp.B s) (s.size / 4))) (Sp.codeTo (Sp.B s) (s.size / 4)).length)
theorem madeOf {s : ByteArray} (hp : Sp.progB (Sp.B s) s.size 0 = true) (hs : s.size ≤ 256) {k : Int} (hk : 6 ≤ k ∧ k ≤ 10) {H : Nat → Int} {K : Nat → Bool} (h : HomesOf s k H K) :
    MadeOf s (Sp.wrD (laidOf (Sp.codeTo (Sp.B s) (s.size / 4)) (Sp.blksTo (Sp.B s) (s.size / 4)) (Sp.blocksTo (Sp.B s) (s.size / 4)) k H)) k H K :=
  ⟨h, Sp.made_of h.hom hp (src_rd hp) hs (by rw [Sp.wrD_size]; rfl) (fun j hj => Sp.wrD_bytes hk (Sp.cmp_MI h.hom (src_rd hp)) j hj)⟩
/-- what Compile answers -/
def CompR (s : ByteArray) (k : Int) (t : ByteArray) (f : Int) : Prop :=
  (f ≠ 0 ∧ (∃ n, Sp.CheckR s n f) ∧ t = ⟨#[]⟩) ∨
  ((∃ n, Sp.CheckR s n 0) ∧ Sp.macB k = false ∧ t = ⟨#[]⟩ ∧ f = 2) ∨
  ((∃ n, Sp.CheckR s n 0) ∧ Sp.FormedR s 0 ∧ Sp.macB k = true ∧ f = 0 ∧ ∃ H K, MadeOf s t k H K)
def CompPost (s : ByteArray) (k : Int) (w : World) (e : Ending) (w' : World) : Prop :=
  ∃ t f, e = .returned (.tuple #[.string t, .int .i64 f]) ∧ CompR s k t f ∧ Below w.heap.size w w'

set_option maxRecDepth 20000 in
set_option maxHeartbeats 2000000 in
theorem compile_any (s : ByteArray) (k : Int) (w : World) (hs : s.size ≤ maxLen) (hA : ArgsAt w) :
    Calls Tryz.prog 9 #[.string s, .int .i64 k] w fun e w' => CompPost s k w e w' := by
  have HRS := hid (readSafe_any s w hs hA)
  have HA := hid hA
  clear hA
  go_enter Tryz.func9, Tryz.ntmps9
  go_wp2_with fail
  refine HRS.out.mono ?_
  rintro e w2 ⟨vC, vB, n, f, rfl, hf, hsrc, hb2, ⟨aC, cC, rfl, hn0⟩, ⟨aB, nB, cB, rfl⟩⟩
  have HF := hid hf
  have HSRC := hid hsrc
  have HB2 := hid hb2
  have hsz2 := hb2.size
  clear hf hsrc hb2 HRS
  have HB3 := hid (show Below w2.heap.size w2 (w2.alloc (.cells #[.slice aC n.toNat cC, .slice aB nB cB] 49)) from (Below.refl _ _).alloc (Nat.le_refl _) _)
  have HBW3 := hid (HB2.out.trans (HB3.out.mono hsz2))
  have HRP := hid (row_two w2 (.slice aC n.toNat cC) (.slice aB nB cB))
  have hsa : (w2.alloc (.cells #[.slice aC n.toNat cC, .slice aB nB cB] 49)).heap.size = w2.heap.size + 1 := by simp
  have HHM := hid (fun (W : World) => hasMachine_any k W)
  by_cases h0 : f = 0
  · subst h0
    cases hmac : Sp.macB k
    · rw [hmac] at HHM
      have HMC := hid hmac
      clear hmac
      go_wp2_with (go_at_call 15; refine (HHM.out _).mono ?_; rintro e w' ⟨rfl, rfl⟩)
      go_ret2
      exact ⟨_, 2, rfl, Or.inr (Or.inl ⟨⟨n, HF.out⟩, HMC.out, rfl, rfl⟩), HBW3.out⟩
    · rw [hmac] at HHM
      have HMC := hid hmac
      have hk : 6 ≤ k ∧ k ≤ 10 := by
        unfold Sp.macB at hmac
        simpa using hmac
      clear hmac
      obtain ⟨hsr, hfr⟩ := HSRC.out rfl
      obtain ⟨z256, zp, zu⟩ := hfr.zero
      have hp4 := Sp.size_of_progB zp
      have HZP := hid zp
      have HZU := hid zu
      have HFR := hid hfr
      have HSR := hid hsr
      clear zp zu hfr hsr
      obtain ⟨c, hc⟩ : ∃ c : Nat, k - 2 = (c : Int) := ⟨(k - 2).toNat, by omega⟩
      have HMD := hid (fun K tk hpe => madeOf HZP.out z256 hk (homesOf HZP.out HZU.out hk hc.symm (K := K) (tk := tk) hpe))
      have HMA := hid (machineC_any w2.heap.size (Sp.blocksTo (Sp.B s) (s.size / 4)) w.heap.size c (Sp.codeTo (Sp.B s) (s.size / 4)) (Sp.blksTo (Sp.B s) (s.size / 4)) k (w2.alloc (.cells #[.slice aC n.toNat cC, .slice aB nB cB] 49)) hk hc ((HSR.out.move HB3.out).prog HRP.out) (HA.out.move HBW3.out) (Sp.blksTo_len _ _) (by rw [Sp.codeTo_len]; omega) (by rw [Sp.codeTo_len]; omega) hp4.2.2.1 (Sp.blocks_pos _ _ (by omega) hp4.2.2.2) (fun i hi => by
          obtain ⟨j, hj, rfl⟩ := List.getElem_of_mem hi
          rw [Sp.codeTo_get]
          rw [Sp.codeTo_len] at hj
          exact (Sp.insIs_of (Sp.dok_of_progB HZP.out j hj)).bd) (fun K tk hpe => by
          have hm := HMD.out K tk hpe
          have hsz := hm.md.size.1
          rw [Sp.wrD_size] at hsz
          have hS := fun j hj => Sp.form_S ((src_rd HZP.out).form j hj)
          refine ⟨by omega, Sp.cmp_len hm.hs.hom hS (by rw [← (src_rd HZP.out).bis.len]; exact (src_rd HZP.out).l10) (by rw [Sp.codeTo_len]; omega), fun i hi => ?_⟩
          have hmi := Sp.cmp_MI hm.hs.hom (src_rd HZP.out) i hi
          exact ⟨hmi.wok hk, MI.bd hk hmi⟩))
      rw [hsa] at HMA
      go_wp2_with (first | (go_at_call 15; refine (HHM.out _).mono ?_; rintro e w' ⟨rfl, rfl⟩) | (go_at_call 16; refine HMA.out.mono ?_; rintro e w4 ⟨K, tk, hpe, rfl, hb4⟩; have HPE := hid hpe; have HB4 := hid (HBW3.out.trans (hb4.mono (by omega))); clear hpe hb4))
      go_ret2
      exact ⟨_, 0, rfl, Or.inr (Or.inr ⟨⟨n, HF.out⟩, HFR.out, HMC.out, rfl, _, _, HMD.out K tk HPE.out⟩), HB4.out⟩
  · have HF0 := hid h0
    go_wp2_with fail
    go_ret2
    exact ⟨_, f, rfl, Or.inl ⟨HF0.out, ⟨n, HF.out⟩, rfl⟩, HBW3.out⟩
end Go.Proofs.YtccndnckceagfaaGreatDoorR

namespace Go.Proofs.YtccndnckceagfaaGreatDoorR
open Go.RowKit

theorem rgs_mac (k : Int) : Sp.macB (Sp.rgs k) = true := by
  have := rgs_bd k
  simp [Sp.macB]
  omega
/-- what Compile answers beside what Check answers -/
theorem CompR.with_check {s : ByteArray} {k : Int} {t : ByteArray} {f : Int} (h : CompR s k t f) (hm : Sp.macB k = true) {n e : Int} (hc : Sp.CheckR s n e) : (e ≠ 0 ∧ f = e ∧ t = ⟨#[]⟩) ∨ (e = 0 ∧ f = 0 ∧ Sp.FormedR s 0 ∧ ∃ H K, MadeOf s t k H K) := by
  rcases h with ⟨h1, ⟨n', h2⟩, h3⟩ | ⟨_, h2, _⟩ | ⟨⟨n', h2⟩, h3, _, h5, h6⟩
  · obtain ⟨_, e1⟩ := h2.eq hc
    exact Or.inl ⟨by rw [← e1]; exact h1, e1, h3⟩
  · rw [hm] at h2; cases h2
  · obtain ⟨_, e1⟩ := h2.eq hc
    exact Or.inr ⟨e1.symm, h5, h3, h6⟩

set_option maxRecDepth 20000 in
set_option maxHeartbeats 8000000 in
theorem same_any (s : ByteArray) (k : Int) (I : Sp.Inp) (n : Int) (w : World) (hs : s.size ≤ maxLen) (hk : -9223372036854775808 ≤ k ∧ k ≤ 9223372036854775807) (hI : I.wide) (hn : -9223372036854775808 ≤ n ∧ n ≤ 9223372036854775807) (hA : ArgsAt w) (hT : Tab w) :
    Calls Tryz.prog 3 #[.string s, .int .i64 k, .agg (inA I), .int .i64 n] w fun e w' => e = .returned (.bool true) ∧ Below w.heap.size w w' := by
  have hsz := inA_size I
  have hlt1 := hT.lt
  have HA := hid hA
  have HT := hid hT
  have HRI := hid (in_row w I 25)
  have HBB := hid ((Below.refl w.heap.size w).alloc (Nat.le_refl _) (.cells (inA I) 25))
  have hz0 : (w.alloc (.cells (inA I) 25)).heap.size = w.heap.size + 1 := by simp
  have hAX : Hid (∀ W, Below w.heap.size w W → ArgsAt W ∧ Tab W) := hid (fun W hW => ⟨HA.out.of_block (hW.block 0 (by have := HA.out.lt; omega)), HT.out.of_block (hW.block 1 (by omega))⟩)
  have HBG := hid (begun_any (w.alloc (.cells (inA I) 25)) (hAX.out _ HBB.out).1)
  have HTM := hid (fun W => tame_any I W hI)
  have HRG := hid (fun W => registers_any k W hk)
  have HMC := hid (rgs_mac k)
  have hkb := rgs_bd k
  generalize Sp.rgs k = k1 at *
  have HCHK := hid (fun W (hW : Below w.heap.size w W) => check_any s W hs (hAX.out W hW).1)
  have HCMP := hid (fun W (hW : Below w.heap.size w W) => compile_any s k1 W hs (hAX.out W hW).1)
  have HPK := hid (fun W => pick_any n 4981 W hn (by omega))
  have hpk := Sp.pk_bd n 4981 (by omega)
  generalize Sp.pk n 4981 = n1 at *
  obtain ⟨F, rfl⟩ := Int.eq_ofNat_of_zero_le hpk.1
  clear hA hT hI hk hn
  generalize hN : w.heap.size = N at *
  go_enter Tryz.func3, Tryz.ntmps3
  go_upto_region 1 with fail
  generalize w.alloc (.cells (inA I) 25) = W0 at *
  go_upto_region 2 with (go_at_call 4; refine HBG.out.mono ?_; rintro e w1 ⟨rfl, hb1⟩; rw [hz0] at hb1; have HR1 := hid (HRI.out.of_block (hb1.block N (by omega))); have HB1 := hid (HBB.out.trans (hb1.mono (by omega))); have hs1 := hb1.size; rw [hz0] at hs1; clear hb1)
  go_upto_region 5 with (first | (refine wpList_load_in rfl (.tmp 6) rfl N I (by first | rfl | simp [Act.eval]) HR1.out ?_) | (go_at_call 5; refine (HTM.out _).mono ?_; rintro e w2 ⟨rfl, hb2⟩; have HR2 := hid (HR1.out.of_block (hb2.block N (by omega))); have HB2 := hid (HB1.out.trans (hb2.mono (by omega))); have hs2 := Nat.le_trans hs1 hb2.size; clear hb2) | (refine wpList_store_in rfl (.tmp 6) (.tmp 24) rfl N (Sp.tm I) I (by first | rfl | simp [Act.eval]) (by rfl) HR2.out ?_; intro w3 ho3 ho3'; have HJ3 := hid ho3; have HY3 := hid ho3'; clear ho3 ho3'))
  have HW3 := hid (HB2.out.trans (HY3.out.below (Nat.le_refl N)))
  have hs3 : N + 1 ≤ w3.heap.size := by rw [HY3.out.size]; exact hs2
  clear HR1 HB1 HR2 HB2 HY3 HRI HBB HTM HBG hs1 hs2 hz0
  have HCK3 := hid (HCHK.out w3 HW3.out)
  go_upto_region 8 with (first | (go_at_call 6; refine (HRG.out _).mono ?_; rintro e w' ⟨rfl, rfl⟩) | (go_at_call 7; refine (HPK.out _).mono ?_; rintro e w' ⟨rfl, rfl⟩) | (go_at_call 8; refine HCK3.out.mono ?_; rintro e w4 ⟨m, f, rfl, hck, hb4⟩; have HCK := hid hck; have HJ4 := hid (HJ3.out.of_block (hb4.block N (by omega))); have HW4 := hid (HW3.out.trans (hb4.mono (by omega))); have hs4 := Nat.le_trans hs3 hb4.size; clear hck hb4))
  clear HCK3 HCHK HJ3 HW3 HRG HPK
  have HCM4 := hid (HCMP.out w4 HW4.out)
  unfold CompPost at HCM4
  go_upto_region 9 with (go_at_call 9; refine HCM4.out.mono ?_; rintro e w5 ⟨t, f5, rfl, hcp, hb5⟩; have HCP := hid (hcp.with_check HMC.out HCK.out); have HJ5 := hid (HJ4.out.of_block (hb5.block N (by omega))); have HW5 := hid (HW4.out.trans (hb5.mono (by omega))); have hs5 := Nat.le_trans hs4 hb5.size; clear hcp hb5)
  clear HCM4 HCMP HJ4 HW4
  by_cases hf : f = 0
  case neg =>
    have hr : f5 = f ∧ t = ⟨#[]⟩ := by
      rcases HCP.out with ⟨_, h2, h3⟩ | ⟨h1, _⟩
      · exact ⟨h2, h3⟩
      · exact absurd h1 hf
    obtain ⟨rfl, rfl⟩ := hr
    have t1 : (f5 != 0) = true := by simp [hf]
    go_wp2_with fail
    go_ret
    exact ⟨rfl, HW5.out⟩
  subst hf
  have hcp : f5 = 0 ∧ Sp.FormedR s 0 ∧ ∃ H K, MadeOf s t k1 H K := by
    rcases HCP.out with ⟨h1, _⟩ | ⟨_, h2, h3, h4⟩
    · exact absurd rfl h1
    · exact ⟨h2, h3, h4⟩
  obtain ⟨rfl, hfs, H, K, hmd⟩ := hcp
  have HFS := hid hfs
  obtain ⟨g1, g3, g5⟩ := hfs.zero
  have g4 := hmd.md.prog
  have g2 := hmd.md.size.2
  have HACC := hid (fun W (hW : Below N w W) => accept_any s t k1 W (hAX.out W hW).1)
  have HAIS : Hid (∀ ok f, Sp.AccIs s t k1 ok f → f = 0 ∧ ok = true) := hid (fun ok f h => by
    obtain ⟨h1, h2⟩ := Sp.accIs_good h HFS.out g2 HMC.out g4
    exact ⟨h1, h2.trans hmd.md.acc⟩)
  have HAC5 := hid (HACC.out w5 HW5.out)
  unfold AccPost at HAC5
  have HMD := hid hmd
  have HSR := hid (src_rd g3)
  have HPT := hid g4
  have HG3 := hid g3
  clear hfs hmd g4 HCP HCK
  go_upto_region 12 with (go_at_call 10; refine HAC5.out.mono ?_; rintro e w6 ⟨ok, f6, rfl, hacc, hb6⟩; obtain ⟨e1, e2⟩ := HAIS.out ok f6 hacc; subst e1; subst e2; have HJ6 := hid (HJ5.out.of_block (hb6.block N (by omega))); have HW6 := hid (HW5.out.trans (hb6.mono (by omega))); have hs6 := Nat.le_trans hs5 hb6.size; clear hacc hb6)
  clear HAC5 HACC HAIS HJ5 HW5
  have HMX := hid (Sp.tm_may I (F : Int) (by omega) (by omega))
  have HMY := hid (Sp.tm_may I ((4 * F + 80 : Nat) : Int) (by omega) (by omega))
  have hmul : 4 * (F : Int) + 80 = ((4 * F + 80 : Nat) : Int) := by omega
  obtain ⟨P, hP⟩ : ∃ P, 4 * F + 80 = P := ⟨_, rfl⟩
  rw [hP] at HMY hmul
  have hPb : P ≤ 20000 := by omega
  obtain ⟨mS, hmS⟩ : ∃ m, Sp.walkP (Sp.codeTo (Sp.B s) (s.size / 4)) (Sp.strP (Sp.blksTo (Sp.B s) (s.size / 4))) F (argM (Sp.tm I).cut 4) 0 = m := ⟨_, rfl⟩
  obtain ⟨mT, hmT⟩ : ∃ m, Sp.walkP (Sp.codeK k1 (Sp.B t) (t.size / 4)) (Sp.strP (Sp.blksTo (Sp.B t) (t.size / 4))) P (argK (Sp.tm I).cut 4) 0 = m := ⟨_, rfl⟩
  have HXE := hid (show outL (Sp.runG (Sp.stepT s) F (Sp.start Sp.pS (Sp.tm I).cut 4)) = outL (outSt mS) by rw [← run_eq g3, src_eq g3, hmS])
  have HYE := hid (show outL (Sp.fillM k1 (Sp.runG (Sp.stepU t) P (Sp.start Sp.pM (Sp.tm I).cut 4))) = outL (outM mT) by rw [← mrun_eq (by omega) (by omega) HPT.out, hmT])
  have HCA := hid (cut_args (Sp.tm I) (F : Int) HMX.out)
  have HTZ : Hid (mT.trace.size ≤ 10000000) := by
    show mT.trace.size ≤ 10000000
    rw [← hmT]
    have h1 := (walkP_ok (C := Sp.codeK k1 (Sp.B t) (t.size / 4)) (fun j hj => code_ok (by omega) HPT.out j hj) (Sp.strP (Sp.blksTo (Sp.B t) (t.size / 4))) P _ 1000 0 (argK_ok (Sp.tm I).cut HCA.out 4)).trace
    omega
  have HMS : Hid ((mS.ended = true → Sp.Fin' mS mT) ∧ (mS.ended = false → mS.status = 2)) := by
    refine ⟨fun he => ?_, fun he => ?_⟩
    · have hr := same_run HMD.out.hs.hom HSR.out HMD.out.md (Sp.tm I).cut F (by rw [hmS]; exact he)
      rw [hP, hmS, hmT] at hr
      exact hr
    · rw [← hmS] at he ⊢
      rw [Sp.walkP_status _ _ _ _ _ he]
      exact (argM_flags (Sp.tm I).cut 4).2
  have HEX := hid (fun W (hW : Below N w W) => pexec_any t k1 (Sp.tm I) ((P : Nat) : Int) W (hAX.out W hW).2)
  have HRN := hid (fun W (hW : Below N w W) => prun_any s (Sp.tm I) (F : Int) W hs (hAX.out W hW).1 (hAX.out W hW).2)
  have HMY2 := hid (show (Sp.mayB (Sp.tm I) ((P : Nat) : Int) && Sp.macB k1) = true by rw [HMY.out, HMC.out]; rfl)
  clear g1 g3 g5 hmS hmT HCA HSR HMD HMC HMY hAX HG3
  have HRW := hid (HRN.out w6 HW6.out)
  go_upto_region 13 with (first | (refine wpList_load_in rfl (.tmp 6) rfl N (Sp.tm I) (by rfl) HJ6.out ?_) | (go_at_call 11; refine HRW.out.mono ?_; rintro e w7 ⟨st, f7, rfl, hr, hb7⟩; obtain ⟨e1, e2⟩ := hr.good HFS.out HMX.out; have e3 : outL st = outL (outSt mS) := (by rw [e2, Int.toNat_natCast]; exact HXE.out); rw [e3]; subst e1; clear e2 e3 hr; have HB7 := hid hb7; clear hb7) | (refine wpList_alloc_out rfl rfl ?_; intro w8 ho8 hb8 hz8; have HO8 := hid ho8; have HB8 := hid hb8; clear ho8 hb8) | (refine wpList_store_out rfl (.tmp 16) (.tmp 61) rfl w7.heap.size 0 (outSt mS) st0 (by rfl) (by rfl) HO8.out ?_; intro w9 ho9 ho9'; have HO9 := hid ho9; have HY9 := hid ho9'; clear ho9 ho9'))
  have hs7 := HB7.out.size
  have hs9 : w7.heap.size + 1 = w9.heap.size := by rw [HY9.out.size, hz8]
  have HW9 := hid (((HW6.out.trans (HB7.out.mono (by omega))).trans (HB8.out.mono (by omega))).trans (HY9.out.below (by omega)))
  have HJ9 := hid (((HJ6.out.of_block (HB7.out.block N (by omega))).of_block (HB8.out.block N (by omega))).of_block (HY9.out.block N (by omega)))
  have HEW := hid (HEX.out w9 HW9.out)
  generalize hbx : w7.heap.size = bx at *
  clear HB7 HO8 HB8 HY9 HJ6 HW6 HRW HRN HEX HXE HFS HMX hz8
  go_upto_region 14 with (first | (refine wpList_load_in rfl (.tmp 6) rfl N (Sp.tm I) (by rfl) HJ9.out ?_) | (go_at_call 12; refine HEW.out.mono ?_; rintro e w10 ⟨st, f10, rfl, hr, hb10⟩; obtain ⟨e1, e2⟩ := hr.good g2 HMY2.out HPT.out; have e3 : outL st = outL (outM mT) := (by rw [e2, Int.toNat_natCast]; exact HYE.out); rw [e3]; subst e1; clear e2 e3 hr; have HX10 := hid (HO9.out.of_block (hb10.block bx (by omega))); have HB10 := hid hb10; clear hb10) | (refine wpList_alloc_out rfl rfl ?_; intro w11 ho11 hb11 hz11; have HO11 := hid ho11; have HB11 := hid hb11; clear ho11 hb11) | (refine wpList_store_out rfl (.tmp 18) (.tmp 71) rfl w10.heap.size 0 (outM mT) st0 (by rfl) (by rfl) HO11.out ?_; intro w12 ho12 ho12'; have HO12 := hid ho12; have HY12 := hid ho12'; clear ho12 ho12'))
  have hs10 := HB10.out.size
  have HX12 := hid ((HX10.out.of_block (HB11.out.block bx (by omega))).of_block (HY12.out.block bx (by omega)))
  have HW12 := hid (((HW9.out.trans (HB10.out.mono (by omega))).trans (HB11.out.mono (by omega))).trans (HY12.out.below (by omega)))
  have hs12 : N ≤ w12.heap.size := by rw [HY12.out.size, hz11]; omega
  generalize hby : w10.heap.size = bv at *
  have c0 := HX12.out.status
  clear HB10 HX10 HO9 HB11 HO11 HY12 HW9 HJ9 HEW HYE hz11
  cases hen : mS.ended
  · have hst : mS.status = 2 := HMS.out.2 hen
    have c0' : w12.cell? ⟨bx, 0, none⟩ = some (.int .i64 2) := by rw [c0]; show some (Value.int .i64 mS.status) = _; rw [hst]
    clear c0 hen hst HMS
    go_wp2_with fail
    go_ret
    exact ⟨rfl, HW12.out⟩
  · have hfin := HMS.out.1 hen
    have hne : (mS.status == 2) = false := by
      rcases hfin.s01 with h | h <;> rw [h] <;> rfl
    have c0' : w12.cell? ⟨bx, 0, none⟩ = some (.int .i64 mS.status) := c0
    have HAL := hid (alike_any (outSt mS) (outM mT) w12 hfin.pub hfin.sec hfin.st hfin.val hfin.tr HTZ.out (fin_clean hfin))
    clear c0 hen hfin HMS
    generalize mS.status = sx at *
    go_wp2_with (first | (refine wpList_load_out rfl (.tmp 16) rfl bx 0 (outSt mS) (by rfl) HX12.out ?_) | (refine wpList_load_out rfl (.tmp 18) rfl bv 0 (outM mT) (by rfl) HO12.out ?_) | (go_at_call 13; refine HAL.out.mono ?_; rintro e w13 ⟨rfl, hb13⟩; have HB13 := hid hb13; clear hb13))
    go_ret
    exact ⟨rfl, HW12.out.trans (HB13.out.mono hs12)⟩
end Go.Proofs.YtccndnckceagfaaGreatDoorR
