/-
  The program's Compile: what it answers.
  Two inputs that differ in secrets alone: the walks.
-/
import Derived.Test.YtccndnckceagfabGreatDoorRHMak5
import Derived.Test.YtccndnckceagfabGreatDoorRHSnd7
import Derived.Deep.CutRange
namespace Go.Proofs.YtccndnckceagfabGreatDoorR
open Go.RowKit
open Sp in
theorem MI.bd {k : Int} (hk : 6 ≤ k ∧ k ≤ 10) {nb : Nat} {i : Ins} (h : MI k nb i) : i.d ≤ 1000 ∧ i.x ≤ 1000 ∧ i.y ≤ 1000 := by
  cases h with
  | ar o d x y ha hd hx hy => unfold Rg at hd hx hy; refine ⟨?_, ?_, ?_⟩ <;> (simp only []; omega)
  | num d n hd hn => unfold Rg at hd; refine ⟨?_, ?_, ?_⟩ <;> (simp only []; omega)
  | two o d x ho hd hx => unfold Rg at hd hx; refine ⟨?_, ?_, ?_⟩ <;> (simp only []; omega)
  | sto o x y ho hx hy => unfold Rg at hx hy; refine ⟨?_, ?_, ?_⟩ <;> (simp only []; omega)
  | jmp t ht => refine ⟨?_, ?_, ?_⟩ <;> (simp only []; omega)
  | cnd x t u hx ht hu => unfold Rg at hx; refine ⟨?_, ?_, ?_⟩ <;> (simp only []; omega)
  | ret => refine ⟨?_, ?_, ?_⟩ <;> (simp only []; omega)
  | put d x hd hx => unfold Rg at hx; refine ⟨?_, ?_, ?_⟩ <;> (simp only []; omega)
  | get d x hd hx => unfold Rg at hd; refine ⟨?_, ?_, ?_⟩ <;> (simp only []; omega)
  | clr d hd => unfold Rg at hd; refine ⟨?_, ?_, ?_⟩ <;> (simp only []; omega)
/-- the homes of a program that was read -/
structure HomesOf (s : ByteArray) (k : Int) (H : Nat → Int) (K : Nat → Bool) : Prop where
  hom : Sp.Homes k (Sp.codeTo (Sp.B s) (s.size / 4)) (Sp.blksTo (Sp.B s) (s.size / 4)) (Sp.HX H) (Sp.lvX (Sp.rounds (Sp.codeTo (Sp.B s) (s.size / 4)) (Sp.blksTo (Sp.B s) (s.size / 4)) (Sp.blocksTo (Sp.B s) (s.size / 4))) (Sp.codeTo (Sp.B s) (s.size / 4)).length)
  few : Sp.cT (fun r => decide (10 ≤ H r)) 52 ≤ Sp.cT K 52
  core : Sp.IsCore (Sp.standsB (Sp.B s) (s.size / 4)) (Sp.meetB (Sp.B s) (s.size / 4)) (k - 2) (fun n => K (Sp.ord n))
theorem src_rd {s : ByteArray} (hp : Sp.progB (Sp.B s) s.size 0 = true) : Sp.Rd 0 s (Sp.codeTo (Sp.B s) (s.size / 4)) (Sp.blksTo (Sp.B s) (s.size / 4)) := by
  have h := Sp.rd_of 0 (Int.le_refl 0) s hp
  rw [src_eq hp] at h
  exact h
open Sp in
theorem homesOf {s : ByteArray} (hp : progB (B s) s.size 0 = true) (hu : ¬ Unset (B s) (s.size / 4)) {k : Int} (hk : 6 ≤ k ∧ k ≤ 10) {c : Nat} (hc : (c : Int) = k - 2) {K : Nat → Bool} {tk : List Nat}
    (h : Peeled (codeTo (B s) (s.size / 4)) (blksTo (B s) (s.size / 4)) (blocksTo (B s) (s.size / 4)) c K tk) : HomesOf s k (hmsOf (codeTo (B s) (s.size / 4)) (blksTo (B s) (s.size / 4)) (blocksTo (B s) (s.size / 4)) c K tk) K := by
  obtain ⟨hpt, hco⟩ := h
  have hc10 : c ≤ 10 := by omega
  have hc4 : 4 ≤ c := by omega
  unfold hmsOf
  have hlen : (codeTo (B s) (s.size / 4)).length = s.size / 4 := codeTo_len _ _
  obtain ⟨G, hG⟩ : ∃ G, G = ofZ (ofTo (codeTo (B s) (s.size / 4)) (rounds (codeTo (B s) (s.size / 4)) (blksTo (B s) (s.size / 4)) (blocksTo (B s) (s.size / 4))) (codeTo (B s) (s.size / 4)).length (codeTo (B s) (s.size / 4)).length) (rounds (codeTo (B s) (s.size / 4)) (blksTo (B s) (s.size / 4)) (blocksTo (B s) (s.size / 4)) 0) 52 := ⟨_, rfl⟩
  rw [← hG] at hpt hco ⊢
  obtain ⟨g1, g2⟩ := graph_of hp (G := G) (by rw [hG, hlen])
  have hM : ∀ a b, a < 52 → b < 52 → G (52 + a * 52 + b) = G (52 + b * 52 + a) := by
    intro a b ha hb
    rw [Bool.eq_iff_iff, g2 a b ha hb, g2 b a hb ha]
    exact ⟨Meet.symm, Meet.symm⟩
  have hMr : ∀ a, a < 52 → G (52 + a * 52 + a) = false := by
    intro a ha
    cases hx : G (52 + a * 52 + a)
    · rfl
    · exact absurd rfl ((g2 a a ha ha).1 hx).1
  have h0 : HomeOf (fun a b => G (52 + a * 52 + b)) c (fun _ => false) (fun _ => -1) := ⟨fun _ _ _ => rfl, fun _ _ h => (by cases h), fun _ _ _ _ h => (by cases h)⟩
  have hnd : (coreL K).Nodup := by
    unfold coreL
    exact List.Pairwise.filter _ List.nodup_range
  have h1 := home_core hM hMr hc10 (coreL K) _ _ h0 (fun r hr => by
    unfold coreL at hr
    rw [List.mem_filter, List.mem_range] at hr
    exact ⟨hr.1, rfl⟩) hnd
  have h1' : HomeOf (fun a b => G (52 + a * 52 + b)) c K ((coreL K).foldl (oneH (fun a b => G (52 + a * 52 + b)) c) (fun _ => -1)) := h1.congr (fun r hr => by
    rw [Bool.false_or, Bool.eq_iff_iff, List.contains_iff_mem]
    unfold coreL
    rw [List.mem_filter, List.mem_range]
    exact ⟨fun x => x.2, fun x => ⟨hr, x⟩⟩)
  obtain ⟨h2, h3⟩ := home_taken hM hMr hc10 hpt _ h1'
  rw [List.foldl_append]
  generalize tk.reverse.foldl (oneH (fun a b => G (52 + a * 52 + b)) c) ((coreL K).foldl (oneH (fun a b => G (52 + a * 52 + b)) c) (fun _ => -1)) = Hf at *
  obtain ⟨a1, a2, _⟩ := homes_of hp hu hk hc rfl rfl rfl rfl hG h2
  obtain ⟨b1, b2, b3⟩ := seat_ok hc4 hc10 a2 a1 h2 4 (by omega)
  obtain ⟨_, _, a3⟩ := homes_of hp hu hk hc rfl rfl rfl rfl hG b1
  refine ⟨a3 (fun n hn hl hlt => b3 n hn hl hlt), ?_, ?_⟩
  · have hs := slots_core hc10 h2 (fun r hr hL hS => ((h3 r hr).2 hL hS).2)
    refine Nat.le_trans (cT_mono 52 (fun r hr hx => ?_)) hs
    simp only [decide_eq_true_eq] at hx ⊢
    exact (b2 r hr).1 hx
  · rw [← hc]
    refine (core_ord hco).congr (fun n hn => ?_) (fun n j hn hj => ?_)
    · rw [Bool.eq_iff_iff, standsB_iff, ← rv_ord n hn]
      exact g1 _ (ord_lt n)
    · rw [Bool.eq_iff_iff, meetB_iff, ← rv_ord n hn, ← rv_ord j hj]
      exact g2 _ _ (ord_lt n) (ord_lt j)
/-- what was made of a program -/
structure MadeOf (s t : ByteArray) (k : Int) (H : Nat → Int) (K : Nat → Bool) : Prop where
  hs : HomesOf s k H K
  md : Sp.Made s t k (Sp.codeTo (Sp.B s) (s.size / 4)) (Sp.blksTo (Sp.B s) (s.size / 4)) (Sp.HX H) (Sp.lvX (Sp.rounds (Sp.codeTo (Sp.B s) (s.size / 4)) (Sp.blksTo (Sp.B s) (s.size / 4)) (Sp.blocksTo (Sp.B s) (s.size / 4))) (Sp.codeTo (Sp.B s) (s.size / 4)).length)
theorem madeOf {s : ByteArray} (hp : Sp.progB (Sp.B s) s.size 0 = true) (hs : s.size ≤ 256) {k : Int} (hk : 6 ≤ k ∧ k ≤ 10) {H : Nat → Int} {K : Nat → Bool} (h : HomesOf s k H K) :
    MadeOf s (Sp.wrD (laidOf (Sp.codeTo (Sp.B s) (s.size / 4)) (Sp.blksTo (Sp.B s) (s.size / 4)) (Sp.blocksTo (Sp.B s) (s.size / 4)) k H)) k H K :=
  ⟨h, Sp.made_of h.hom hp (src_rd hp) hs (by rw [Sp.wrD_size]; rfl) (fun j hj => Sp.wrD_bytes hk (Sp.cmp_MI h.hom (src_rd hp)) j hj)⟩
/-- what Compile answers -/
def CompR (s : ByteArray) (k : Int) (t : ByteArray) (f : Int) : Prop :=
  (f ≠ 0 ∧ (∃ n, Sp.CheckR s n f) ∧ t = ⟨#[]⟩) ∨
  ((∃ n, Sp.CheckR s n 0) ∧ Sp.macB k = false ∧ t = ⟨#[]⟩ ∧ f = 2) ∨
  ((∃ n, Sp.CheckR s n 0) ∧ Sp.FormedR s 0 ∧ Sp.macB k = true ∧ f = 0 ∧ ∃ H K, MadeOf s t k H K)
def CompPost (s : ByteArray) (k : Int) (w : World) (e : Ending) (w' : World) : Prop :=
  ∃ t f, e = .returned (.tuple #[.string t, .int .i64 f]) ∧ CompR s k t f ∧ Below w.heap.size w w'

set_option maxRecDepth 20000 in
set_option maxHeartbeats 2000000 in
theorem compile_any (s : ByteArray) (k : Int) (w : World) (hs : s.size ≤ maxLen) (hA : ArgsAt w) :
    Calls Tryz.prog 10 #[.string s, .int .i64 k] w fun e w' => CompPost s k w e w' := by
  have HRS := hid (readSafe_any s w hs hA)
  have HA := hid hA
  clear hA
  go_enter Tryz.func10, Tryz.ntmps10
  go_wp2_with fail
  refine HRS.out.mono ?_
  rintro e w2 ⟨vC, vB, n, f, rfl, hf, hsrc, hb2, ⟨aC, cC, rfl, hn0⟩, ⟨aB, nB, cB, rfl⟩⟩
  have HF := hid hf
  have HSRC := hid hsrc
  have HB2 := hid hb2
  have hsz2 := hb2.size
  clear hf hsrc hb2 HRS
  have HB3 := hid (show Below w2.heap.size w2 (w2.alloc (.cells #[.slice aC n.toNat cC, .slice aB nB cB] 47)) from (Below.refl _ _).alloc (Nat.le_refl _) _)
  have HBW3 := hid (HB2.out.trans (HB3.out.mono hsz2))
  have HRP := hid (row_two w2 (.slice aC n.toNat cC) (.slice aB nB cB))
  have hsa : (w2.alloc (.cells #[.slice aC n.toNat cC, .slice aB nB cB] 47)).heap.size = w2.heap.size + 1 := by simp
  have HHM := hid (fun (W : World) => hasMachine_any k W)
  by_cases h0 : f = 0
  · subst h0
    cases hmac : Sp.macB k
    · rw [hmac] at HHM
      have HMC := hid hmac
      clear hmac
      go_wp2_with (go_at_call 17; refine (HHM.out _).mono ?_; rintro e w' ⟨rfl, rfl⟩)
      go_ret2
      exact ⟨_, 2, rfl, Or.inr (Or.inl ⟨⟨n, HF.out⟩, HMC.out, rfl, rfl⟩), HBW3.out⟩
    · rw [hmac] at HHM
      have HMC := hid hmac
      have hk : 6 ≤ k ∧ k ≤ 10 := by
        unfold Sp.macB at hmac
        simpa using hmac
      clear hmac
      obtain ⟨hsr, hfr⟩ := HSRC.out rfl
      obtain ⟨z256, zp, zu⟩ := hfr.zero
      have hp4 := Sp.size_of_progB zp
      have HZP := hid zp
      have HZU := hid zu
      have HFR := hid hfr
      have HSR := hid hsr
      clear zp zu hfr hsr
      obtain ⟨c, hc⟩ : ∃ c : Nat, k - 2 = (c : Int) := ⟨(k - 2).toNat, by omega⟩
      have HMD := hid (fun K tk hpe => madeOf HZP.out z256 hk (homesOf HZP.out HZU.out hk hc.symm (K := K) (tk := tk) hpe))
      have HMA := hid (machineC_any w2.heap.size (Sp.blocksTo (Sp.B s) (s.size / 4)) w.heap.size c (Sp.codeTo (Sp.B s) (s.size / 4)) (Sp.blksTo (Sp.B s) (s.size / 4)) k (w2.alloc (.cells #[.slice aC n.toNat cC, .slice aB nB cB] 47)) hk hc ((HSR.out.move HB3.out).prog HRP.out) (HA.out.move HBW3.out) (Sp.blksTo_len _ _) (by rw [Sp.codeTo_len]; omega) (by rw [Sp.codeTo_len]; omega) hp4.2.2.1 (Sp.blocks_pos _ _ (by omega) hp4.2.2.2) (fun i hi => by
          obtain ⟨j, hj, rfl⟩ := List.getElem_of_mem hi
          rw [Sp.codeTo_get]
          rw [Sp.codeTo_len] at hj
          exact (Sp.insIs_of (Sp.dok_of_progB HZP.out j hj)).bd) (fun K tk hpe => by
          have hm := HMD.out K tk hpe
          have hsz := hm.md.size.1
          rw [Sp.wrD_size] at hsz
          have hS := fun j hj => Sp.form_S ((src_rd HZP.out).form j hj)
          refine ⟨by omega, Sp.cmp_len hm.hs.hom hS (by rw [← (src_rd HZP.out).bis.len]; exact (src_rd HZP.out).l10) (by rw [Sp.codeTo_len]; omega), fun i hi => ?_⟩
          have hmi := Sp.cmp_MI hm.hs.hom (src_rd HZP.out) i hi
          exact ⟨hmi.wok hk, MI.bd hk hmi⟩))
      rw [hsa] at HMA
      go_wp2_with (first | (go_at_call 17; refine (HHM.out _).mono ?_; rintro e w' ⟨rfl, rfl⟩) | (go_at_call 18; refine HMA.out.mono ?_; rintro e w4 ⟨K, tk, hpe, rfl, hb4⟩; have HPE := hid hpe; have HB4 := hid (HBW3.out.trans (hb4.mono (by omega))); clear hpe hb4))
      go_ret2
      exact ⟨_, 0, rfl, Or.inr (Or.inr ⟨⟨n, HF.out⟩, HFR.out, HMC.out, rfl, _, _, HMD.out K tk HPE.out⟩), HB4.out⟩
  · have HF0 := hid h0
    go_wp2_with fail
    go_ret2
    exact ⟨_, f, rfl, Or.inl ⟨HF0.out, ⟨n, HF.out⟩, rfl⟩, HBW3.out⟩
end Go.Proofs.YtccndnckceagfabGreatDoorR

namespace Go.Proofs.YtccndnckceagfabGreatDoorR
open Go.RowKit

namespace Sp
/-- the public part of one input, the secret part of another -/
def oth (I J : Inp) : Inp := ⟨fun k => if k = 2 ∨ k = 3 then J.args k else I.args k, I.pub, fun k => if k < 8 then J.sec k else I.sec k⟩
def oth1 (I J : Inp) : Inp := ⟨fun k => if k = 2 then J.args k else I.args k, I.pub, I.sec⟩
def oth2 (I J : Inp) : Inp := ⟨fun k => if k = 2 ∨ k = 3 then J.args k else I.args k, I.pub, I.sec⟩
theorem oth1_at (I J : Inp) (i : Nat) : (oth1 I J).at' i = if i = 2 then J.args 2 else I.at' i := by
  unfold Inp.at' oth1
  by_cases e : i = 2
  · subst e
    simp
  · rw [if_neg e]
    simp [e]
theorem oth2_at (I J : Inp) (i : Nat) : (oth2 I J).at' i = if i = 3 then J.args 3 else (oth1 I J).at' i := by
  unfold Inp.at' oth2 oth1
  by_cases e : i = 3
  · subst e
    simp
  · rw [if_neg e]
    simp [e]
theorem oth_at (I J : Inp) (i : Nat) (hi : i < 20) : (oth I J).at' i = if 12 ≤ i then J.sec (i - 12) else (oth2 I J).at' i := by
  unfold Inp.at' oth oth2
  by_cases e : 12 ≤ i
  · rw [if_pos e, if_neg (by omega), if_neg (by omega)]
    show (if i - 12 < 8 then _ else _) = _
    rw [if_pos (by omega)]
  · rw [if_neg e]
    by_cases e4 : i < 4
    · rw [if_pos e4, if_pos e4]
    · rw [if_neg e4, if_neg e4, if_pos (by omega), if_pos (by omega)]
theorem oth_may (I J : Inp) (f : Int) (h : mayB I f = true) (h2 : mayB J f = true) : mayB (oth I J) f = true := by
  unfold mayB at h h2 ⊢
  simp only [Bool.and_eq_true, List.all_eq_true, List.mem_range, decide_eq_true_eq] at h h2 ⊢
  refine ⟨fun j hj => ?_, h.2⟩
  rw [oth_at I J j hj]
  by_cases e : 12 ≤ j
  · rw [if_pos e]
    have := h2.1 j hj
    unfold Inp.at' at this
    rw [if_neg (by omega), if_neg (by omega)] at this
    exact this
  · rw [if_neg e, oth2_at, oth1_at]
    by_cases e3 : j = 3
    · rw [if_pos e3]
      have := h2.1 3 (by omega)
      exact this
    · rw [if_neg e3]
      by_cases e2 : j = 2
      · rw [if_pos e2]
        have := h2.1 2 (by omega)
        exact this
      · rw [if_neg e2]
        exact h.1 j hj
end Sp
/-- the secret memory of an input laid whole -/
theorem wpList_store_sec {ops : Array Oper} {rest : List Oper} {op : Oper} {a : Act} {w : World} {Q : Exit → Act → World → Prop} (hgd : op.guard = none) (x y : Operand) (ho : op.op = .store 23 x y)
    (b : Nat) (I J : Sp.Inp) (f : Nat → Int) (hx : a.eval x = .pointer (some ⟨b, 12, none⟩)) (hy : a.eval y = .agg (arrL f).toArray) (hT : w.rowIs b 25 20 (inF I)) (hJ : ∀ i, i < 20 → J.at' i = if 12 ≤ i then f (i - 12) else I.at' i)
    (h : ∀ w', w'.rowIs b 25 20 (inF J) → Only b w w' → wpList Tryz.prog ops Q rest (a.put op.dst undef) w') : wpList Tryz.prog ops Q (op :: rest) a w := by
  have hs : (arrL f).toArray.size = 8 := by simp [arrL_len]
  refine wpList_store_mid hgd 23 x y ho b 12 (arrL f).toArray hx hy (by rw [hs]; exact row_there hT 12 8 (by omega)) (by rw [hs]; exact info_arr8) (all_oneCell_toArray (arrL_one f)) (h _ ?_ ?_)
  · have := row_setCells hT (arrL f) 12 (by rw [arrL_len]; omega)
    refine this.congr fun j hj => ?_
    rw [arrL_len]
    unfold inF
    rw [hJ j hj]
    by_cases e : 12 ≤ j
    · rw [if_pos (by omega), if_pos e, List.getD_eq_getElem?_getD, arrL_at f (j - 12) (by omega)]
      rfl
    · rw [if_neg (by omega), if_neg e]
  · exact only_setCells w b 12 (arrL f)
theorem in_range {w : World} {b t : Nat} {I : Sp.Inp} (h : w.rowIs b t 20 (inF I)) : w.rangeAt b 0 ((List.range 20).map (inF I)) := fun j v hj => by
  have hj' : j < 20 := by have := (List.getElem?_eq_some_iff.1 hj).1; simpa using this
  rw [Nat.zero_add, h.cell hj', ← hj]
  simp [hj']

set_option maxRecDepth 20000 in
set_option maxHeartbeats 2000000 in
theorem other_any (I J : Sp.Inp) (w : World) :
    Calls Tryz.prog 5 #[.agg (inA I), .agg (inA J)] w fun e w' => e = .returned (.agg (inA (Sp.oth I J))) ∧ Below w.heap.size w w' := by
  have hsz := inA_size I
  have hszJ := inA_size J
  have HRI := hid ((in_row w I 25).of_block (w' := (w.alloc (.cells (inA I) 25)).alloc (.cells (inA J) 25)) (((Below.refl _ _).alloc (Nat.le_refl _) _).block _ (by simp)))
  have HRJ := hid (in_row (w.alloc (.cells (inA I) 25)) J 25)
  have HBB := hid (((Below.refl w.heap.size w).alloc (Nat.le_refl _) (.cells (inA I) 25)).alloc (by simp) (.cells (inA J) 25))
  have hz0 : ((w.alloc (.cells (inA I) 25)).alloc (.cells (inA J) 25)).heap.size = w.heap.size + 2 := by simp
  simp only [World.size_alloc] at HRJ
  generalize hN : w.heap.size = N at *
  go_enter Tryz.func5, Tryz.ntmps5
  go_upto_region 1 with (refine wpList_alloc_in rfl rfl ?_; intro w1 hs1 hb1 hz1; rw [hz0] at hs1 hb1 hz1; have HS1 := hid hs1; have HI1 := hid (HRI.out.of_block (hb1.block N (by omega))); have HJ1 := hid (HRJ.out.of_block (hb1.block (N + 1) (by omega))); have HB1 := hid (HBB.out.trans (hb1.mono (by omega))); clear hs1 hb1)
  clear HRI HRJ HBB
  have c2 := in_args HJ1.out 2 (by omega)
  have c3 := in_args HJ1.out 3 (by omega)
  have d2 := in_args HI1.out 2 (by omega)
  have d3 := in_args HI1.out 3 (by omega)
  have z2 := HI1.out.frozen 2
  have z3 := HI1.out.frozen 3
  have HI2 := hid (in_set HI1.out 2 (J.args 2) (Sp.oth1_at I J))
  have HI3 := hid (in_set HI2.out 3 (J.args 3) (Sp.oth2_at I J))
  have HO3 := hid ((Only.set N 2 w1 (.int .i64 (J.args 2))).trans (Only.set N 3 (w1.setCell ⟨N, 2, none⟩ (.int .i64 (J.args 2))) (.int .i64 (J.args 3))))
  try rw [hN]
  try rw [hz0]
  go_upto_region 3 with fail
  generalize (w1.setCell ⟨N, 2, none⟩ (.int .i64 (J.args 2))).setCell ⟨N, 3, none⟩ (.int .i64 (J.args 3)) = w3 at *
  have HJ3 := hid (HJ1.out.of_block (HO3.out.block (N + 1) (by omega)))
  have HS3 := hid (HS1.out.of_block (HO3.out.block (N + 2) (by omega)))
  have HB3 := hid (HB1.out.trans (HO3.out.below (Nat.le_refl N)))
  clear c2 c3 d2 d3 z2 z3 HI1 HI2 HJ1 HS1 HB1 HO3
  go_wp2_with (first | (refine wpList_load8 rfl (.tmp 15) rfl (N + 1) 12 J.sec (by rfl) (fun j hj => in_sec HJ3.out j hj) ?_) | (refine wpList_store_sec rfl (.tmp 17) (.tmp 16) rfl N (Sp.oth2 I J) (Sp.oth I J) J.sec (by rfl) (by rfl) HI3.out (Sp.oth_at I J) ?_; intro w4 hi4 ho4; have HI4 := hid hi4; have HS4 := hid (HS3.out.of_block (ho4.block (N + 2) (by omega))); have HB4 := hid (HB3.out.trans (ho4.below (Nat.le_refl N))); clear hi4 ho4) | (refine wpList_load_in rfl (.tmp 2) rfl N (Sp.oth I J) (by rfl) HI4.out ?_) | (refine wpList_store_in rfl (.tmp 4) (.tmp 18) rfl (N + 2) (Sp.oth I J) in0 (by first | rfl | (rw [hz0]; rfl)) (by rfl) HS4.out ?_; intro w5 hi5 ho5; have HI5 := hid hi5; have HO5 := hid ho5; clear hi5 ho5))
  have hld := run_loadVar_in HI5.out
  refine bodyPost_ret (v := .agg (inA (Sp.oth I J))) (results_cell_one (q := 4) (a := ⟨N + 2, 0, none⟩) rfl _ _ (by rfl) hld) (by rfl) ⟨rfl, ?_⟩
  exact HB4.out.trans (HO5.out.below (by omega))
end Go.Proofs.YtccndnckceagfabGreatDoorR
