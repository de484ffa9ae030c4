/-
  The program's Compile: what it answers.
-/
import Derived.Test.YtccndnckceagfabDoorHMak5
import Derived.Test.YtccndnckceagfabDoorHSnd7
namespace Go.Proofs.YtccndnckceagfabDoor
open Go.RowKit
open Sp in
theorem MI.bd {k : Int} (hk : 6 ≤ k ∧ k ≤ 10) {nb : Nat} {i : Ins} (h : MI k nb i) : i.d ≤ 1000 ∧ i.x ≤ 1000 ∧ i.y ≤ 1000 := by
  cases h with
  | ar o d x y ha hd hx hy => unfold Rg at hd hx hy; refine ⟨?_, ?_, ?_⟩ <;> (simp only []; omega)
  | num d n hd hn => unfold Rg at hd; refine ⟨?_, ?_, ?_⟩ <;> (simp only []; omega)
  | two o d x ho hd hx => unfold Rg at hd hx; refine ⟨?_, ?_, ?_⟩ <;> (simp only []; omega)
  | sto o x y ho hx hy => unfold Rg at hx hy; refine ⟨?_, ?_, ?_⟩ <;> (simp only []; omega)
  | jmp t ht => refine ⟨?_, ?_, ?_⟩ <;> (simp only []; omega)
  | cnd x t u hx ht hu => unfold Rg at hx; refine ⟨?_, ?_, ?_⟩ <;> (simp only []; omega)
  | ret => refine ⟨?_, ?_, ?_⟩ <;> (simp only []; omega)
  | put d x hd hx => unfold Rg at hx; refine ⟨?_, ?_, ?_⟩ <;> (simp only []; omega)
  | get d x hd hx => unfold Rg at hd; refine ⟨?_, ?_, ?_⟩ <;> (simp only []; omega)
  | clr d hd => unfold Rg at hd; refine ⟨?_, ?_, ?_⟩ <;> (simp only []; omega)
/-- the homes of a program that was read -/
structure HomesOf (s : ByteArray) (k : Int) (H : Nat → Int) (K : Nat → Bool) : Prop where
  hom : Sp.Homes k (Sp.codeTo (Sp.B s) (s.size / 4)) (Sp.blksTo (Sp.B s) (s.size / 4)) (Sp.HX H) (Sp.lvX (Sp.rounds (Sp.codeTo (Sp.B s) (s.size / 4)) (Sp.blksTo (Sp.B s) (s.size / 4)) (Sp.blocksTo (Sp.B s) (s.size / 4))) (Sp.codeTo (Sp.B s) (s.size / 4)).length)
  few : Sp.cT (fun r => decide (10 ≤ H r)) 52 ≤ Sp.cT K 52
  core : Sp.IsCore (Sp.standsB (Sp.B s) (s.size / 4)) (Sp.meetB (Sp.B s) (s.size / 4)) (k - 2) (fun n => K (Sp.ord n))
theorem src_rd {s : ByteArray} (hp : Sp.progB (Sp.B s) s.size 0 = true) : Sp.Rd 0 s (Sp.codeTo (Sp.B s) (s.size / 4)) (Sp.blksTo (Sp.B s) (s.size / 4)) := by
  have h := Sp.rd_of 0 (Int.le_refl 0) s hp
  rw [src_eq hp] at h
  exact h
open Sp in
theorem homesOf {s : ByteArray} (hp : progB (B s) s.size 0 = true) (hu : ¬ Unset (B s) (s.size / 4)) {k : Int} (hk : 6 ≤ k ∧ k ≤ 10) {c : Nat} (hc : (c : Int) = k - 2) {K : Nat → Bool} {tk : List Nat}
    (h : Peeled (codeTo (B s) (s.size / 4)) (blksTo (B s) (s.size / 4)) (blocksTo (B s) (s.size / 4)) c K tk) : HomesOf s k (hmsOf (codeTo (B s) (s.size / 4)) (blksTo (B s) (s.size / 4)) (blocksTo (B s) (s.size / 4)) c K tk) K := by
  obtain ⟨hpt, hco⟩ := h
  have hc10 : c ≤ 10 := by omega
  have hc4 : 4 ≤ c := by omega
  unfold hmsOf
  have hlen : (codeTo (B s) (s.size / 4)).length = s.size / 4 := codeTo_len _ _
  obtain ⟨G, hG⟩ : ∃ G, G = ofZ (ofTo (codeTo (B s) (s.size / 4)) (rounds (codeTo (B s) (s.size / 4)) (blksTo (B s) (s.size / 4)) (blocksTo (B s) (s.size / 4))) (codeTo (B s) (s.size / 4)).length (codeTo (B s) (s.size / 4)).length) (rounds (codeTo (B s) (s.size / 4)) (blksTo (B s) (s.size / 4)) (blocksTo (B s) (s.size / 4)) 0) 52 := ⟨_, rfl⟩
  rw [← hG] at hpt hco ⊢
  obtain ⟨g1, g2⟩ := graph_of hp (G := G) (by rw [hG, hlen])
  have hM : ∀ a b, a < 52 → b < 52 → G (52 + a * 52 + b) = G (52 + b * 52 + a) := by
    intro a b ha hb
    rw [Bool.eq_iff_iff, g2 a b ha hb, g2 b a hb ha]
    exact ⟨Meet.symm, Meet.symm⟩
  have hMr : ∀ a, a < 52 → G (52 + a * 52 + a) = false := by
    intro a ha
    cases hx : G (52 + a * 52 + a)
    · rfl
    · exact absurd rfl ((g2 a a ha ha).1 hx).1
  have h0 : HomeOf (fun a b => G (52 + a * 52 + b)) c (fun _ => false) (fun _ => -1) := ⟨fun _ _ _ => rfl, fun _ _ h => (by cases h), fun _ _ _ _ h => (by cases h)⟩
  have hnd : (coreL K).Nodup := by
    unfold coreL
    exact List.Pairwise.filter _ List.nodup_range
  have h1 := home_core hM hMr hc10 (coreL K) _ _ h0 (fun r hr => by
    unfold coreL at hr
    rw [List.mem_filter, List.mem_range] at hr
    exact ⟨hr.1, rfl⟩) hnd
  have h1' : HomeOf (fun a b => G (52 + a * 52 + b)) c K ((coreL K).foldl (oneH (fun a b => G (52 + a * 52 + b)) c) (fun _ => -1)) := h1.congr (fun r hr => by
    rw [Bool.false_or, Bool.eq_iff_iff, List.contains_iff_mem]
    unfold coreL
    rw [List.mem_filter, List.mem_range]
    exact ⟨fun x => x.2, fun x => ⟨hr, x⟩⟩)
  obtain ⟨h2, h3⟩ := home_taken hM hMr hc10 hpt _ h1'
  rw [List.foldl_append]
  generalize tk.reverse.foldl (oneH (fun a b => G (52 + a * 52 + b)) c) ((coreL K).foldl (oneH (fun a b => G (52 + a * 52 + b)) c) (fun _ => -1)) = Hf at *
  obtain ⟨a1, a2, _⟩ := homes_of hp hu hk hc rfl rfl rfl rfl hG h2
  obtain ⟨b1, b2, b3⟩ := seat_ok hc4 hc10 a2 a1 h2 4 (by omega)
  obtain ⟨_, _, a3⟩ := homes_of hp hu hk hc rfl rfl rfl rfl hG b1
  refine ⟨a3 (fun n hn hl hlt => b3 n hn hl hlt), ?_, ?_⟩
  · have hs := slots_core hc10 h2 (fun r hr hL hS => ((h3 r hr).2 hL hS).2)
    refine Nat.le_trans (cT_mono 52 (fun r hr hx => ?_)) hs
    simp only [decide_eq_true_eq] at hx ⊢
    exact (b2 r hr).1 hx
  · rw [← hc]
    refine (core_ord hco).congr (fun n hn => ?_) (fun n j hn hj => ?_)
    · rw [Bool.eq_iff_iff, standsB_iff, ← rv_ord n hn]
      exact g1 _ (ord_lt n)
    · rw [Bool.eq_iff_iff, meetB_iff, ← rv_ord n hn, ← rv_ord j hj]
      exact g2 _ _ (ord_lt n) (ord_lt j)
/-- what was made of a program -/
structure MadeOf (s t : ByteArray) (k : Int) (H : Nat → Int) (K : Nat → Bool) : Prop where
  hs : HomesOf s k H K
  md : Sp.Made s t k (Sp.codeTo (Sp.B s) (s.size / 4)) (Sp.blksTo (Sp.B s) (s.size / 4)) (Sp.HX H) (Sp.lvX (Sp.rounds (Sp.codeTo (Sp.B s) (s.size / 4)) (Sp.blksTo (Sp.B s) (s.size / 4)) (Sp.blocksTo (Sp.B s) (s.size / 4))) (Sp.codeTo (Sp.B s) (s.size / 4)).length)
theorem madeOf {s : ByteArray} (hp : Sp.progB (Sp.B s) s.size 0 = true) (hs : s.size ≤ 256) {k : Int} (hk : 6 ≤ k ∧ k ≤ 10) {H : Nat → Int} {K : Nat → Bool} (h : HomesOf s k H K) :
    MadeOf s (Sp.wrD (laidOf (Sp.codeTo (Sp.B s) (s.size / 4)) (Sp.blksTo (Sp.B s) (s.size / 4)) (Sp.blocksTo (Sp.B s) (s.size / 4)) k H)) k H K :=
  ⟨h, Sp.made_of h.hom hp (src_rd hp) hs (by rw [Sp.wrD_size]; rfl) (fun j hj => Sp.wrD_bytes hk (Sp.cmp_MI h.hom (src_rd hp)) j hj)⟩
/-- what Compile answers -/
def CompR (s : ByteArray) (k : Int) (t : ByteArray) (f : Int) : Prop :=
  (f ≠ 0 ∧ (∃ n, Sp.CheckR s n f) ∧ t = ⟨#[]⟩) ∨
  ((∃ n, Sp.CheckR s n 0) ∧ Sp.macB k = false ∧ t = ⟨#[]⟩ ∧ f = 2) ∨
  ((∃ n, Sp.CheckR s n 0) ∧ Sp.FormedR s 0 ∧ Sp.macB k = true ∧ f = 0 ∧ ∃ H K, MadeOf s t k H K)
def CompPost (s : ByteArray) (k : Int) (w : World) (e : Ending) (w' : World) : Prop :=
  ∃ t f, e = .returned (.tuple #[.string t, .int .i64 f]) ∧ CompR s k t f ∧ Below w.heap.size w w'

set_option maxRecDepth 20000 in
set_option maxHeartbeats 2000000 in
theorem compile_any (s : ByteArray) (k : Int) (w : World) (hs : s.size ≤ maxLen) (hA : ArgsAt w) :
    Calls Tryd.prog 10 #[.string s, .int .i64 k] w fun e w' => CompPost s k w e w' := by
  have HRS := hid (readSafe_any s w hs hA)
  have HA := hid hA
  clear hA
  go_enter Tryd.func10, Tryd.ntmps10
  go_wp2_with fail
  refine HRS.out.mono ?_
  rintro e w2 ⟨vC, vB, n, f, rfl, hf, hsrc, hb2, ⟨aC, cC, rfl, hn0⟩, ⟨aB, nB, cB, rfl⟩⟩
  have HF := hid hf
  have HSRC := hid hsrc
  have HB2 := hid hb2
  have hsz2 := hb2.size
  clear hf hsrc hb2 HRS
  have HB3 := hid (show Below w2.heap.size w2 (w2.alloc (.cells #[.slice aC n.toNat cC, .slice aB nB cB] 41)) from (Below.refl _ _).alloc (Nat.le_refl _) _)
  have HBW3 := hid (HB2.out.trans (HB3.out.mono hsz2))
  have HRP := hid (row_two w2 (.slice aC n.toNat cC) (.slice aB nB cB))
  have hsa : (w2.alloc (.cells #[.slice aC n.toNat cC, .slice aB nB cB] 41)).heap.size = w2.heap.size + 1 := by simp
  have HHM := hid (fun (W : World) => hasMachine_any k W)
  by_cases h0 : f = 0
  · subst h0
    cases hmac : Sp.macB k
    · rw [hmac] at HHM
      have HMC := hid hmac
      clear hmac
      go_wp2_with (go_at_call 15; refine (HHM.out _).mono ?_; rintro e w' ⟨rfl, rfl⟩)
      go_ret2
      exact ⟨_, 2, rfl, Or.inr (Or.inl ⟨⟨n, HF.out⟩, HMC.out, rfl, rfl⟩), HBW3.out⟩
    · rw [hmac] at HHM
      have HMC := hid hmac
      have hk : 6 ≤ k ∧ k ≤ 10 := by
        unfold Sp.macB at hmac
        simpa using hmac
      clear hmac
      obtain ⟨hsr, hfr⟩ := HSRC.out rfl
      obtain ⟨z256, zp, zu⟩ := hfr.zero
      have hp4 := Sp.size_of_progB zp
      have HZP := hid zp
      have HZU := hid zu
      have HFR := hid hfr
      have HSR := hid hsr
      clear zp zu hfr hsr
      obtain ⟨c, hc⟩ : ∃ c : Nat, k - 2 = (c : Int) := ⟨(k - 2).toNat, by omega⟩
      have HMD := hid (fun K tk hpe => madeOf HZP.out z256 hk (homesOf HZP.out HZU.out hk hc.symm (K := K) (tk := tk) hpe))
      have HMA := hid (machineC_any w2.heap.size (Sp.blocksTo (Sp.B s) (s.size / 4)) w.heap.size c (Sp.codeTo (Sp.B s) (s.size / 4)) (Sp.blksTo (Sp.B s) (s.size / 4)) k (w2.alloc (.cells #[.slice aC n.toNat cC, .slice aB nB cB] 41)) hk hc ((HSR.out.move HB3.out).prog HRP.out) (HA.out.move HBW3.out) (Sp.blksTo_len _ _) (by rw [Sp.codeTo_len]; omega) (by rw [Sp.codeTo_len]; omega) hp4.2.2.1 (Sp.blocks_pos _ _ (by omega) hp4.2.2.2) (fun i hi => by
          obtain ⟨j, hj, rfl⟩ := List.getElem_of_mem hi
          rw [Sp.codeTo_get]
          rw [Sp.codeTo_len] at hj
          exact (Sp.insIs_of (Sp.dok_of_progB HZP.out j hj)).bd) (fun K tk hpe => by
          have hm := HMD.out K tk hpe
          have hsz := hm.md.size.1
          rw [Sp.wrD_size] at hsz
          have hS := fun j hj => Sp.form_S ((src_rd HZP.out).form j hj)
          refine ⟨by omega, Sp.cmp_len hm.hs.hom hS (by rw [← (src_rd HZP.out).bis.len]; exact (src_rd HZP.out).l10) (by rw [Sp.codeTo_len]; omega), fun i hi => ?_⟩
          have hmi := Sp.cmp_MI hm.hs.hom (src_rd HZP.out) i hi
          exact ⟨hmi.wok hk, MI.bd hk hmi⟩))
      rw [hsa] at HMA
      go_wp2_with (first | (go_at_call 15; refine (HHM.out _).mono ?_; rintro e w' ⟨rfl, rfl⟩) | (go_at_call 22; refine HMA.out.mono ?_; rintro e w4 ⟨K, tk, hpe, rfl, hb4⟩; have HPE := hid hpe; have HB4 := hid (HBW3.out.trans (hb4.mono (by omega))); clear hpe hb4))
      go_ret2
      exact ⟨_, 0, rfl, Or.inr (Or.inr ⟨⟨n, HF.out⟩, HFR.out, HMC.out, rfl, _, _, HMD.out K tk HPE.out⟩), HB4.out⟩
  · have HF0 := hid h0
    go_wp2_with fail
    go_ret2
    exact ⟨_, f, rfl, Or.inl ⟨HF0.out, ⟨n, HF.out⟩, rfl⟩, HBW3.out⟩
end Go.Proofs.YtccndnckceagfabDoor
