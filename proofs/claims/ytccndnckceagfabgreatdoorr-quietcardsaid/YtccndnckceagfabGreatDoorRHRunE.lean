/-
  The program's Run is the document's.
  The program's Run; the statement on Run, walked.
-/
import Derived.Test.YtccndnckceagfabGreatDoorRHRunC
import Derived.Test.YtccndnckceagfabGreatDoorRG03
import Derived.Test.YtccndnckceagfabGreatDoorRG14
namespace Go.Proofs.YtccndnckceagfabGreatDoorR
open Go.RowKit
namespace Sp

theorem src_ops {c : Nat → Int} {nb i : Nat} (h : okIns c nb 0 i = true) : c (4 * i) ≠ 62 ∧ c (4 * i) ≠ 60 ∧ c (4 * i) ≠ 126 := by
  have := ins_bytes h
  unfold InsB at this
  simp only [arithB, Bool.or_eq_true, beq_iff_eq] at this
  omega
theorem stepU_src {s : ByteArray} (hp : progB (B s) s.size 0 = true) {i : Nat} (hi : i < s.size / 4) (st : St) : stepU s st i = stepT s st i := by
  have := src_ops (okIns_of_progB hp i hi)
  unfold stepU
  rw [if_neg (by omega)]
theorem runG_src {s : ByteArray} (hp : progB (B s) s.size 0 = true) : ∀ (f : Nat) (st : St) (i : Nat), st.next = i → i < s.size / 4 → runG (stepU s) f st = runG (stepT s) f st := by
  intro f
  induction f with
  | zero => intro st i _ _; rfl
  | succ f ih =>
    intro st i hn hi
    simp only [runG]
    rw [hn, Int.toNat_natCast, stepU_src hp hi]
    cases hb : (stepT s st i).2
    · rfl
    · rw [if_pos rfl, if_pos rfl]
      obtain ⟨j, hj, hjn⟩ := stepT_next hp hi hb
      exact ih _ j hjn hj
/-- what a step of the document leaves as it was -/
theorem memO_rs (st : St) (o a b n : Int) (T : ByteArray) : (memO st o a b n T).regs = st.regs ∧ (memO st o a b n T).slots = st.slots := by
  unfold memO memS
  repeat' split
  all_goals exact ⟨rfl, rfl⟩
theorem stepT_rs (s : ByteArray) (st : St) (i : Nat) : (stepT s st i).1.regs = st.regs ∧ (stepT s st i).1.slots = st.slots := by
  unfold stepT
  repeat' split
  all_goals first | exact ⟨rfl, rfl⟩ | exact memO_rs _ _ _ _ _ _
theorem runG_rs (s : ByteArray) : ∀ (f : Nat) (st : St), (runG (stepT s) f st).regs = st.regs ∧ (runG (stepT s) f st).slots = st.slots := by
  intro f
  induction f with
  | zero => intro st; exact ⟨rfl, rfl⟩
  | succ f ih =>
    intro st
    simp only [runG]
    have h := stepT_rs s st st.next.toNat
    split
    · have h2 := ih (stepT s st st.next.toNat).1
      exact ⟨h2.1.trans h.1, h2.2.trans h.2⟩
    · exact h
theorem RunR.det {s : ByteArray} {I : Inp} {fuel : Int} {st st' : St} {e e' : Int} (h : RunR s I fuel st e) (k : RunR s I fuel st' e') : st = st' ∧ e = e' := by
  rcases h with ⟨a, b, c⟩ | ⟨a, b, c, d⟩ | ⟨a, b, c, d⟩ <;> rcases k with ⟨a', b', c'⟩ | ⟨a', b', c', d'⟩ | ⟨a', b', c', d'⟩
  · exact ⟨c.trans c'.symm, b.eq b'⟩
  · exact absurd (b.eq a') a
  · exact absurd (b.eq a') a
  · exact absurd (b'.eq a) a'
  · exact ⟨d.trans d'.symm, c.trans c'.symm⟩
  · rw [b] at b'; cases b'
  · exact absurd (b'.eq a) a'
  · rw [b] at b'; cases b'
  · exact ⟨d.trans d'.symm, c.trans c'.symm⟩
end Sp
theorem outL_congr {a b : Sp.St} (h1 : a.status = b.status) (h2 : a.value = b.value) (h3 : a.pub = b.pub) (h4 : a.sec = b.sec) (h5 : a.trace = b.trace) (h6 : a.regs = b.regs) (h7 : a.slots = b.slots) : outL a = outL b := by
  unfold outL
  refine List.map_congr_left fun j _ => ?_
  unfold outV stF
  rw [h1, h2, h3, h4, h5, h6, h7]
  rw [if_neg (show ¬ 130 + j = 0 by omega), if_neg (show ¬ 130 + j = 0 by omega), if_neg (show ¬ 130 + j ≤ 128 by omega), if_neg (show ¬ 130 + j ≤ 128 by omega), if_neg (show ¬ 130 + j = 129 by omega), if_neg (show ¬ 130 + j = 129 by omega)]

theorem rel_bg (k : Int) (I : Sp.Inp) (p : Nat → Nat) : Sp.Rel k (bg I) (Sp.start p I 0) := ⟨fun _ _ => rfl, fun _ _ _ => rfl, rfl, rfl, rfl, rfl⟩
theorem rel_start (I : Sp.Inp) : Sp.Rel 0 (argM I 4) (Sp.start Sp.pS I 4) := by
  have h1 := (rel_bg 0 I Sp.pS).wr (by omega) (a := 97) (by decide) (I.args 0)
  have h2 := h1.wr (by omega) (a := 98) (by decide) (I.args 1)
  have h3 := h2.wr (by omega) (a := 65) (by decide) (I.args 2)
  exact h3.wr (by omega) (a := 66) (by decide) (I.args 3)
theorem argM_flags (I : Sp.Inp) (j : Nat) : (argM I j).ended = false ∧ (argM I j).status = 2 := by
  induction j with
  | zero => exact ⟨rfl, rfl⟩
  | succ j ih =>
    obtain ⟨_, _, _, _, e5, e6⟩ := Sp.wrP_rest (argM I j) (argP j) (I.args j)
    exact ⟨e5.trans ih.1, e6.trans ih.2⟩
/-- what the program tells of a source program's run is what the document tells -/
theorem run_eq {s : ByteArray} {I : Sp.Inp} {F : Nat} (hp : Sp.progB (Sp.B s) s.size 0 = true) :
    outL (outSt (Sp.walkP (Sp.codeK 0 (Sp.B s) (s.size / 4)) (Sp.strP (Sp.blksTo (Sp.B s) (s.size / 4))) F (argM I 4) 0)) = outL (Sp.runG (Sp.stepT s) F (Sp.start Sp.pS I 4)) := by
  have hz := Sp.size_of_progB hp
  have fl := argM_flags I 4
  have fin := Sp.walk_sim (Int.le_refl 0) (by omega) hp (fun b hb => Sp.str_fst _ _ b hb) (fun st i hi hb => by rw [Sp.stepU_src hp hi] at hb ⊢; exact Sp.stepT_next hp hi hb) F (argM I 4) (Sp.start Sp.pS I 4) 0 (rel_start I) fl.1 fl.2 rfl (by omega)
  rw [Sp.runG_src hp F _ 0 rfl (by omega)] at fin
  have rs := Sp.runG_rs s F (Sp.start Sp.pS I 4)
  exact outL_congr fin.status fin.rel.value fin.rel.pub fin.rel.sec fin.rel.trace rs.1.symm rs.2.symm
end Go.Proofs.YtccndnckceagfabGreatDoorR

namespace Go.Proofs.YtccndnckceagfabGreatDoorR
open Go.RowKit

set_option maxRecDepth 20000 in
set_option maxHeartbeats 4000000 in
theorem prun_any (s : ByteArray) (I : Sp.Inp) (fuel : Int) (w : World) (hs : s.size ≤ maxLen) (hA : ArgsAt w) (hT : Tab w) :
    Calls Tryz.prog 9 #[.string s, .agg (inA I), .int .i64 fuel] w fun e w' => RunPost s I fuel w e w' := by
  have hsz := inA_size I
  have hlt1 := hT.lt
  have HA := hid hA
  have HT := hid hT
  have HRI := hid (in_row w I 25)
  have HBB := hid ((Below.refl w.heap.size w).alloc (Nat.le_refl _) (.cells (inA I) 25))
  clear hA hT
  go_enter Tryz.func9, Tryz.ntmps9
  go_upto_region 1 with (refine wpList_alloc_out rfl rfl ?_; intro w1 ho1 hb1 hz1; have HO1 := hidd ho1; have HB1 := hidd hb1; clear ho1 hb1)
  have hz1' : w1.heap.size = w.heap.size + 2 := by rw [hz1]; simp
  have HRI1 := hid (HRI.out.of_block (HB1.out.block w.heap.size (by simp)))
  have HO1' : Hid (OutAt w1 (w.heap.size + 1) 0 st0) := by have := HO1.out; simp only [World.size_alloc] at this; exact hid this
  have HBW1 := hid (HBB.out.trans (HB1.out.mono (by simp)))
  clear HO1 HRI HBB HB1 hz1
  have HRS := hid (readSource_any s w1 hs (HA.out.of_block (HBW1.out.block 0 (by omega))))
  generalize hN : w.heap.size = N at *
  go_wp2_with fail
  refine HRS.out.mono ?_
  rintro e w2 ⟨vC, vB, f, rfl, hf, hsrc, hb2, ⟨aC, nC, cC, rfl⟩, ⟨aB, nB, cB, rfl⟩⟩
  have HF := hidd hf
  have HSRC := hidd hsrc
  have HRI2 := hidd (HRI1.out.of_block (hb2.block N (by omega)))
  have HO2 := hidd (HO1'.out.of_block (hb2.block (N + 1) (by omega)))
  have HBW2 := hidd (HBW1.out.trans (hb2.mono (by omega)))
  have hsz2 := hb2.size
  clear HRI1 HO1' HBW1 hf hsrc hb2 HRS
  have HB3 := hidd (below_box w2 (.cells #[.slice aC nC cC, .slice aB nB cB] 47))
  have HRI3 := hidd (HRI2.out.of_block (HB3.out.block N (by omega)))
  have HO3 := hidd (HO2.out.of_block (HB3.out.block (N + 1) (by omega)))
  have HBW3 := hidd (HBW2.out.trans (HB3.out.mono (by omega)))
  have hsz3 : (w2.alloc (.cells #[.slice aC nC cC, .slice aB nB cB] 47)).heap.size = w2.heap.size + 1 := by simp
  have HRP := hidd (row_two w2 (.slice aC nC cC) (.slice aB nB cB))
  by_cases h0 : f = 0
  · subst h0
    have HS2 := hidd (HSRC.out rfl)
    have HG3 := hidd ((HS2.out.move HB3.out).prog HRP.out)
    obtain ⟨z256, zp, _⟩ := HF.out.zero
    have HZP := hidd zp
    have HMB := hidd (mayBegin_any I fuel (w2.alloc (.cells #[.slice aC nC cC, .slice aB nB cB] 47)))
    clear zp
    cases hm : Sp.mayB I fuel
    · have HM := hidd hm
      rw [hm] at HMB
      clear hm
      go_wp2_with (first | (refine wpList_load_in rfl (.tmp 4) rfl N I (by rfl) HRI3.out ?_) | (go_at_call 15; refine HMB.out.mono ?_; rintro e w4 ⟨rfl, hb4⟩; have HO4 := hidd (HO3.out.of_block (hb4.block (N + 1) (by omega))); have HBW4 := hidd (HBW3.out.trans (hb4.mono (by omega))); clear hb4) | (refine wpList_build_out rfl rfl ?_) | (refine wpList_store_out rfl (.tmp 6) (.tmp 23) rfl (N + 1) 0 st0 st0 (by rfl) (by rfl) HO4.out ?_; intro w5 ho5 ho5'; have HO5 := hidd ho5; have HY5 := hidd ho5'; clear ho5 ho5'))
      refine bodyPost_ret (v := .tuple #[.agg (outL st0).toArray, .int .i64 2]) (results_cell_two (q := 6) (r := 7) (a := ⟨N + 1, 0, none⟩) rfl _ _ (by rfl) (run_loadVar_out HO5.out)) (by rfl) ⟨st0, 2, rfl, Or.inr (Or.inl ⟨HF.out, HM.out, rfl, rfl⟩), ?_⟩
      rw [hN]
      exact HBW4.out.trans (HY5.out.below (by omega))
    · have HM := hidd hm
      rw [hm] at HMB
      have hfu := Sp.may_fuel hm
      have HCUT := hidd (cut_args I fuel hm)
      clear hm
      obtain ⟨F, rfl⟩ := Int.eq_ofNat_of_zero_le hfu.1
      have hp4 := Sp.size_of_progB HZP.out
      have HSO : Hid (∀ W, Below (w2.heap.size + 1) (w2.alloc (.cells #[.slice aC nC cC, .slice aB nB cB] 47)) W → Calls Tryz.prog 16 #[.pointer (some ⟨w2.heap.size, 0, none⟩), .agg (inA I), .int .i64 (F : Int)] W fun e w' => e = .returned (.agg (outL (Sp.runG (Sp.stepT s) F (Sp.start Sp.pS I.cut 4))).toArray) ∧ Below W.heap.size W w') := by
        show ∀ W, _
        intro W hW
        have hg := HG3.out.move (w' := W) (by rw [hsz3]; exact hW)
        rw [← Sp.codeK_src _ _ (fun i hi => okAt_of_progB HZP.out i hi)] at hg
        have h := source_any _ _ _ _ I.cut F W hg (HA.out.of_block ((hW.block 0 (by omega)).trans (HBW3.out.block 0 (by omega)))) (HT.out.of_block ((hW.block 1 (by omega)).trans (HBW3.out.block 1 (by omega)))) (by omega) HCUT.out (by rw [Sp.codeK_len]; omega) (by rw [Sp.codeK_len]; omega) (fun j hj => code_ok (by omega) HZP.out j hj) (fun q => str_bd _ _ (by omega) q)
        rw [run_eq HZP.out, inA_cut] at h
        exact h
      go_wp2_with (first | (refine wpList_load_in rfl (.tmp 4) rfl N I (by rfl) HRI3.out ?_) | (go_at_call 15; refine HMB.out.mono ?_; rintro e w4 ⟨rfl, hb4⟩; rw [hsz3] at hb4; have HO4 := hidd (HO3.out.of_block (hb4.block (N + 1) (by omega))); have HRI4 := hidd (HRI3.out.of_block (hb4.block N (by omega))); have HSW := hidd (HSO.out w4 hb4); have HBW4 := hidd (HBW3.out.trans (hb4.mono (by omega))); have hs4 := hb4.size; rw [hsz3] at hs4; clear hb4) | (refine wpList_load_in rfl (.tmp 4) rfl N I (by rfl) HRI4.out ?_) | (go_at_call 16; refine HSW.out.mono ?_; rintro e w5 ⟨rfl, hb5⟩; have HO5 := hidd (HO4.out.of_block (hb5.block (N + 1) (by omega))); have HBW5 := hidd (HBW4.out.trans (hb5.mono (by omega))); clear hb5) | (refine wpList_store_out rfl (.tmp 6) (.tmp 26) rfl (N + 1) 0 _ st0 (by rfl) (by rfl) HO5.out ?_; intro w6 ho6 ho6'; have HO6 := hidd ho6; have HY6 := hidd ho6'; clear ho6 ho6'))
      refine bodyPost_ret (v := .tuple #[.agg (outL (Sp.runG (Sp.stepT s) F (Sp.start Sp.pS I.cut 4))).toArray, .int .i64 0]) (results_cell_two (q := 6) (r := 7) (a := ⟨N + 1, 0, none⟩) rfl _ _ (by rfl) (run_loadVar_out HO6.out)) (by rfl) ⟨_, 0, rfl, Or.inr (Or.inr ⟨HF.out, HM.out, rfl, rfl⟩), ?_⟩
      rw [hN]
      exact HBW5.out.trans (HY6.out.below (by omega))
  · have HF0 := hidd h0
    go_wp2_with (first | (refine wpList_build_out rfl rfl ?_) | (refine wpList_store_out rfl (.tmp 6) (.tmp 17) rfl (N + 1) 0 st0 st0 (by rfl) (by rfl) HO3.out ?_; intro w5 ho5 ho5'; have HO5 := hidd ho5; have HY5 := hidd ho5'; clear ho5 ho5'))
    refine bodyPost_ret (v := .tuple #[.agg (outL st0).toArray, .int .i64 f]) (results_cell_two (q := 6) (r := 7) (a := ⟨N + 1, 0, none⟩) rfl _ _ (by rfl) (run_loadVar_out HO5.out)) (by rfl) ⟨st0, f, rfl, Or.inl ⟨HF0.out, HF.out, rfl⟩, ?_⟩
    rw [hN]
    exact HBW3.out.trans (HY5.out.below (by omega))

end Go.Proofs.YtccndnckceagfabGreatDoorR
