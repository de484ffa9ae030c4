/-
  The statement on runs that differ in secrets alone, walked.
-/
import Derived.Test.YtccndnckceagfabGreatDoorRG16
namespace Go.Proofs.YtccndnckceagfabGreatDoorR
open Go.RowKit

namespace Sp
/-- a program that handles a secret -/
def careful : ByteArray := ⟨#[76, 65, 98, 46, 94, 65, 65, 66, 83, 97, 65, 46, 114, 65, 46, 46]⟩
theorem careful_prog : progB (B careful) careful.size 0 = true := by decide +kernel
theorem careful_formed : FormedR careful 0 := by
  refine Or.inr (Or.inr (Or.inr ⟨by decide, careful_prog, ?_, rfl⟩))
  rintro ⟨v, hv, ha, hw⟩
  obtain ⟨r, hr, rfl⟩ := let_rv hv
  have hi : ∀ i, i < careful.size / 4 → InsIs (B careful) i := fun i hn => insIs_of (dok_of_progB careful_prog i hn)
  have h1 := (live_eq careful_prog hi (by decide) hr 0 (by decide)).2 hw
  have key : ∀ i : _root_.Fin 52, argB (rv i.val) = false → rounds (codeTo (B careful) (careful.size / 4)) (blksTo (B careful) (careful.size / 4)) (blocksTo (B careful) (careful.size / 4)) 0 i.val = false := by decide +kernel
  rw [key ⟨r, hr⟩ ha] at h1
  cases h1
theorem careful_check : CheckR careful 4 0 := Or.inr (Or.inr ⟨careful_formed, by
  have key : ∀ i : _root_.Fin 4, shwAt (B careful) i.val = false := by decide +kernel
  intro i hi
  exact key ⟨i, hi⟩, rfl, rfl⟩)
end Sp
theorem CompR.with_check {s : ByteArray} {k : Int} {t : ByteArray} {f : Int} (h : CompR s k t f) (hm : Sp.macB k = true) {n e : Int} (hc : Sp.CheckR s n e) : (e ≠ 0 ∧ f = e ∧ t = ⟨#[]⟩) ∨ (e = 0 ∧ f = 0 ∧ Sp.FormedR s 0 ∧ ∃ H K, MadeOf s t k H K) := by
  rcases h with ⟨h1, ⟨n', h2⟩, h3⟩ | ⟨_, h2, _⟩ | ⟨⟨n', h2⟩, h3, _, h5, h6⟩
  · obtain ⟨_, e1⟩ := h2.eq hc
    exact Or.inl ⟨by rw [← e1]; exact h1, e1, h3⟩
  · rw [hm] at h2; cases h2
  · obtain ⟨_, e1⟩ := h2.eq hc
    exact Or.inr ⟨e1.symm, h5, h3, h6⟩
/-- what the beginnings of runs have -/
theorem begM (I : Sp.Inp) : ((argM I 4).pub = I.pub ∧ (argM I 4).trace = ⟨#[]⟩ ∧ (argM I 4).status = 2 ∧ (argM I 4).ended = false) ∧ ∀ p, Sp.rdP (argM I 4) p = if p = 27 then I.args 3 else if p = 26 then I.args 2 else if p = 1 then I.args 1 else if p = 0 then I.args 0 else 0 := by
  constructor
  · have ra : ∀ (j : Nat), (argM I j).pub = I.pub ∧ (argM I j).trace = ⟨#[]⟩ ∧ (argM I j).status = 2 ∧ (argM I j).ended = false := by
      intro j
      induction j with
      | zero => exact ⟨rfl, rfl, rfl, rfl⟩
      | succ j ih =>
        obtain ⟨a1, a2, a3, a4, a5, a6⟩ := Sp.wrP_all (argM I j) (argP j) (I.args j)
        obtain ⟨b1, b3, b4, b6⟩ := ih
        exact ⟨a1.trans b1, a3.trans b3, a4.trans b4, a6.trans b6⟩
    exact ra 4
  · intro p
    show Sp.rdP (Sp.wrP (Sp.wrP (Sp.wrP (Sp.wrP (bg I) 0 (I.args 0)) 1 (I.args 1)) 26 (I.args 2)) 27 (I.args 3)) p = _
    rw [Sp.rdP_wrP, Sp.rdP_wrP, Sp.rdP_wrP, Sp.rdP_wrP]
    have hb : Sp.rdP (bg I) p = 0 := by unfold Sp.rdP; split <;> rfl
    rw [hb]
    simp
theorem begK (I : Sp.Inp) : (argK I 4).pub = I.pub ∧ (argK I 4).trace = ⟨#[]⟩ ∧ (argK I 4).status = 2 ∧ (argK I 4).ended = false := by
  have rk : ∀ (j : Nat), (argK I j).pub = I.pub ∧ (argK I j).trace = ⟨#[]⟩ ∧ (argK I j).status = 2 ∧ (argK I j).ended = false := by
    intro j
    induction j with
    | zero => exact ⟨rfl, rfl, rfl, rfl⟩
    | succ j ih =>
      obtain ⟨a1, a2, a3, a4, a5, a6⟩ := Sp.wrP_all (argK I j) j (I.args j)
      obtain ⟨b1, b3, b4, b6⟩ := ih
      exact ⟨a1.trans b1, a3.trans b3, a4.trans b4, a6.trans b6⟩
  exact rk 4
theorem low_beg (I J : Sp.Inp) : Sp.LowS (argM I.cut 4) (argM (Sp.oth I J).cut 4) ∧ Sp.LowM (argK I.cut 4) (argK (Sp.oth I J).cut 4) := by
  obtain ⟨⟨a1, a2, a3, a4⟩, a5⟩ := begM I.cut
  obtain ⟨⟨b1, b2, b3, b4⟩, b5⟩ := begM (Sp.oth I J).cut
  obtain ⟨c1, c2, c3, c4⟩ := begK I.cut
  obtain ⟨d1, d2, d3, d4⟩ := begK (Sp.oth I J).cut
  have hp : I.cut.pub = (Sp.oth I J).cut.pub := rfl
  refine ⟨⟨fun r hr => ?_, by rw [a1, b1, hp], by rw [a2, b2], by rw [a3, b3], by rw [a4, b4]⟩, ⟨by rw [c1, d1, hp], by rw [c2, d2], by rw [c3, d3], by rw [c4, d4]⟩⟩
  have e1 : (Sp.oth I J).cut.args 1 = I.cut.args 1 := rfl
  have e0 : (Sp.oth I J).cut.args 0 = I.cut.args 0 := rfl
  have h27 : ¬ r = 27 := by omega
  have h26 : ¬ r = 26 := by omega
  rw [a5, b5]
  simp only [if_neg h27, if_neg h26, e1, e0]
theorem low_src {s : ByteArray} (hC : Sp.Rd 0 s (Sp.codeTo (Sp.B s) (s.size / 4)) (Sp.blksTo (Sp.B s) (s.size / 4))) (hs : ∀ j (h : j < (Sp.codeTo (Sp.B s) (s.size / 4)).length), Sp.showI (Sp.codeTo (Sp.B s) (s.size / 4))[j] = false) (I J : Sp.Inp) (F : Nat) :
    Sp.LowS (Sp.walkP (Sp.codeTo (Sp.B s) (s.size / 4)) (Sp.strP (Sp.blksTo (Sp.B s) (s.size / 4))) F (argM I.cut 4) 0) (Sp.walkP (Sp.codeTo (Sp.B s) (s.size / 4)) (Sp.strP (Sp.blksTo (Sp.B s) (s.size / 4))) F (argM (Sp.oth I J).cut 4) 0) :=
  Sp.low_walk (fun j hj => Sp.form_S (hC.form j hj)) hs _ F _ _ 0 (low_beg I J).1
theorem low_mac {s t : ByteArray} {k : Int} (hk : 6 ≤ k ∧ k ≤ 10) (hC : Sp.Rd 0 s (Sp.codeTo (Sp.B s) (s.size / 4)) (Sp.blksTo (Sp.B s) (s.size / 4))) (hD : Sp.Rd k t (Sp.codeK k (Sp.B t) (t.size / 4)) (Sp.blksTo (Sp.B t) (t.size / 4))) (ha : Sp.accB (Sp.codeTo (Sp.B s) (s.size / 4)) (Sp.blksTo (Sp.B s) (s.size / 4)) (Sp.codeK k (Sp.B t) (t.size / 4)) (Sp.blksTo (Sp.B t) (t.size / 4)) = true) (hs : ∀ j (h : j < (Sp.codeTo (Sp.B s) (s.size / 4)).length), Sp.showI (Sp.codeTo (Sp.B s) (s.size / 4))[j] = false) (I J : Sp.Inp) (F : Nat) :
    Sp.LowM (Sp.walkP (Sp.codeK k (Sp.B t) (t.size / 4)) (Sp.strP (Sp.blksTo (Sp.B t) (t.size / 4))) F (argK I.cut 4) 0) (Sp.walkP (Sp.codeK k (Sp.B t) (t.size / 4)) (Sp.strP (Sp.blksTo (Sp.B t) (t.size / 4))) F (argK (Sp.oth I J).cut 4) 0) := by
  obtain ⟨G, E, g1, g2, P⟩ := Sp.acc_play hk hC hD ha
  exact Sp.quiet_run P hs hC.l0 E g1 g2 hD.bis.zero F _ _ _ _ (beg_rel I.cut) (beg_rel (Sp.oth I J).cut) (low_beg I J).1 (low_beg I J).2
theorem show_src {s : ByteArray} {n : Int} (h : Sp.CheckR s n 0) : Sp.FormedR s 0 ∧ ∀ j (hj : j < (Sp.codeTo (Sp.B s) (s.size / 4)).length), Sp.showI (Sp.codeTo (Sp.B s) (s.size / 4))[j] = false := by
  rcases h with ⟨h, _⟩ | ⟨_, _, _, h⟩ | ⟨h1, h2, _, _⟩
  · exact absurd rfl h
  · cases h
  · refine ⟨h1, fun j hj => ?_⟩
    rw [Sp.codeTo_len] at hj
    rw [Sp.codeTo_get, Sp.shw_eq (Sp.dok_of_progB h1.zero.2.1 j hj)]
    exact h2 j hj
/-- what holds while the second input is made -/
def SOth (N : Nat) (X J : Sp.Inp) (w w' : World) : Prop := w'.rowIs N 25 20 (inF X) ∧ w'.rowIs (N + 1) 25 20 (inF J) ∧ Below N w w' ∧ N + 2 ≤ w'.heap.size
theorem SOth.below {N : Nat} {X J : Sp.Inp} {w w1 w2 : World} (h : SOth N X J w w1) (hb : Below w1.heap.size w1 w2) : SOth N X J w w2 := by
  obtain ⟨h1, h2, h3, h4⟩ := h
  exact ⟨h1.of_block (hb.block N (by omega)), h2.of_block (hb.block (N + 1) (by omega)), h3.trans (hb.mono (by omega)), Nat.le_trans h4 hb.size⟩
theorem wp_alloc_in {o : Oper} {a : Act} {w : World} {K : Act → World → Prop} {Q : Exit → Act → World → Prop} (ho : o.op = .alloc 25)
    (h : ∀ w', w'.rowIs w.heap.size 25 20 (inF in0) → Below w.heap.size w w' → w'.heap.size = w.heap.size + 1 → K (a.put o.dst (.pointer (some ⟨w.heap.size, 0, none⟩))) w') : Oper.wp Tryz.prog o a w K Q := by
  unfold Oper.wp execOp
  simp only [ho, Sem.run_bind, run_alloc_in, Result.andThen_ok, Sem.run_pure]
  exact h _ (in_row _ _ _) ((Below.refl _ _).alloc (Nat.le_refl _) _) (by simp)
theorem wp_store_in {o : Oper} {a : Act} {w : World} {K : Act → World → Prop} {Q : Exit → Act → World → Prop} (x y : Operand) (ho : o.op = .store 25 x y)
    (b : Nat) (I J : Sp.Inp) (hx : a.eval x = .pointer (some ⟨b, 0, none⟩)) (hy : a.eval y = .agg (inA I)) (hT : w.rowIs b 25 20 (inF J))
    (h : ∀ w', w'.rowIs b 25 20 (inF I) → Only b w w' → K (a.put o.dst undef) w') : Oper.wp Tryz.prog o a w K Q := by
  have hl : ((List.range 20).map (inF I)).length = 20 := by simp
  refine wp_store_mid 25 x y ho b 0 (inA I) hx hy (by rw [inA_size]; exact row_there hT 0 20 (by omega)) (by rw [inA_size]; exact info_in) (all_oneCell_toArray (inL_one I)) (h _ ?_ ?_)
  · have := row_setCells hT ((List.range 20).map (inF I)) 0 (by rw [hl]; omega)
    refine this.congr fun j hj => ?_
    rw [if_pos (by rw [hl]; omega), Nat.sub_zero, List.getD_eq_getElem?_getD, List.getElem?_map, List.getElem?_range hj]
    rfl
  · exact only_setCells w b 0 ((List.range 20).map (inF I))

set_option maxRecDepth 20000 in
set_option maxHeartbeats 8000000 in
theorem quiet_any (s : ByteArray) (k : Int) (I J : Sp.Inp) (n : Int) (w : World) (hs : s.size ≤ maxLen) (hk : -9223372036854775808 ≤ k ∧ k ≤ 9223372036854775807) (hI : I.wide) (hJ : J.wide) (hn : -9223372036854775808 ≤ n ∧ n ≤ 9223372036854775807) (hA : ArgsAt w) (hT : Tab w) :
    Calls Tryz.prog 3 #[.string s, .int .i64 k, .agg (inA I), .agg (inA J), .int .i64 n] w fun e w' => e = .returned (.bool true) ∧ Below w.heap.size w w' := by
  have hsz := inA_size I
  have hszJ := inA_size J
  have hlt1 := hT.lt
  have HA := hid hA
  have HT := hid hT
  have HRI := hid ((in_row w I 25).of_block (w' := (w.alloc (.cells (inA I) 25)).alloc (.cells (inA J) 25)) (((Below.refl _ _).alloc (Nat.le_refl _) _).block _ (by simp)))
  have HRJ := hid (in_row (w.alloc (.cells (inA I) 25)) J 25)
  have HBB := hid (((Below.refl w.heap.size w).alloc (Nat.le_refl _) (.cells (inA I) 25)).alloc (by simp) (.cells (inA J) 25))
  have hz0 : ((w.alloc (.cells (inA I) 25)).alloc (.cells (inA J) 25)).heap.size = w.heap.size + 2 := by simp
  have HTI := hid (fun W => tame_any I W hI)
  have HTJ := hid (fun W => tame_any J W hJ)
  have HOT := hid (fun W => other_any (Sp.tm I) (Sp.tm J) W)
  have HRG := hid (fun W => registers_any k W hk)
  have HMC := hid (show Sp.macB (Sp.rgs k) = true by have := rgs_bd k; simp [Sp.macB]; omega)
  have hkb := rgs_bd k
  generalize Sp.rgs k = k1 at *
  have HPK := hid (fun W => pick_any n 20001 W hn (by omega))
  have hpk := Sp.pk_bd n 20001 (by omega)
  generalize Sp.pk n 20001 = n1 at *
  obtain ⟨F, rfl⟩ := Int.eq_ofNat_of_zero_le hpk.1
  have hAX : Hid (∀ W, Below w.heap.size w W → ArgsAt W ∧ Tab W) := hid (fun W hW => ⟨HA.out.of_block (hW.block 0 (by omega)), HT.out.of_block (hW.block 1 (by omega))⟩)
  have HCHK := hid (fun (S : ByteArray) (hS : S.size ≤ maxLen) W (hW : Below w.heap.size w W) => check_any S W hS (hAX.out W hW).1)
  have HCMP := hid (fun (S : ByteArray) (hS : S.size ≤ maxLen) W (hW : Below w.heap.size w W) => compile_any S k1 W hS (hAX.out W hW).1)
  have HRUN := hid (fun (S : ByteArray) (hS : S.size ≤ maxLen) (X : Sp.Inp) W (hW : Below w.heap.size w W) => prun_any S X (F : Int) W hS (hAX.out W hW).1 (hAX.out W hW).2)
  have HEXE := hid (fun (t : ByteArray) (X : Sp.Inp) W (hW : Below w.heap.size w W) => pexec_any t k1 X (F : Int) W (hAX.out W hW).2)
  have HMX := hid (Sp.tm_may I (F : Int) (by omega) (by omega))
  have HMO := hid (Sp.oth_may (Sp.tm I) (Sp.tm J) (F : Int) HMX.out (Sp.tm_may J (F : Int) (by omega) (by omega)))
  clear hA hT hI hJ hn hk
  simp only [World.size_alloc] at HRJ
  generalize hN : w.heap.size = N at *
  go_enter Tryz.func3, Tryz.ntmps3
  go_upto_region 2 with (first | (refine wpList_load_in rfl (.tmp 7) rfl N I (by first | rfl | simp [Act.eval]) HRI.out ?_) | (go_at_call 4; refine (HTI.out _).mono ?_; rintro e w1 ⟨rfl, hb1⟩; rw [hz0] at hb1; have HR1 := hid (HRI.out.of_block (hb1.block N (by omega))); have HRJ1 := hid (HRJ.out.of_block (hb1.block (N + 1) (by omega))); have HB1 := hid (HBB.out.trans (hb1.mono (by omega))); have hs1 := hb1.size; rw [hz0] at hs1; clear hb1) | (refine wpList_store_in rfl (.tmp 7) (.tmp 27) rfl N (Sp.tm I) I (by first | rfl | simp [Act.eval]) (by rfl) HR1.out ?_; intro w2 ho2 ho2'; have HX2 := hid ho2; have HY2 := hid ho2'; clear ho2 ho2'))
  have hs2 : N + 2 ≤ w2.heap.size := by rw [HY2.out.size]; exact hs1
  have HS2 := hid (show SOth N (Sp.tm I) J w w2 from ⟨HX2.out, HRJ1.out.of_block (HY2.out.block (N + 1) (by omega)), HB1.out.trans (HY2.out.below (Nat.le_refl N)), hs2⟩)
  clear HRI HRJ HBB HTI HR1 HRJ1 HB1 HX2 HY2 hz0 hs1
  try rw [hN]
  simp only [Act.put]
  go_cut [11] from 28 to 31 (fun pv wx => ∃ q, pv = .pointer (some ⟨q, 0, none⟩) ∧ wx.rowIs N 25 20 (inF (Sp.tm I)) ∧ wx.rowIs q 25 20 (inF (Sp.oth (Sp.tm I) (Sp.tm J))) ∧ N + 2 ≤ q ∧ Below N w wx)
  case first =>
    refine wp_region_noPanic ?_
    refine wp_region_held (S := SOth N (Sp.tm I) J w) (by kernel_rfl) ?_
    show wpAnyH _ _ _ _ _ _ _ _ w2.drew
    have HSD : SOth N (Sp.tm I) J w w2.drew := ⟨HS2.out.1.of_block rfl, HS2.out.2.1.of_block rfl, ⟨HS2.out.2.2.1.os, HS2.out.2.2.1.tape, HS2.out.2.2.1.output, HS2.out.2.2.1.size, HS2.out.2.2.1.block⟩, HS2.out.2.2.2⟩
    refine wpAnyH_take (i := 0) (oi := { dst := some 28, op := Op.load 25 (Operand.tmp 7), type := 25, pos := "keeps.go:78", after := #[], guard := none }) (v := .agg (inA (Sp.tm I))) rfl (by kernel_rfl) (by kernel_rfl) (by kernel_rfl) (fun _ _ _ h => h) (yieldsIf_load_mid (by rfl) 25 (.tmp 7) rfl N 0 (by rfl) ((List.range 20).map (inF (Sp.tm I))) _ (fun w hS => in_range hS.1) Tryz.underlying25 rfl (by rw [List.length_map, List.length_range]; exact info_in)) HSD ?_
    refine wpAnyH_take (i := 1) (oi := { dst := some 29, op := Op.load 25 (Operand.tmp 8), type := 25, pos := "keeps.go:78", after := #[], guard := none }) (v := .agg (inA J)) rfl (by kernel_rfl) (by kernel_rfl) (by kernel_rfl) (fun _ _ _ h => h) (yieldsIf_load_mid (by rfl) 25 (.tmp 8) rfl (N + 1) 0 (by rfl) ((List.range 20).map (inF J)) _ (fun w hS => in_range hS.2.1) Tryz.underlying25 rfl (by rw [List.length_map, List.length_range]; exact info_in)) HSD ?_
    generalize w2.drew = W at *
    refine wpAnyH_all (rs := [2, 4]) (by kernel_rfl) (by simp) (AllReadyH.cons (o := { dst := some 30, op := Op.call { callee := Callee.value (Operand.func 4), args := #[Operand.tmp 29], argTypes := #[25] }, type := 25, pos := "keeps.go:78", after := #[{ on := 1, ground := Ground.data }], guard := none }) rfl (fun K' hK => ?_) (AllReadyH.cons (o := { dst := some 11, op := Op.alloc 25, type := 0, pos := "keeps.go:78", after := #[], guard := none }) rfl (fun K' hK => ?_) AllReadyH.nil))
    · rw [if_pos (by rfl)]
      go_simp
      refine (HTJ.out _).mono ?_
      rintro e w5 ⟨rfl, hb5⟩
      have hS5 := HSD.below hb5
      refine hK _ _ hS5 (fun _ => ?_)
      clear hK K'
      have hz5 := hS5.2.2.2
      refine wpAnyH_all (rs := [3, 4]) (by kernel_rfl) (by simp) (AllReadyH.cons (o := { dst := some 31, op := Op.call { callee := Callee.value (Operand.func 5), args := #[Operand.tmp 28, Operand.tmp 30], argTypes := #[25, 25] }, type := 25, pos := "keeps.go:78", after := #[{ on := 0, ground := Ground.data }, { on := 2, ground := Ground.data }, { on := 2, ground := Ground.chain }], guard := none }) rfl (fun K' hK => ?_) (AllReadyH.cons (o := { dst := some 11, op := Op.alloc 25, type := 0, pos := "keeps.go:78", after := #[], guard := none }) rfl (fun K' hK => ?_) AllReadyH.nil))
      · rw [if_pos (by rfl)]
        go_simp
        refine (HOT.out _).mono ?_
        rintro e w6 ⟨rfl, hb6⟩
        have hS6 := hS5.below hb6
        refine hK _ _ hS6 (fun _ => ?_)
        clear hK K'
        have hz6 := hS6.2.2.2
        refine wpAnyH_all (rs := [4]) (by kernel_rfl) (by simp) (AllReadyH.cons (o := { dst := some 11, op := Op.alloc 25, type := 0, pos := "keeps.go:78", after := #[], guard := none }) rfl (fun K' hK => ?_) AllReadyH.nil)
        rw [if_pos (by rfl)]
        refine wp_alloc_in rfl ?_
        intro w7 hs7 hb7 hz7
        have hS7 := hS6.below hb7
        refine hK _ _ hS7 (fun _ => ?_)
        clear hK K'
        refine wpAnyH_all (rs := [5]) (by kernel_rfl) (by simp) (AllReadyH.cons (o := { dst := none, op := Op.store 25 (Operand.tmp 11) (Operand.tmp 31), type := 0, pos := "keeps.go:78", after := #[{ on := 4, ground := Ground.data }, { on := 3, ground := Ground.data }, { on := 3, ground := Ground.chain }, { on := 0, ground := Ground.phase }, { on := 1, ground := Ground.phase }, { on := 2, ground := Ground.phase }, { on := 3, ground := Ground.phase }, { on := 4, ground := Ground.phase }], guard := none }) rfl (fun K' hK => ?_) AllReadyH.nil)
        rw [if_pos (by rfl)]
        refine wp_store_in (.tmp 11) (.tmp 31) rfl w6.heap.size (Sp.oth (Sp.tm I) (Sp.tm J)) in0 (by rfl) (by rfl) hs7 ?_
        intro w8 hi8 ho8
        have hS8 : SOth N (Sp.tm I) J w w8 := ⟨hS7.1.of_block (ho8.block N (by omega)), hS7.2.1.of_block (ho8.block (N + 1) (by omega)), hS7.2.2.1.trans (ho8.below (by omega)), by rw [ho8.size]; exact hS7.2.2.2⟩
        refine hK _ _ hS8 (fun _ => ?_)
        clear hK K'
        refine wpAnyH_done (by kernel_rfl) ?_ _
        refine NoPanic.normal ?_
        go_wp2_with fail
        go_meet
        case rel => exact ⟨_, rfl, hS8.1, hi8, by omega, hS8.2.2.1⟩
      · rw [if_pos (by rfl)]
        refine wp_alloc_in rfl ?_
        intro w7 hs7 hb7 hz7
        have hS7 := hS5.below hb7
        refine hK _ _ hS7 (fun _ => ?_)
        clear hK K'
        refine wpAnyH_all (rs := [3]) (by kernel_rfl) (by simp) (AllReadyH.cons (o := { dst := some 31, op := Op.call { callee := Callee.value (Operand.func 5), args := #[Operand.tmp 28, Operand.tmp 30], argTypes := #[25, 25] }, type := 25, pos := "keeps.go:78", after := #[{ on := 0, ground := Ground.data }, { on := 2, ground := Ground.data }, { on := 2, ground := Ground.chain }], guard := none }) rfl (fun K' hK => ?_) AllReadyH.nil)
        rw [if_pos (by rfl)]
        go_simp
        refine (HOT.out _).mono ?_
        rintro e w6 ⟨rfl, hb6⟩
        have hS6 := hS7.below hb6
        refine hK _ _ hS6 (fun _ => ?_)
        clear hK K'
        have hs7' := hs7.of_block (w' := w6) (hb6.block w5.heap.size (by omega))
        refine wpAnyH_all (rs := [5]) (by kernel_rfl) (by simp) (AllReadyH.cons (o := { dst := none, op := Op.store 25 (Operand.tmp 11) (Operand.tmp 31), type := 0, pos := "keeps.go:78", after := #[{ on := 4, ground := Ground.data }, { on := 3, ground := Ground.data }, { on := 3, ground := Ground.chain }, { on := 0, ground := Ground.phase }, { on := 1, ground := Ground.phase }, { on := 2, ground := Ground.phase }, { on := 3, ground := Ground.phase }, { on := 4, ground := Ground.phase }], guard := none }) rfl (fun K' hK => ?_) AllReadyH.nil)
        rw [if_pos (by rfl)]
        refine wp_store_in (.tmp 11) (.tmp 31) rfl w5.heap.size (Sp.oth (Sp.tm I) (Sp.tm J)) in0 (by rfl) (by rfl) hs7' ?_
        intro w8 hi8 ho8
        have hS8 : SOth N (Sp.tm I) J w w8 := ⟨hS6.1.of_block (ho8.block N (by omega)), hS6.2.1.of_block (ho8.block (N + 1) (by omega)), hS6.2.2.1.trans (ho8.below (by omega)), by rw [ho8.size]; exact hS6.2.2.2⟩
        refine hK _ _ hS8 (fun _ => ?_)
        clear hK K'
        refine wpAnyH_done (by kernel_rfl) ?_ _
        refine NoPanic.normal ?_
        go_wp2_with fail
        go_meet
        case rel => exact ⟨_, rfl, hS8.1, hi8, by omega, hS8.2.2.1⟩
    · have hzW := HSD.2.2.2
      rw [if_pos (by rfl)]
      refine wp_alloc_in rfl ?_
      intro w7 hs7 hb7 hz7
      have hS7 := HSD.below hb7
      refine hK _ _ hS7 (fun _ => ?_)
      clear hK K'
      refine wpAnyH_all (rs := [2]) (by kernel_rfl) (by simp) (AllReadyH.cons (o := { dst := some 30, op := Op.call { callee := Callee.value (Operand.func 4), args := #[Operand.tmp 29], argTypes := #[25] }, type := 25, pos := "keeps.go:78", after := #[{ on := 1, ground := Ground.data }], guard := none }) rfl (fun K' hK => ?_) AllReadyH.nil)
      rw [if_pos (by rfl)]
      go_simp
      refine (HTJ.out _).mono ?_
      rintro e w5 ⟨rfl, hb5⟩
      have hS5 := hS7.below hb5
      refine hK _ _ hS5 (fun _ => ?_)
      clear hK K'
      have hs7' := hs7.of_block (w' := w5) (hb5.block W.heap.size (by omega))
      have hz5 := hb5.size
      refine wpAnyH_all (rs := [3]) (by kernel_rfl) (by simp) (AllReadyH.cons (o := { dst := some 31, op := Op.call { callee := Callee.value (Operand.func 5), args := #[Operand.tmp 28, Operand.tmp 30], argTypes := #[25, 25] }, type := 25, pos := "keeps.go:78", after := #[{ on := 0, ground := Ground.data }, { on := 2, ground := Ground.data }, { on := 2, ground := Ground.chain }], guard := none }) rfl (fun K' hK => ?_) AllReadyH.nil)
      rw [if_pos (by rfl)]
      go_simp
      refine (HOT.out _).mono ?_
      rintro e w6 ⟨rfl, hb6⟩
      have hS6 := hS5.below hb6
      refine hK _ _ hS6 (fun _ => ?_)
      clear hK K'
      have hs7'' := hs7'.of_block (w' := w6) (hb6.block W.heap.size (by omega))
      refine wpAnyH_all (rs := [5]) (by kernel_rfl) (by simp) (AllReadyH.cons (o := { dst := none, op := Op.store 25 (Operand.tmp 11) (Operand.tmp 31), type := 0, pos := "keeps.go:78", after := #[{ on := 4, ground := Ground.data }, { on := 3, ground := Ground.data }, { on := 3, ground := Ground.chain }, { on := 0, ground := Ground.phase }, { on := 1, ground := Ground.phase }, { on := 2, ground := Ground.phase }, { on := 3, ground := Ground.phase }, { on := 4, ground := Ground.phase }], guard := none }) rfl (fun K' hK => ?_) AllReadyH.nil)
      rw [if_pos (by rfl)]
      refine wp_store_in (.tmp 11) (.tmp 31) rfl W.heap.size (Sp.oth (Sp.tm I) (Sp.tm J)) in0 (by rfl) (by rfl) hs7'' ?_
      intro w8 hi8 ho8
      have hS8 : SOth N (Sp.tm I) J w w8 := ⟨hS6.1.of_block (ho8.block N (by omega)), hS6.2.1.of_block (ho8.block (N + 1) (by omega)), hS6.2.2.1.trans (ho8.below (by omega)), by rw [ho8.size]; exact hS6.2.2.2⟩
      refine hK _ _ hS8 (fun _ => ?_)
      clear hK K'
      refine wpAnyH_done (by kernel_rfl) ?_ _
      refine NoPanic.normal ?_
      go_wp2_with fail
      go_meet
      case rel => exact ⟨_, rfl, hS8.1, hi8, by omega, hS8.2.2.1⟩
  case rest =>
    obtain ⟨q, rfl, hx0, ho0, hq, hb0⟩ := hcut
    have HX0 := hid hx0
    have HO0 := hid ho0
    have HB0 := hid hb0
    have hs0 : q < wc.heap.size := ho0.lt
    clear hx0 ho0 hb0 HS2 HTJ HOT hs2
    have HCC := hid (HCHK.out Sp.careful (by decide) wc HB0.out)
    go_upto_region 8 with (first | (go_at_call 6; refine (HRG.out _).mono ?_; rintro e w' ⟨rfl, rfl⟩) | (go_at_call 7; refine (HPK.out _).mono ?_; rintro e w' ⟨rfl, rfl⟩) | (go_at_call 8; refine HCC.out.mono ?_; rintro e w3 ⟨m, f, rfl, hck, hb3⟩; obtain ⟨e1, e2⟩ := hck.eq Sp.careful_check; subst e1; subst e2; have HX3 := hid (HX0.out.of_block (hb3.block N (by omega))); have HO3 := hid (HO0.out.of_block (hb3.block q (by omega))); have HB3 := hid (HB0.out.trans (hb3.mono (by omega))); have hs3 : q < w3.heap.size := Nat.lt_of_lt_of_le hs0 hb3.size; clear hck hb3))
    clear HCC HX0 HO0 HB0 hs0 HRG HPK
    have HCS := hid (HCHK.out s hs w3 HB3.out)
    go_upto_if 52 with (go_at_call 8; refine HCS.out.mono ?_; rintro e w4 ⟨m, f, rfl, hck, hb4⟩; have HCK := hid hck; have HX4 := hid (HX3.out.of_block (hb4.block N (by omega))); have HO4 := hid (HO3.out.of_block (hb4.block q (by omega))); have HB4 := hid (HB3.out.trans (hb4.mono (by omega))); have hs4 : q < w4.heap.size := Nat.lt_of_lt_of_le hs3 hb4.size; clear hck hb4)
    clear HCS HX3 HO3 HB3 hs3 HCHK
    go_cut [0] from 49 to 52 (fun sv wx => ∃ S, sv = .string S ∧ S.size ≤ maxLen ∧ (∃ n, Sp.CheckR S n 0) ∧ wx = w4)
    case first =>
      by_cases h0 : f = 0
      · subst h0
        go_wp2_with fail
        go_meet
        case rel => exact ⟨s, rfl, hs, ⟨m, HCK.out⟩, rfl⟩
      · have t1 : (f != 0) = true := by simp [h0]
        go_wp2_with fail
        go_meet
        case rel => exact ⟨Sp.careful, rfl, by decide, ⟨4, Sp.careful_check⟩, rfl⟩
    case rest =>
      obtain ⟨S, rfl, hS, ⟨nS, hck⟩, rfl⟩ := hcut
      have HCK2 := hid hck
      obtain ⟨hfs, hsh⟩ := show_src hck
      have HFS := hid hfs
      have HSH := hid hsh
      have hz3 := hfs.zero
      have HG3 := hid hz3.2.1
      have HRD := hid (src_rd hz3.2.1)
      clear hck hfs hsh hz3 HCK
      obtain ⟨mX, hmX⟩ : ∃ m, Sp.walkP (Sp.codeTo (Sp.B S) (S.size / 4)) (Sp.strP (Sp.blksTo (Sp.B S) (S.size / 4))) F (argM (Sp.tm I).cut 4) 0 = m := ⟨_, rfl⟩
      obtain ⟨mY, hmY⟩ : ∃ m, Sp.walkP (Sp.codeTo (Sp.B S) (S.size / 4)) (Sp.strP (Sp.blksTo (Sp.B S) (S.size / 4))) F (argM (Sp.oth (Sp.tm I) (Sp.tm J)).cut 4) 0 = m := ⟨_, rfl⟩
      have HXE := hid (show outL (Sp.runG (Sp.stepT S) F (Sp.start Sp.pS (Sp.tm I).cut 4)) = outL (outSt mX) by rw [← run_eq HG3.out, src_eq HG3.out, hmX])
      have HYE := hid (show outL (Sp.runG (Sp.stepT S) F (Sp.start Sp.pS (Sp.oth (Sp.tm I) (Sp.tm J)).cut 4)) = outL (outSt mY) by rw [← run_eq HG3.out, src_eq HG3.out, hmY])
      have HLS := hid (low_src HRD.out HSH.out (Sp.tm I) (Sp.tm J) F)
      rw [hmX, hmY] at HLS
      clear hmX hmY
      have HR1 := hid (HRUN.out S hS (Sp.tm I) wc HB4.out)
      go_upto_region 12 with (first | (refine wpList_load_in rfl (.tmp 7) rfl N (Sp.tm I) (by rfl) HX4.out ?_) | (go_at_call 9; refine HR1.out.mono ?_; rintro e w7 ⟨st, f7, rfl, hr, hb7⟩; obtain ⟨e1, e2⟩ := hr.good HFS.out HMX.out; have e3 : outL st = outL (outSt mX) := (by rw [e2, Int.toNat_natCast]; exact HXE.out); rw [e3]; subst e1; clear e2 e3 hr; have HB7 := hid hb7; clear hb7) | (refine wpList_alloc_out rfl rfl ?_; intro w8 ho8 hb8 hz8; have HO8 := hid ho8; have HB8 := hid hb8; clear ho8 hb8) | (refine wpList_store_out rfl (.tmp 14) (.tmp 58) rfl w7.heap.size 0 (outSt mX) st0 (by rfl) (by rfl) HO8.out ?_; intro w9 ho9 ho9'; have HP9 := hid ho9; have HY9 := hid ho9'; clear ho9 ho9'))
      have hs7 := HB7.out.size
      have hs9 : w7.heap.size + 1 = w9.heap.size := by rw [HY9.out.size, hz8]
      have HB9 := hid (((HB4.out.trans (HB7.out.mono (by omega))).trans (HB8.out.mono (by omega))).trans (HY9.out.below (by omega)))
      have HX9 := hid (((HX4.out.of_block (HB7.out.block N (by omega))).of_block (HB8.out.block N (by omega))).of_block (HY9.out.block N (by omega)))
      have HO9 := hid (((HO4.out.of_block (HB7.out.block q (by omega))).of_block (HB8.out.block q (by omega))).of_block (HY9.out.block q (by omega)))
      have hqx0 : q < w7.heap.size := by omega
      generalize hbx : w7.heap.size = bx at *
      clear HB7 HO8 HB8 HY9 HX4 HO4 HB4 HR1 HXE hz8 hs4
      have HR2 := hid (HRUN.out S hS (Sp.oth (Sp.tm I) (Sp.tm J)) w9 HB9.out)
      go_upto_region 13 with (first | (refine wpList_load_in rfl (.tmp 11) rfl q (Sp.oth (Sp.tm I) (Sp.tm J)) (by rfl) HO9.out ?_) | (go_at_call 9; refine HR2.out.mono ?_; rintro e w10 ⟨st, f10, rfl, hr, hb10⟩; obtain ⟨e1, e2⟩ := hr.good HFS.out HMO.out; have e3 : outL st = outL (outSt mY) := (by rw [e2, Int.toNat_natCast]; exact HYE.out); rw [e3]; subst e1; clear e2 e3 hr; have HB10 := hid hb10; clear hb10) | (refine wpList_alloc_out rfl rfl ?_; intro w11 ho11 hb11 hz11; have HO11 := hid ho11; have HB11 := hid hb11; clear ho11 hb11) | (refine wpList_store_out rfl (.tmp 16) (.tmp 65) rfl w10.heap.size 0 (outSt mY) st0 (by rfl) (by rfl) HO11.out ?_; intro w12 ho12 ho12'; have HQ12 := hid ho12; have HY12 := hid ho12'; clear ho12 ho12'))
      have hs10 := HB10.out.size
      have hs12 : w10.heap.size + 1 = w12.heap.size := by rw [HY12.out.size, hz11]
      have HB12 := hid (((HB9.out.trans (HB10.out.mono (by omega))).trans (HB11.out.mono (by omega))).trans (HY12.out.below (by omega)))
      have HX12 := hid (((HX9.out.of_block (HB10.out.block N (by omega))).of_block (HB11.out.block N (by omega))).of_block (HY12.out.block N (by omega)))
      have HO12 := hid (((HO9.out.of_block (HB10.out.block q (by omega))).of_block (HB11.out.block q (by omega))).of_block (HY12.out.block q (by omega)))
      have HP12 := hid (((HP9.out.of_block (HB10.out.block bx (by omega))).of_block (HB11.out.block bx (by omega))).of_block (HY12.out.block bx (by omega)))
      generalize hby : w10.heap.size = bv at *
      clear HB10 HO11 HB11 HY12 HX9 HO9 HB9 HP9 HR2 HYE hz11 HRUN
      have HCM := hid (HCMP.out S hS w12 HB12.out)
      unfold CompPost at HCM
      go_upto_region 14 with (go_at_call 10; refine HCM.out.mono ?_; rintro e w13 ⟨t, f13, rfl, hcp, hb13⟩; have HCP := hid (hcp.with_check HMC.out HCK2.out); have HX13 := hid (HX12.out.of_block (hb13.block N (by omega))); have HO13 := hid (HO12.out.of_block (hb13.block q (by omega))); have HP13 := hid (HP12.out.of_block (hb13.block bx (by omega))); have HQ13 := hid (HQ12.out.of_block (hb13.block bv (by omega))); have HB13 := hid (HB12.out.trans (hb13.mono (by omega))); have hs13 : bv < w13.heap.size := Nat.lt_of_lt_of_le (by omega) hb13.size; clear hcp hb13)
      have hcp : f13 = 0 ∧ ∃ H K, MadeOf S t k1 H K := by
        rcases HCP.out with ⟨h1, _⟩ | ⟨_, h2, _, h4⟩
        · exact absurd rfl h1
        · exact ⟨h2, h4⟩
      obtain ⟨rfl, H, K, hmd⟩ := hcp
      have g2 := hmd.md.size
      have HPT := hid hmd.md.prog
      have tne : t.toList.isEmpty = false := by
        rw [ByteArray.toList_eq]
        cases h : t.data.toList with
        | nil =>
          have h1 : t.data.toList.length = 0 := by rw [h]; rfl
          rw [Array.length_toList] at h1
          exact absurd (show t.size = 0 from h1) (by omega)
        | cons => rfl
      obtain ⟨mT, hmT⟩ : ∃ m, Sp.walkP (Sp.codeK k1 (Sp.B t) (t.size / 4)) (Sp.strP (Sp.blksTo (Sp.B t) (t.size / 4))) F (argK (Sp.tm I).cut 4) 0 = m := ⟨_, rfl⟩
      obtain ⟨mU, hmU⟩ : ∃ m, Sp.walkP (Sp.codeK k1 (Sp.B t) (t.size / 4)) (Sp.strP (Sp.blksTo (Sp.B t) (t.size / 4))) F (argK (Sp.oth (Sp.tm I) (Sp.tm J)).cut 4) 0 = m := ⟨_, rfl⟩
      have HTE := hid (show outL (Sp.fillM k1 (Sp.runG (Sp.stepU t) F (Sp.start Sp.pM (Sp.tm I).cut 4))) = outL (outM mT) by rw [← mrun_eq (by omega) (by omega) HPT.out, hmT])
      have HUE := hid (show outL (Sp.fillM k1 (Sp.runG (Sp.stepU t) F (Sp.start Sp.pM (Sp.oth (Sp.tm I) (Sp.tm J)).cut 4))) = outL (outM mU) by rw [← mrun_eq (by omega) (by omega) HPT.out, hmU])
      have HLM := hid (low_mac hkb HRD.out (Sp.rd_of k1 (by omega) t HPT.out) hmd.md.acc HSH.out (Sp.tm I) (Sp.tm J) F)
      rw [hmT, hmU] at HLM
      have HMX2 := hid (show (Sp.mayB (Sp.tm I) (F : Int) && Sp.macB k1) = true by rw [HMX.out, HMC.out]; rfl)
      have HMO2 := hid (show (Sp.mayB (Sp.oth (Sp.tm I) (Sp.tm J)) (F : Int) && Sp.macB k1) = true by rw [HMO.out, HMC.out]; rfl)
      clear hmT hmU hmd HCP HCM HCMP HX12 HO12 HP12 HQ12 HB12 HRD HSH HG3 HCK2 HFS
      have HE1 := hid (HEXE.out t (Sp.tm I) w13 HB13.out)
      go_upto_region 15 with (first | (refine wpList_load_in rfl (.tmp 7) rfl N (Sp.tm I) (by rfl) HX13.out ?_) | (go_at_call 11; refine HE1.out.mono ?_; rintro e w14 ⟨st, f14, rfl, hr, hb14⟩; obtain ⟨e1, e2⟩ := hr.good g2.2 HMX2.out HPT.out; have e3 : outL st = outL (outM mT) := (by rw [e2, Int.toNat_natCast]; exact HTE.out); rw [e3]; subst e1; clear e2 e3 hr; have HB14 := hid hb14; clear hb14) | (refine wpList_alloc_out rfl rfl ?_; intro w15 ho15 hb15 hz15; have HO15 := hid ho15; have HB15 := hid hb15; clear ho15 hb15) | (refine wpList_store_out rfl (.tmp 20) (.tmp 79) rfl w14.heap.size 0 (outM mT) st0 (by rfl) (by rfl) HO15.out ?_; intro w16 ho16 ho16'; have HT16 := hid ho16; have HY16 := hid ho16'; clear ho16 ho16'))
      have hs14 := HB14.out.size
      have hs16 : w14.heap.size + 1 = w16.heap.size := by rw [HY16.out.size, hz15]
      have HB16 := hid (((HB13.out.trans (HB14.out.mono (by omega))).trans (HB15.out.mono (by omega))).trans (HY16.out.below (by omega)))
      have HO16 := hid (((HO13.out.of_block (HB14.out.block q (by omega))).of_block (HB15.out.block q (by omega))).of_block (HY16.out.block q (by omega)))
      have HP16 := hid (((HP13.out.of_block (HB14.out.block bx (by omega))).of_block (HB15.out.block bx (by omega))).of_block (HY16.out.block bx (by omega)))
      have HQ16 := hid (((HQ13.out.of_block (HB14.out.block bv (by omega))).of_block (HB15.out.block bv (by omega))).of_block (HY16.out.block bv (by omega)))
      generalize hbt : w14.heap.size = bt at *
      clear HB14 HO15 HB15 HY16 HX13 HO13 HP13 HQ13 HB13 HE1 HTE hz15
      have HE2 := hid (HEXE.out t (Sp.oth (Sp.tm I) (Sp.tm J)) w16 HB16.out)
      go_upto_region 16 with (first | (refine wpList_load_in rfl (.tmp 11) rfl q (Sp.oth (Sp.tm I) (Sp.tm J)) (by rfl) HO16.out ?_) | (go_at_call 11; refine HE2.out.mono ?_; rintro e w17 ⟨st, f17, rfl, hr, hb17⟩; obtain ⟨e1, e2⟩ := hr.good g2.2 HMO2.out HPT.out; have e3 : outL st = outL (outM mU) := (by rw [e2, Int.toNat_natCast]; exact HUE.out); rw [e3]; subst e1; clear e2 e3 hr; have HB17 := hid hb17; clear hb17) | (refine wpList_alloc_out rfl rfl ?_; intro w18 ho18 hb18 hz18; have HO18 := hid ho18; have HB18 := hid hb18; clear ho18 hb18) | (refine wpList_store_out rfl (.tmp 22) (.tmp 87) rfl w17.heap.size 0 (outM mU) st0 (by rfl) (by rfl) HO18.out ?_; intro w19 ho19 ho19'; have HU19 := hid ho19; have HY19 := hid ho19'; clear ho19 ho19'))
      have hs17 := HB17.out.size
      have hs19 : w17.heap.size + 1 = w19.heap.size := by rw [HY19.out.size, hz18]
      have HB19 := hid (((HB16.out.trans (HB17.out.mono (by omega))).trans (HB18.out.mono (by omega))).trans (HY19.out.below (by omega)))
      have HP19 := hid (((HP16.out.of_block (HB17.out.block bx (by omega))).of_block (HB18.out.block bx (by omega))).of_block (HY19.out.block bx (by omega)))
      have HQ19 := hid (((HQ16.out.of_block (HB17.out.block bv (by omega))).of_block (HB18.out.block bv (by omega))).of_block (HY19.out.block bv (by omega)))
      have HT19 := hid (((HT16.out.of_block (HB17.out.block bt (by omega))).of_block (HB18.out.block bt (by omega))).of_block (HY19.out.block bt (by omega)))
      generalize hbu : w17.heap.size = bu at *
      clear HB17 HO18 HB18 HY19 HO16 HP16 HQ16 HT16 HB16 HE2 HUE hz18 HEXE HMX HMO HMX2 HMO2 HPT
      have ePub := HLS.out.pub
      have eTr := HLS.out.tr
      have eSt := HLS.out.st
      have fPub := HLM.out.pub
      have fTr := HLM.out.tr
      have fSt := HLM.out.st
      have hs19' : N ≤ w19.heap.size := by omega
      have HK1 := hid (kwords_same mX.pub w19)
      have HQP := hid (show ∀ j, j < 8 → w19.cell? ⟨bv, 2 + j, none⟩ = some (.int .i64 (mX.pub j)) from fun j hj => by rw [ePub]; exact HQ19.out.pub j hj)
      have HUP := hid (show ∀ W : World, W.heap[bu]? = w19.heap[bu]? → ∀ j, j < 8 → W.cell? ⟨bu, 2 + j, none⟩ = some (.int .i64 (mT.pub j)) from fun W hW j hj => by rw [fPub]; exact (HU19.out.of_block hW).pub j hj)
      have HFIN := hid (show ∀ W : World, Below w19.heap.size w19 W → (W.cell? ⟨bv, 18, none⟩ = some (.string mX.trace) ∧ W.cell? ⟨bv, 0, none⟩ = some (.int .i64 mX.status)) ∧ (W.cell? ⟨bu, 18, none⟩ = some (.string mT.trace) ∧ W.cell? ⟨bu, 0, none⟩ = some (.int .i64 mT.status)) from fun W hW => by
        have h1 := HQ19.out.of_block (hW.block bv (by omega))
        have h2 := HU19.out.of_block (hW.block bu (by omega))
        rw [eTr, eSt, fTr, fSt]
        exact ⟨⟨h1.trace, h1.status⟩, ⟨h2.trace, h2.status⟩⟩)
      clear ePub eTr eSt fPub fTr fSt HLS HLM
      go_wp2_with (first | (refine wpList_load8 rfl (.tmp 111) rfl bx 2 mX.pub (by rfl) (fun j hj => HP19.out.pub j hj) ?_) | (refine wpList_load8 rfl (.tmp 113) rfl bv 2 mX.pub (by rfl) HQP.out ?_) | (go_at_call 12; refine HK1.out.mono ?_; rintro e w20 ⟨rfl, hb20⟩; have HB20 := hid hb20; have HT20 := hid (HT19.out.of_block (hb20.block bt (by omega))); have HU20 := hid (HUP.out w20 (hb20.block bu (by omega))); have HK2 := hid (kwords_same mT.pub w20); clear HK1 hb20) | (refine wpList_load8 rfl (.tmp 116) rfl bt 2 mT.pub (by rfl) (fun j hj => HT20.out.pub j hj) ?_) | (refine wpList_load8 rfl (.tmp 118) rfl bu 2 mT.pub (by rfl) HU20.out ?_) | (go_at_call 12; refine HK2.out.mono ?_; rintro e w21 ⟨rfl, hb21⟩; have HB21 := hid (HB20.out.trans (hb21.mono HB20.out.size)); obtain ⟨⟨y4, y0⟩, ⟨v4, v0⟩⟩ := HFIN.out w21 HB21.out; have hpx := HP19.out.of_block (HB21.out.block bx (by omega)); have hpt := HT19.out.of_block (HB21.out.block bt (by omega)); have x0 := hpx.status; have x4 := hpx.trace; have u0 := hpt.status; have u4 := hpt.trace; clear hb21 hpx hpt))
      go_ret
      exact ⟨by simp [outM, outSt], HB19.out.trans (HB21.out.mono hs19')⟩
end Go.Proofs.YtccndnckceagfabGreatDoorR
