/-
  The document's own Exec.
  The program's Exec; the statement on Exec, walked.
-/
import Derived.Test.YtccndnckceagfabGreatDoorRG14
namespace Go.Proofs.YtccndnckceagfabGreatDoorR
open Go.RowKit
namespace Sp
def macB (k : Int) : Bool := decide (6 ≤ k ∧ k ≤ 10)
/-- what Exec answers -/
def ExecR (s : ByteArray) (k : Int) (I : Inp) (fuel : Int) (st : St) (e : Int) : Prop :=
  (4096 < s.size ∧ e = 1 ∧ st = st0) ∨ (s.size ≤ 4096 ∧ (mayB I fuel && macB k) = false ∧ e = 2 ∧ st = st0) ∨ (s.size ≤ 4096 ∧ (mayB I fuel && macB k) = true ∧ progB (B s) s.size k = false ∧ e = 3 ∧ st = st0) ∨
  (s.size ≤ 4096 ∧ (mayB I fuel && macB k) = true ∧ progB (B s) s.size k = true ∧ e = 0 ∧ st = fillM k (runG (stepU s) fuel.toNat (start pM I.cut 4)))
theorem ExecR.det {s : ByteArray} {k : Int} {I : Inp} {fuel : Int} {st st' : St} {e e' : Int} (h : ExecR s k I fuel st e) (h' : ExecR s k I fuel st' e') : st = st' ∧ e = e' := by
  rcases h with ⟨a, b, c⟩ | ⟨a, b, c, d⟩ | ⟨a, b, c, d, g⟩ | ⟨a, b, c, d, g⟩ <;> rcases h' with ⟨a', b', c'⟩ | ⟨a', b', c', d'⟩ | ⟨a', b', c', d', g'⟩ | ⟨a', b', c', d', g'⟩
  · exact ⟨c.trans c'.symm, b.trans b'.symm⟩
  · omega
  · omega
  · omega
  · omega
  · exact ⟨d.trans d'.symm, c.trans c'.symm⟩
  · rw [b] at b'; cases b'
  · rw [b] at b'; cases b'
  · omega
  · rw [b] at b'; cases b'
  · exact ⟨g.trans g'.symm, d.trans d'.symm⟩
  · rw [c] at c'; cases c'
  · omega
  · rw [b] at b'; cases b'
  · rw [c] at c'; cases c'
  · exact ⟨g.trans g'.symm, d.trans d'.symm⟩
theorem memO_rs' (st : St) (o a b n : Int) (T : ByteArray) : (memO st o a b n T).regs = st.regs := by
  unfold memO memS
  repeat' split
  all_goals rfl
theorem stepU_rs (s : ByteArray) (st : St) (i : Nat) : (stepU s st i).1.regs = st.regs := by
  unfold stepU stepT frmS
  repeat' split
  all_goals first | rfl | exact memO_rs' _ _ _ _ _ _
theorem runG_rsU (s : ByteArray) : ∀ (f : Nat) (st : St), (runG (stepU s) f st).regs = st.regs := by
  intro f
  induction f with
  | zero => intro st; rfl
  | succ f ih =>
    intro st
    simp only [runG]
    have h := stepU_rs s st st.next.toNat
    split
    · exact (ih (stepU s st st.next.toNat).1).trans h
    · exact h
end Sp

theorem OutAt.congrL {w : World} {b o : Nat} {st st' : Sp.St} (h : OutAt w b o st) (e : outL st = outL st') : OutAt w b o st' :=
  ⟨fun j hj => by
    have h1 := outL_at st j hj
    rw [e, outL_at st' j hj] at h1
    rw [h.cell j hj, Option.some.inj h1], h.free⟩
theorem alpha_ix (j : Nat) (h : j < 52) (v : Int) (hv : Sp.B Sp.alpha j = v) (W : World) : (Instr.index 9 (.string ⟨#[97, 98, 99, 100, 101, 102, 103, 104, 105, 106, 107, 108, 109, 110, 111, 112, 113, 114, 115, 116, 117, 118, 119, 120, 121, 122, 65, 66, 67, 68, 69, 70, 71, 72, 73, 74, 75, 76, 77, 78, 79, 80, 81, 82, 83, 84, 85, 86, 87, 88, 89, 90]⟩) (.int .i64 (j : Int))).run Tryz.prog W = .ok (.int .u8 v) W := by
  have hz : j < Sp.alpha.size := h
  show (Instr.index 9 (.string Sp.alpha) (.int .i64 (j : Int))).run Tryz.prog W = .ok (.int .u8 v) W
  rw [run_index_string W 9 Sp.alpha .i64 _ Tryz.underlying9, dif_pos (by omega), ← hv]
  exact congrArg (fun z => Result.ok (Value.int .u8 z) W) (Sp.B_get Sp.alpha j hz)
/-- what registers and slots do not touch, the document's -/
structure Six (a b : Sp.St) : Prop where
  f0 : b.hold = a.hold
  f1 : b.status = a.status
  f2 : b.value = a.value
  f3 : b.pub = a.pub
  f4 : b.sec = a.sec
  f5 : b.trace = a.trace

theorem below_drewE {B : Nat} {w w' : World} (h : Below B w w') (n : Nat) : Below B w (w'.drewN n) := ⟨h.os, h.tape, h.output, h.size, h.block⟩
def ExecPost (s : ByteArray) (k : Int) (I : Sp.Inp) (fuel : Int) (w : World) (e : Ending) (w' : World) : Prop :=
  ∃ st f, e = .returned (.tuple #[.agg (outL st).toArray, .int .i64 f]) ∧ Sp.ExecR s k I fuel st f ∧ Below w.heap.size w w'

end Go.Proofs.YtccndnckceagfabGreatDoorR

namespace Go.Proofs.YtccndnckceagfabGreatDoorR
open Go.RowKit

/-- an input read whole, where it is asked for -/
theorem wpList_load_inG {ops : Array Oper} {rest : List Oper} {op : Oper} {a : Act} {w : World} {Q : Exit → Act → World → Prop} (hgw : Region.wanted op (yielded ops a.tmps) = true) (x : Operand) (ho : op.op = .load 25 x)
    (b : Nat) (I : Sp.Inp) (hx : a.eval x = .pointer (some ⟨b, 0, none⟩)) (hf : w.rowIs b 25 20 (inF I))
    (h : wpList Tryz.prog ops Q rest (a.put op.dst (.agg (inA I))) w) : wpList Tryz.prog ops Q (op :: rest) a w :=
  wpList_step fun K hK => by
    rw [if_pos hgw]
    exact wp_load_mid 25 x ho b 0 hx ((List.range 20).map (inF I)) _ (fun j v hj => by
      have hj' : j < 20 := by have := (List.getElem?_eq_some_iff.1 hj).1; simpa using this
      rw [Nat.zero_add, hf.cell hj', ← hj]
      simp [hj']) Tryz.underlying25 rfl (by rw [List.length_map, List.length_range]; exact info_in) (hK _ _ h)
theorem hasMachine_any (k : Int) (w : World) : Calls Tryz.prog 17 #[.int .i64 k] w fun e w' => e = .returned (.bool (Sp.macB k)) ∧ w = w' := by
  by_cases h1 : 6 ≤ k
  · by_cases h2 : k ≤ 10
    · have HE := hid (show Sp.macB k = true by simp [Sp.macB, h1, h2])
      go_enter Tryz.func17, Tryz.ntmps17
      go_wp2_with fail
      go_ret
      exact ⟨ret_bool HE.out.symm, rfl⟩
    · have HE := hid (show Sp.macB k = false by simp [Sp.macB, h1, h2])
      go_enter Tryz.func17, Tryz.ntmps17
      go_wp2_with fail
      go_ret
      exact ⟨ret_bool HE.out.symm, rfl⟩
  · have HE := hid (show Sp.macB k = false by simp [Sp.macB, h1])
    go_enter Tryz.func17, Tryz.ntmps17
    go_wp2_with fail
    go_ret
    exact ⟨ret_bool HE.out.symm, rfl⟩

/-- vC, vB are the slices of the machine program that the text s is, their rows from B on -/
def MacAt (K : Int) (w : World) (B : Nat) (s : ByteArray) (vC vB : Value) : Prop :=
  w.ownsRow B 74 7 vC (s.size / 4) (insV (Sp.codeK K (Sp.B s) (s.size / 4))) ∧ w.ownsRow B 117 2 vB (Sp.blocksTo (Sp.B s) (s.size / 4)) (blkV (Sp.blksTo (Sp.B s) (s.size / 4))) ∧ (Sp.blksTo (Sp.B s) (s.size / 4) = [] → vB = .slice none 0 0)
theorem MacAt.move {K : Int} {w w' : World} {B : Nat} {s : ByteArray} {vC vB : Value} (h : MacAt K w B s vC vB) (hb : Below w.heap.size w w') : MacAt K w' B s vC vB := ⟨own_below h.1 hb, own_below h.2.1 hb, h.2.2⟩
theorem MacAt.prog {K : Int} {w : World} {B p : Nat} {s : ByteArray} {vC vB : Value} (h : MacAt K w B s vC vB) (hr : w.rowIs p 47 2 (fun j => if j = 0 then vC else vB)) : ProgAt w B p (Sp.codeK K (Sp.B s) (s.size / 4)) (Sp.blksTo (Sp.B s) (s.size / 4)) :=
  ⟨vC, vB, hr, by rw [Sp.codeK_len]; exact h.1, by rw [Sp.blksTo_len]; exact h.2.1, h.2.2⟩

set_option maxRecDepth 20000 in
set_option maxHeartbeats 4000000 in
theorem pexec_any (s : ByteArray) (k : Int) (I : Sp.Inp) (fuel : Int) (w : World) (hT : Tab w) :
    Calls Tryz.prog 11 #[.string s, .int .i64 k, .agg (inA I), .int .i64 fuel] w fun e w' => ExecPost s k I fuel w e w' := by
  have hsz := inA_size I
  have hlt1 := hT.lt
  have HT := hid hT
  have HRI := hid (in_row w I 25)
  have HBB := hid ((Below.refl w.heap.size w).alloc (Nat.le_refl _) (.cells (inA I) 25))
  clear hT
  go_enter Tryz.func11, Tryz.ntmps11
  go_upto_region 1 with (refine wpList_alloc_out rfl rfl ?_; intro w1 ho1 hb1 hz1; have HO1 := hidd ho1; have HB1 := hidd hb1; clear ho1 hb1)
  have hz1' : w1.heap.size = w.heap.size + 2 := by rw [hz1]; simp
  have HRI1 := hid (HRI.out.of_block (HB1.out.block w.heap.size (by simp)))
  have HO1' : Hid (OutAt w1 (w.heap.size + 1) 0 st0) := by have := HO1.out; simp only [World.size_alloc] at this; exact hid this
  have HBW1 := hid (HBB.out.trans (HB1.out.mono (by simp)))
  clear HO1 HRI HBB HB1 hz1
  generalize hN : w.heap.size = N at *
  by_cases hlong : 4096 < s.size
  · have hl : (4096 : Int) < s.size := by omega
    go_wp2_with (first | (refine wpList_build_out rfl rfl ?_) | (refine wpList_store_out rfl (.tmp 8) (.tmp 15) rfl (N + 1) 0 st0 st0 (by rfl) (by rfl) HO1'.out ?_; intro w4 ho4 ho4'; have HO4 := hidd ho4; have HY4 := hidd ho4'; clear ho4 ho4'))
    refine bodyPost_ret (v := .tuple #[.agg (outL st0).toArray, .int .i64 1]) (results_cell_two (q := 8) (r := 9) (a := ⟨N + 1, 0, none⟩) rfl _ _ (by rfl) (run_loadVar_out HO4.out)) (by rfl) ⟨st0, 1, rfl, Or.inl ⟨hlong, rfl, rfl⟩, ?_⟩
    rw [hN]
    exact HBW1.out.trans (HY4.out.below (by omega))
  have hl : ¬ (4096 : Int) < s.size := by omega
  have hle : s.size ≤ 4096 := by omega
  clear hlong
  have HHM := hid (fun w => hasMachine_any k w)
  cases hk : Sp.macB k
  · have HM := hid (show (Sp.mayB I fuel && Sp.macB k) = false by rw [hk]; simp)
    rw [hk] at HHM
    clear hk
    go_wp2_with (first | (go_at_call 17; refine (HHM.out _).mono ?_; rintro e w' ⟨rfl, rfl⟩) | (refine wpList_build_out rfl rfl ?_) | (refine wpList_store_out rfl (.tmp 8) (.tmp 25) rfl (N + 1) 0 st0 st0 (by rfl) (by rfl) HO1'.out ?_; intro w4 ho4 ho4'; have HO4 := hidd ho4; have HY4 := hidd ho4'; clear ho4 ho4'))
    refine bodyPost_ret (v := .tuple #[.agg (outL st0).toArray, .int .i64 2]) (results_cell_two (q := 8) (r := 9) (a := ⟨N + 1, 0, none⟩) rfl _ _ (by rfl) (run_loadVar_out HO4.out)) (by rfl) ⟨st0, 2, rfl, Or.inr (Or.inl ⟨hle, HM.out, rfl, rfl⟩), ?_⟩
    rw [hN]
    exact HBW1.out.trans (HY4.out.below (by omega))
  have HMB := hid (mayBegin_any I fuel w1)
  rw [hk] at HHM
  cases hm : Sp.mayB I fuel
  · have HM := hid (show (Sp.mayB I fuel && Sp.macB k) = false by rw [hm]; rfl)
    rw [hm] at HMB
    clear hm hk
    go_wp2_with (first | (go_at_call 17; refine (HHM.out _).mono ?_; rintro e w' ⟨rfl, rfl⟩) | (refine wpList_load_inG (by rfl) (.tmp 6) rfl N I (by rfl) HRI1.out ?_) | (go_at_call 15; refine HMB.out.mono ?_; rintro e w3 ⟨rfl, hb3⟩; have HO3 := hidd (HO1'.out.of_block (hb3.block (N + 1) (by omega))); have HBW3 := hidd (HBW1.out.trans (hb3.mono (by omega))); clear hb3) | (refine wpList_build_out rfl rfl ?_) | (refine wpList_store_out rfl (.tmp 8) (.tmp 25) rfl (N + 1) 0 st0 st0 (by rfl) (by rfl) HO3.out ?_; intro w4 ho4 ho4'; have HO4 := hidd ho4; have HY4 := hidd ho4'; clear ho4 ho4'))
    refine bodyPost_ret (v := .tuple #[.agg (outL st0).toArray, .int .i64 2]) (results_cell_two (q := 8) (r := 9) (a := ⟨N + 1, 0, none⟩) rfl _ _ (by rfl) (run_loadVar_out HO4.out)) (by rfl) ⟨st0, 2, rfl, Or.inr (Or.inl ⟨hle, HM.out, rfl, rfl⟩), ?_⟩
    rw [hN]
    exact HBW3.out.trans (HY4.out.below (by omega))
  have HM := hid (show (Sp.mayB I fuel && Sp.macB k) = true by rw [hm, hk]; rfl)
  have hk6 : 6 ≤ k ∧ k ≤ 10 := by simpa [Sp.macB] using hk
  have hfu := Sp.may_fuel hm
  have HCUT := hid (cut_args I fuel hm)
  rw [hm] at HMB
  clear hm hk
  obtain ⟨F, rfl⟩ := Int.eq_ofNat_of_zero_le hfu.1
  go_upto_region 5 with (first | (go_at_call 17; refine (HHM.out _).mono ?_; rintro e w' ⟨rfl, rfl⟩) | (refine wpList_load_inG (by rfl) (.tmp 6) rfl N I (by rfl) HRI1.out ?_) | (go_at_call 15; refine HMB.out.mono ?_; rintro e w3 ⟨rfl, hb3⟩; have HB3 := hid hb3; clear hb3))
  have HO3 := hid (HO1'.out.of_block (HB3.out.block (N + 1) (by omega)))
  have HRI3 := hid (HRI1.out.of_block (HB3.out.block N (by omega)))
  have HBW3 := hid (HBW1.out.trans (HB3.out.mono (by omega)))
  have hs3 := HB3.out.size
  clear HO1' HRI1 HBW1 HB3 HMB HHM
  have HRM := hid (readMachine_any s k (by omega) w3 hle)
  go_wp2_with fail
  refine HRM.out.mono ?_
  rintro e w2 ⟨vC, vB, ok, rfl, hok, hsrc, hb2, ⟨aC, nC, cC, rfl⟩, ⟨aB, nB, cB, rfl⟩⟩
  have HOK := hid hok
  have HSRC := hid (show ok = true → MacAt k w2 w3.heap.size s (.slice aC nC cC) (.slice aB nB cB) from hsrc)
  have HRI2 := hid (HRI3.out.of_block (hb2.block N (by omega)))
  have HO2 := hid (HO3.out.of_block (hb2.block (N + 1) (by omega)))
  have HBW2 := hid (HBW3.out.trans (hb2.mono (by omega)))
  have hsz2 := hb2.size
  clear HRI3 HO3 HBW3 hok hsrc hb2 HRM
  have HB3 := hid (below_box w2 (.cells #[.slice aC nC cC, .slice aB nB cB] 47))
  have HRI3 := hid (HRI2.out.of_block (HB3.out.block N (by omega)))
  have HO3 := hid (HO2.out.of_block (HB3.out.block (N + 1) (by omega)))
  have HBW3 := hid (HBW2.out.trans (HB3.out.mono (by omega)))
  have hsz3 : (w2.alloc (.cells #[.slice aC nC cC, .slice aB nB cB] 47)).heap.size = w2.heap.size + 1 := by simp
  have HRP := hid (row_two w2 (.slice aC nC cC) (.slice aB nB cB))
  cases ok
  · have HPB : Hid (Sp.progB (Sp.B s) s.size k = false) := hid HOK.out.symm
    go_wp2_with (first | (refine wpList_build_out rfl rfl ?_) | (refine wpList_store_out rfl (.tmp 8) (.tmp 34) rfl (N + 1) 0 st0 st0 (by rfl) (by rfl) HO3.out ?_; intro w4 ho4 ho4'; have HO4 := hidd ho4; have HY4 := hidd ho4'; clear ho4 ho4'))
    refine bodyPost_ret (v := .tuple #[.agg (outL st0).toArray, .int .i64 3]) (results_cell_two (q := 8) (r := 9) (a := ⟨N + 1, 0, none⟩) rfl _ _ (by rfl) (run_loadVar_out HO4.out)) (by rfl) ⟨st0, 3, rfl, Or.inr (Or.inr (Or.inl ⟨hle, HM.out, HPB.out, rfl, rfl⟩)), ?_⟩
    rw [hN]
    exact HBW3.out.trans (HY4.out.below (by omega))
  · have HPB : Hid (Sp.progB (Sp.B s) s.size k = true) := hid HOK.out.symm
    have hp4 := Sp.size_of_progB HPB.out
    have HMC : Hid (Calls Tryz.prog 20 #[.pointer (some ⟨w2.heap.size, 0, none⟩), .agg (inA I), .int .i64 (F : Int)] (w2.alloc (.cells #[.slice aC nC cC, .slice aB nB cB] 47)) fun e w' => e = .returned (.agg (outL (Sp.fillM k (Sp.runG (Sp.stepU s) F (Sp.start Sp.pM I.cut 4)))).toArray) ∧ Below (w2.alloc (.cells #[.slice aC nC cC, .slice aB nB cB] 47)).heap.size (w2.alloc (.cells #[.slice aC nC cC, .slice aB nB cB] 47)) w') := by
      have hg := ((HSRC.out rfl).move HB3.out).prog HRP.out
      have h := machine_any _ _ _ _ I.cut F _ hg (HT.out.of_block (HBW3.out.block 1 (by omega))) (by omega) HCUT.out (by rw [Sp.codeK_len]; omega) (by rw [Sp.codeK_len]; omega) (fun j hj => code_ok (by omega) HPB.out j hj) (fun q => str_bd _ _ (by omega) q)
      rw [mrun_eq (by omega) hk6.2 HPB.out, inA_cut] at h
      exact hid h
    rw [hsz3] at HMC
    go_wp2_with (first | (refine wpList_load_in rfl (.tmp 6) rfl N I (by rfl) HRI3.out ?_) | (go_at_call 20; refine HMC.out.mono ?_; rintro e w5 ⟨rfl, hb5⟩; have HO5 := hidd (HO3.out.of_block (hb5.block (N + 1) (by omega))); have HBW5 := hidd (HBW3.out.trans (hb5.mono (by omega))); clear hb5) | (refine wpList_store_out rfl (.tmp 8) (.tmp 37) rfl (N + 1) 0 _ st0 (by rfl) (by rfl) HO5.out ?_; intro w6 ho6 ho6'; have HO6 := hidd ho6; have HY6 := hidd ho6'; clear ho6 ho6'))
    refine bodyPost_ret (v := .tuple #[.agg (outL (Sp.fillM k (Sp.runG (Sp.stepU s) F (Sp.start Sp.pM I.cut 4)))).toArray, .int .i64 0]) (results_cell_two (q := 8) (r := 9) (a := ⟨N + 1, 0, none⟩) rfl _ _ (by rfl) (run_loadVar_out HO6.out)) (by rfl) ⟨_, 0, rfl, Or.inr (Or.inr (Or.inr ⟨hle, HM.out, HPB.out, rfl, rfl⟩)), ?_⟩
    rw [hN]
    exact HBW5.out.trans (HY6.out.below (by omega))

end Go.Proofs.YtccndnckceagfabGreatDoorR
