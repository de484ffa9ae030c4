/-
  The document's own Exec.
-/
import Derived.Test.YtccndnckceagfaaDoorRMac
namespace Go.Proofs.YtccndnckceagfaaDoorR
open Go.RowKit
namespace Sp
def macB (k : Int) : Bool := decide (6 ≤ k ∧ k ≤ 10)
/-- what Exec answers -/
def ExecR (s : ByteArray) (k : Int) (I : Inp) (fuel : Int) (st : St) (e : Int) : Prop :=
  (4096 < s.size ∧ e = 1 ∧ st = st0) ∨ (s.size ≤ 4096 ∧ (mayB I fuel && macB k) = false ∧ e = 2 ∧ st = st0) ∨ (s.size ≤ 4096 ∧ (mayB I fuel && macB k) = true ∧ progB (B s) s.size k = false ∧ e = 3 ∧ st = st0) ∨
  (s.size ≤ 4096 ∧ (mayB I fuel && macB k) = true ∧ progB (B s) s.size k = true ∧ e = 0 ∧ st = fillM k (runG (stepU s) fuel.toNat (start pM I.cut 4)))
theorem ExecR.det {s : ByteArray} {k : Int} {I : Inp} {fuel : Int} {st st' : St} {e e' : Int} (h : ExecR s k I fuel st e) (h' : ExecR s k I fuel st' e') : st = st' ∧ e = e' := by
  rcases h with ⟨a, b, c⟩ | ⟨a, b, c, d⟩ | ⟨a, b, c, d, g⟩ | ⟨a, b, c, d, g⟩ <;> rcases h' with ⟨a', b', c'⟩ | ⟨a', b', c', d'⟩ | ⟨a', b', c', d', g'⟩ | ⟨a', b', c', d', g'⟩
  · exact ⟨c.trans c'.symm, b.trans b'.symm⟩
  · omega
  · omega
  · omega
  · omega
  · exact ⟨d.trans d'.symm, c.trans c'.symm⟩
  · rw [b] at b'; cases b'
  · rw [b] at b'; cases b'
  · omega
  · rw [b] at b'; cases b'
  · exact ⟨g.trans g'.symm, d.trans d'.symm⟩
  · rw [c] at c'; cases c'
  · omega
  · rw [b] at b'; cases b'
  · rw [c] at c'; cases c'
  · exact ⟨g.trans g'.symm, d.trans d'.symm⟩
theorem memO_rs' (st : St) (o a b n : Int) (T : ByteArray) : (memO st o a b n T).regs = st.regs := by
  unfold memO memS
  repeat' split
  all_goals rfl
theorem stepU_rs (s : ByteArray) (st : St) (i : Nat) : (stepU s st i).1.regs = st.regs := by
  unfold stepU stepT frmS
  repeat' split
  all_goals first | rfl | exact memO_rs' _ _ _ _ _ _
theorem runG_rsU (s : ByteArray) : ∀ (f : Nat) (st : St), (runG (stepU s) f st).regs = st.regs := by
  intro f
  induction f with
  | zero => intro st; rfl
  | succ f ih =>
    intro st
    simp only [runG]
    have h := stepU_rs s st st.next.toNat
    split
    · exact (ih (stepU s st st.next.toNat).1).trans h
    · exact h
end Sp

theorem StAt.setRegs {w : World} {b : Nat} {s : ByteArray} {st : Sp.St} (h : StAt w b s st) (k : Nat) (hk : k < 10) (v : Int) : StAt (w.setCell ⟨b, 149 + k, none⟩ (.int .i64 v)) b s { st with regs := Sp.upd st.regs k v } :=
  h.setOne (149 + k) _ fun i hi => by
    by_cases c : i = 149 + k
    · rw [if_pos c, c]
      unfold stF
      rw [if_neg (by omega), if_neg (by omega), if_neg (by omega), if_neg (by omega), if_neg (by omega), if_neg (by omega), if_neg (by omega), if_neg (by omega), if_pos (by omega)]
      rw [show 149 + k - 149 = k from by omega]
      simp [Sp.upd]
    · rw [if_neg c]
      unfold stF
      repeat' split
      all_goals first | (simp only [Sp.upd]; rw [if_neg (by omega)]) | rfl
theorem StAt.setSlots {w : World} {b : Nat} {s : ByteArray} {st : Sp.St} (h : StAt w b s st) (k : Nat) (hk : k < 52) (v : Int) : StAt (w.setCell ⟨b, 159 + k, none⟩ (.int .i64 v)) b s { st with slots := Sp.upd st.slots k v } :=
  h.setOne (159 + k) _ fun i hi => by
    by_cases c : i = 159 + k
    · rw [if_pos c, c]
      unfold stF
      rw [if_neg (by omega), if_neg (by omega), if_neg (by omega), if_neg (by omega), if_neg (by omega), if_neg (by omega), if_neg (by omega), if_neg (by omega), if_neg (by omega)]
      rw [show 159 + k - 159 = k from by omega]
      simp [Sp.upd]
    · rw [if_neg c]
      unfold stF
      repeat' split
      all_goals first | (simp only [Sp.upd]; rw [if_neg (by omega)]) | rfl
theorem StAt.regs {w : World} {b : Nat} {s : ByteArray} {st : Sp.St} (h : StAt w b s st) (k : Nat) (hk : k < 10) : w.cell? ⟨b, 149 + k, none⟩ = some (.int .i64 (st.regs k)) := by
  have := h.out.cell (19 + k) (by omega)
  rwa [outV_regs st k hk, show 130 + (19 + k) = 149 + k from by omega] at this
theorem StAt.slots {w : World} {b : Nat} {s : ByteArray} {st : Sp.St} (h : StAt w b s st) (k : Nat) (hk : k < 52) : w.cell? ⟨b, 159 + k, none⟩ = some (.int .i64 (st.slots k)) := by
  have := h.out.cell (29 + k) (by omega)
  rwa [outV_slots st k hk, show 130 + (29 + k) = 159 + k from by omega] at this
theorem OutAt.congrL {w : World} {b o : Nat} {st st' : Sp.St} (h : OutAt w b o st) (e : outL st = outL st') : OutAt w b o st' :=
  ⟨fun j hj => by
    have h1 := outL_at st j hj
    rw [e, outL_at st' j hj] at h1
    rw [h.cell j hj, Option.some.inj h1], h.free⟩
theorem alpha_ix (j : Nat) (h : j < 52) (v : Int) (hv : Sp.B Sp.alpha j = v) (W : World) : (Instr.index 9 (.string ⟨#[97, 98, 99, 100, 101, 102, 103, 104, 105, 106, 107, 108, 109, 110, 111, 112, 113, 114, 115, 116, 117, 118, 119, 120, 121, 122, 65, 66, 67, 68, 69, 70, 71, 72, 73, 74, 75, 76, 77, 78, 79, 80, 81, 82, 83, 84, 85, 86, 87, 88, 89, 90]⟩) (.int .i64 (j : Int))).run Tryd.prog W = .ok (.int .u8 v) W := by
  have hz : j < Sp.alpha.size := h
  show (Instr.index 9 (.string Sp.alpha) (.int .i64 (j : Int))).run Tryd.prog W = .ok (.int .u8 v) W
  rw [run_index_string W 9 Sp.alpha .i64 _ Tryd.underlying9, dif_pos (by omega), ← hv]
  exact congrArg (fun z => Result.ok (Value.int .u8 z) W) (Sp.B_get Sp.alpha j hz)
/-- what registers and slots do not touch, the document's -/
structure Six (a b : Sp.St) : Prop where
  f0 : b.hold = a.hold
  f1 : b.status = a.status
  f2 : b.value = a.value
  f3 : b.pub = a.pub
  f4 : b.sec = a.sec
  f5 : b.trace = a.trace

theorem below_drewE {B : Nat} {w w' : World} (h : Below B w w') (n : Nat) : Below B w (w'.drewN n) := ⟨h.os, h.tape, h.output, h.size, h.block⟩
theorem refregs_any (k : Int) (w : World) : Calls Tryd.prog 45 #[.int .i64 k] w fun e w' => e = .returned (.bool (Sp.macB k)) ∧ w = w' := by
  by_cases h1 : 6 ≤ k
  · by_cases h2 : k ≤ 10
    · have HE := hid (show Sp.macB k = true by simp [Sp.macB, h1, h2])
      go_enter Tryd.func45, Tryd.ntmps45
      go_wp2_with fail
      go_ret
      exact ⟨ret_bool HE.out.symm, rfl⟩
    · have HE := hid (show Sp.macB k = false by simp [Sp.macB, h1, h2])
      go_enter Tryd.func45, Tryd.ntmps45
      go_wp2_with fail
      go_ret
      exact ⟨ret_bool HE.out.symm, rfl⟩
  · have HE := hid (show Sp.macB k = false by simp [Sp.macB, h1])
    go_enter Tryd.func45, Tryd.ntmps45
    go_wp2_with fail
    go_ret
    exact ⟨ret_bool HE.out.symm, rfl⟩

def ExecPost (s : ByteArray) (k : Int) (I : Sp.Inp) (fuel : Int) (w : World) (e : Ending) (w' : World) : Prop :=
  ∃ st f, e = .returned (.tuple #[.agg (outL st).toArray, .int .i64 f]) ∧ Sp.ExecR s k I fuel st f ∧ Below w.heap.size w w'

set_option maxRecDepth 20000 in
set_option maxHeartbeats 2000000 in
theorem refExec_any (s : ByteArray) (k : Int) (I : Sp.Inp) (fuel : Int) (w : World) (hs : s.size ≤ maxLen) :
    Calls Tryd.prog 21 #[.string s, .int .i64 k, .agg (inA I), .int .i64 fuel] w fun e w' => ExecPost s k I fuel w e w' := by
  have hsz := inA_size I
  have HRI := hid (in_row w I 29)
  have HBB := hid ((Below.refl w.heap.size w).alloc (Nat.le_refl _) (.cells (inA I) 29))
  go_enter Tryd.func21, Tryd.ntmps21
  go_upto_region 1 with (refine wpList_alloc_out rfl rfl ?_; intro w1 ho1 hb1 hz1; have HO1 := hidd ho1; have HB1 := hidd hb1; clear ho1 hb1)
  have hz1' : w1.heap.size = w.heap.size + 2 := by rw [hz1]; simp
  have HRI1 := hid (HRI.out.of_block (HB1.out.block w.heap.size (by simp)))
  have HO1' : Hid (OutAt w1 (w.heap.size + 1) 0 st0) := by have := HO1.out; simp only [World.size_alloc] at this; exact hid this
  have HBW1 := hid (HBB.out.trans (HB1.out.mono (by simp)))
  clear HO1 HRI HBB HB1 hz1
  generalize hN : w.heap.size = N at *
  by_cases hlong : 4096 < s.size
  · have hl : (4096 : Int) < s.size := by omega
    go_wp2_with (first | (refine wpList_build_out rfl rfl ?_) | (refine wpList_store_out rfl (.tmp 8) (.tmp 18) rfl (N + 1) 0 st0 st0 (by rfl) (by rfl) HO1'.out ?_; intro w4 ho4 ho4'; have HO4 := hidd ho4; have HY4 := hidd ho4'; clear ho4 ho4'))
    refine bodyPost_ret (v := .tuple #[.agg (outL st0).toArray, .int .i64 1]) (results_cell_two (q := 8) (r := 9) (a := ⟨N + 1, 0, none⟩) rfl _ _ (by rfl) (run_loadVar_out HO4.out)) (by rfl) ⟨st0, 1, rfl, Or.inl ⟨hlong, rfl, rfl⟩, ?_⟩
    rw [hN]
    exact HBW1.out.trans (HY4.out.below (by omega))
  have hl : ¬ (4096 : Int) < s.size := by omega
  have hle : s.size ≤ 4096 := by omega
  clear hlong
  go_upto_region 4 with (first | (refine wpList_load_in rfl (.tmp 6) rfl N I (by rfl) HRI1.out ?_) | (go_at_call 39; refine (may_any I fuel _).mono ?_; rintro e w3 ⟨rfl, hb3⟩; have HB3 := hidd hb3; clear hb3))
  have HRI3 := hidd (HRI1.out.of_block (HB3.out.block N (by omega)))
  have HO3 := hidd (HO1'.out.of_block (HB3.out.block (N + 1) (by omega)))
  have HBW3 := hidd (HBW1.out.trans (HB3.out.mono (by omega)))
  have hsz3 := HB3.out.size
  clear HRI1 HO1' HBW1 HB3
  cases hm : Sp.mayB I fuel
  · have HM := hid (show (Sp.mayB I fuel && Sp.macB k) = false by rw [hm]; rfl)
    clear hm
    go_wp2_with (first | (refine wpList_build_out rfl rfl ?_) | (refine wpList_store_out rfl (.tmp 8) (.tmp 29) rfl (N + 1) 0 st0 st0 (by rfl) (by rfl) HO3.out ?_; intro w4 ho4 ho4'; have HO4 := hidd ho4; have HY4 := hidd ho4'; clear ho4 ho4'))
    refine bodyPost_ret (v := .tuple #[.agg (outL st0).toArray, .int .i64 2]) (results_cell_two (q := 8) (r := 9) (a := ⟨N + 1, 0, none⟩) rfl _ _ (by rfl) (run_loadVar_out HO4.out)) (by rfl) ⟨st0, 2, rfl, Or.inr (Or.inl ⟨hle, HM.out, rfl, rfl⟩), ?_⟩
    rw [hN]
    exact HBW3.out.trans (HY4.out.below (by omega))
  have HMAY := hid hm
  cases hk : Sp.macB k
  · have HM := hid (show (Sp.mayB I fuel && Sp.macB k) = false by rw [hk]; simp)
    have HRG := hid (fun w => refregs_any k w)
    rw [hk] at HRG
    clear hm hk
    go_wp2_with (first | (go_at_call 45; refine (HRG.out _).mono ?_; rintro e w' ⟨rfl, rfl⟩) | (refine wpList_build_out rfl rfl ?_) | (refine wpList_store_out rfl (.tmp 8) (.tmp 29) rfl (N + 1) 0 st0 st0 (by rfl) (by rfl) HO3.out ?_; intro w4 ho4 ho4'; have HO4 := hidd ho4; have HY4 := hidd ho4'; clear ho4 ho4'))
    refine bodyPost_ret (v := .tuple #[.agg (outL st0).toArray, .int .i64 2]) (results_cell_two (q := 8) (r := 9) (a := ⟨N + 1, 0, none⟩) rfl _ _ (by rfl) (run_loadVar_out HO4.out)) (by rfl) ⟨st0, 2, rfl, Or.inr (Or.inl ⟨hle, HM.out, rfl, rfl⟩), ?_⟩
    rw [hN]
    exact HBW3.out.trans (HY4.out.below (by omega))
  have HM := hid (show (Sp.mayB I fuel && Sp.macB k) = true by rw [hm, hk]; rfl)
  have hk6 : 6 ≤ k ∧ k ≤ 10 := by simpa [Sp.macB] using hk
  have HRG := hid (fun w => refregs_any k w)
  rw [hk] at HRG
  clear hm hk
  have HPG := hid (fun w => program_any s k w hs)
  cases hp : Sp.progB (Sp.B s) s.size k
  · have HPB := hid hp
    rw [hp] at HPG
    clear hp
    go_wp2_with (first | (go_at_call 45; refine (HRG.out _).mono ?_; rintro e w' ⟨rfl, rfl⟩) | (go_at_call 46; refine (HPG.out _).mono ?_; rintro e w' ⟨rfl, nd, rfl⟩; have HO5 := hid (show OutAt (w3.drewN nd) (N + 1) 0 st0 from HO3.out.of_block rfl)) | (refine wpList_build_out rfl rfl ?_) | (refine wpList_store_out rfl (.tmp 8) (.tmp 35) rfl (N + 1) 0 st0 st0 (by rfl) (by rfl) HO5.out ?_; intro w4 ho4 ho4'; have HO4 := hidd ho4; have HY4 := hidd ho4'; clear ho4 ho4'))
    refine bodyPost_ret (v := .tuple #[.agg (outL st0).toArray, .int .i64 3]) (results_cell_two (q := 8) (r := 9) (a := ⟨N + 1, 0, none⟩) rfl _ _ (by rfl) (run_loadVar_out HO4.out)) (by rfl) ⟨st0, 3, rfl, Or.inr (Or.inr (Or.inl ⟨hle, HM.out, HPB.out, rfl, rfl⟩)), ?_⟩
    rw [hN]
    exact (below_drewE HBW3.out nd).trans (HY4.out.below (by omega))
  have HPB := hid hp
  rw [hp] at HPG
  clear hp
  go_upto_region 9 with (first | (go_at_call 45; refine (HRG.out _).mono ?_; rintro e w' ⟨rfl, rfl⟩) | (go_at_call 46; refine (HPG.out _).mono ?_; rintro e w' ⟨rfl, nd, rfl⟩))
  have HRI5 := hid (show (w3.drewN nd).rowIs N 29 20 (inF I) from HRI3.out)
  have HO5 := hid (show OutAt (w3.drewN nd) (N + 1) 0 st0 from HO3.out.of_block rfl)
  have HBW5 := hid (below_drewE HBW3.out nd)
  have hsz5 : N + 2 ≤ (w3.drewN nd).heap.size := by rw [show (w3.drewN nd).heap.size = w3.heap.size from rfl]; omega
  clear HRI3 HO3 HBW3 hsz3 HRG HPG
  generalize w3.drewN nd = w5 at *
  have HPL := hid (playedM s I fuel w5 (k := k) (by omega) hk6.2 hle HPB.out HMAY.out)
  have HRR := hid (show (Sp.runG (Sp.stepU s) fuel.toNat (Sp.start Sp.pM I.cut 4)).regs = fun _ => 0 from Sp.runG_rsU s _ _)
  generalize hR : Sp.runG (Sp.stepU s) fuel.toNat (Sp.start Sp.pM I.cut 4) = R at *
  have HR := hid hR
  clear hR
  go_upto_region 11 with (first | (refine wpList_load_in rfl (.tmp 6) rfl N I (by rfl) HRI5.out ?_) | (go_at_call 40; refine HPL.out.mono ?_; rintro e w6 ⟨rfl, hS6, hb6⟩; have HS6 := hid hS6; have HO6 := hid (HO5.out.of_block (hb6.block (N + 1) (by omega))); have HB6 := hid (HBW5.out.trans (hb6.mono (by omega))); clear hS6 hb6))
  clear HPL HRI5 HO5 HBW5
  obtain ⟨q, hq⟩ : ∃ q, w5.heap.size + 1 = q := ⟨_, rfl⟩
  rw [hq] at HS6 ⊢
  have hqN : N + 2 < q := by omega
  clear hq hsz5
  obtain ⟨K, rfl⟩ := Int.eq_ofNat_of_zero_le (show 0 ≤ k by omega)
  have hK6 : 6 ≤ K ∧ K ≤ 10 := by omega
  go_loopw [13] (fun nv wr => ∃ (j : Nat) (st : Sp.St), j ≤ K ∧ nv = .int .i64 j ∧ StAt wr q s st ∧ Six R st ∧ (∀ i, i < 10 → st.regs i = if i < j then R.hold (48 + i) else 0) ∧ Below N w wr ∧ OutAt wr (N + 1) 0 st0) (fun nv _ => K - (intOf nv).toNat)
  case atStart => exact ⟨0, R, by omega, rfl, HS6.out, ⟨rfl, rfl, rfl, rfl, rfl, rfl⟩, fun i _ => by rw [HRR.out]; simp, HB6.out, HO6.out⟩
  case round =>
    obtain ⟨j, st, hj, rfl, hS, h6, hreg, hB, hO⟩ := hrel
    have HS := hid hS
    have H6 := hid h6
    have HREG := hid hreg
    have HB := hid hB
    have HO := hid hO
    have hql := hS.lt
    by_cases hlt : j < K
    · have ch := hS.hold (48 + j) (by omega)
      have cr := hS.regs j (by omega)
      have fr := hS.free (149 + j)
      clear hS h6 hreg hB hO
      go_wp2_with fail
      go_region
      all_goals
        go_wp2_with fail
        go_roundw
        case rel => exact ⟨j + 1, _, by omega, by go_num, (HS.out.setRegs j (by omega) _).drew, ⟨H6.out.f0, H6.out.f1, H6.out.f2, H6.out.f3, H6.out.f4, H6.out.f5⟩, fun i hi => by
          show Sp.upd st.regs j _ i = _
          unfold Sp.upd
          by_cases e : i = j
          · rw [if_pos e, e, if_pos (by omega), H6.out.f0]
          · rw [if_neg e, HREG.out i hi]
            by_cases e2 : i < j
            · rw [if_pos e2, if_pos (by omega)]
            · rw [if_neg e2, if_neg (by omega)], (HB.out.setCell (show N ≤ q by omega) _).drew, HO.out.of_block (by rw [heap_drew, set_other (by omega)])⟩
        case measure => simp [intOf]; omega
    · have HJ := hid (show j = K by omega)
      clear hS h6 hreg hB hO
      go_wp2_with fail
      go_loopw [14] (fun nv wr => ∃ (j : Nat) (st : Sp.St), j ≤ 52 ∧ nv = .int .i64 j ∧ StAt wr q s st ∧ Six R st ∧ (∀ i, i < 10 → st.regs i = if i < K then R.hold (48 + i) else 0) ∧ (∀ i, i < j → st.slots i = R.hold (Sp.B Sp.alpha i).toNat) ∧ Below N w wr ∧ OutAt wr (N + 1) 0 st0) (fun nv _ => 52 - (intOf nv).toNat)
      case atStart => exact ⟨0, st, by omega, rfl, HS.out, H6.out, fun i hi => by rw [HREG.out i hi, HJ.out], fun i hi => by omega, HB.out, HO.out⟩
      case round =>
        obtain ⟨j', st', hj', rfl, hS, h6, hreg, hslt, hB, hO⟩ := hrel
        have HS' := hid hS
        have H6' := hid h6
        have HREG' := hid hreg
        have HSLT' := hid hslt
        have HB' := hid hB
        have HO' := hid hO
        have hql' := hS.lt
        by_cases hlt' : j' < 52
        · obtain ⟨hl, _⟩ := Sp.alpha_let j' hlt'
          obtain ⟨b0, b1⟩ := Sp.let_bd hl
          obtain ⟨v, hv⟩ := Int.eq_ofNat_of_zero_le b0
          have hix := alpha_ix j' hlt' v hv
          have ch := hS.hold v (by omega)
          have cs := hS.slots j' hlt'
          have fs := hS.free (159 + j')
          have HV := hid hv
          have hv128 : v < 128 := by omega
          clear hS h6 hreg hslt hB hO hl b0 b1 hv
          go_wp2_with fail
          go_region
          all_goals
            go_wp2_with fail
            go_roundw
            case rel => exact ⟨j' + 1, _, by omega, by go_num, (HS'.out.setSlots j' hlt' _).drew, ⟨H6'.out.f0, H6'.out.f1, H6'.out.f2, H6'.out.f3, H6'.out.f4, H6'.out.f5⟩, HREG'.out, fun i hi => by
              show Sp.upd st'.slots j' _ i = _
              unfold Sp.upd
              by_cases e : i = j'
              · rw [if_pos e, e, HV.out, Int.toNat_natCast, H6'.out.f0]
              · rw [if_neg e]; exact HSLT'.out i (by omega), (HB'.out.setCell (show N ≤ q by omega) _).drew, HO'.out.of_block (by rw [heap_drew, set_other (by omega)])⟩
            case measure => simp [intOf]; omega
        · have HJ' := hid (show j' = 52 by omega)
          have HE : Hid (outL st' = outL (Sp.fillM K R)) := hid (outL_congr' H6'.out.f1 H6'.out.f2 H6'.out.f3 H6'.out.f4 H6'.out.f5 (fun i hi => by
            rw [HREG'.out i hi]
            show _ = if (i : Int) < K then R.hold (48 + i) else 0
            by_cases e : i < K
            · rw [if_pos e, if_pos (by omega)]
            · rw [if_neg e, if_neg (by omega)]) (fun i hi => HSLT'.out i (by rw [HJ'.out]; exact hi)))
          have HOUT := hid (hS.out.congrL HE.out)
          clear hS h6 hreg hslt hB hO
          go_wp2_with (first | (refine wpList_load_out rfl (.tmp 77) rfl q 130 _ (by rfl) HOUT.out ?_) | (refine wpList_store_out rfl (.tmp 8) (.tmp 78) rfl (N + 1) 0 _ st0 (by rfl) (by rfl) HO'.out ?_; intro w7 ho7 ho7'; have HO7 := hidd ho7; have HY7 := hidd ho7'; clear ho7 ho7'))
          refine bodyPost_ret (v := .tuple #[.agg (outL (Sp.fillM K R)).toArray, .int .i64 0]) (results_cell_two (q := 8) (r := 9) (a := ⟨N + 1, 0, none⟩) rfl _ _ (by rfl) (run_loadVar_out HO7.out)) (by rfl) ⟨_, 0, rfl, Or.inr (Or.inr (Or.inr ⟨hle, HM.out, HPB.out, rfl, by rw [HR.out]⟩)), ?_⟩
          rw [hN]
          exact HB'.out.trans (HY7.out.below (by omega))
end Go.Proofs.YtccndnckceagfaaDoorR
