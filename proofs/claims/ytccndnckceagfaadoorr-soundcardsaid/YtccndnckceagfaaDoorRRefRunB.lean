/-
  A whole run of the document's own.
-/
import Derived.Test.YtccndnckceagfaaDoorRRefRunA
import Derived.Test.YtccndnckceagfaaDoorRRefRun9
namespace Go.Proofs.YtccndnckceagfaaDoorR
open Go.RowKit
namespace Sp
/-- what the places hold when k arguments are laid, each at its place -/
def hold0 (p : Nat → Nat) (I : Inp) : Nat → Nat → Int
  | 0 => fun _ => 0
  | k + 1 => upd (hold0 p I k) (p k) (I.args k)
def start (p : Nat → Nat) (I : Inp) (k : Nat) : St := { st0 with pub := I.pub, sec := I.sec, hold := hold0 p I k }
/-- a run of at most f steps, each of them stp -/
def runG (stp : St → Nat → St × Bool) : Nat → St → St
  | 0, st => { st with status := 2 }
  | f + 1, st => if (stp st st.next.toNat).2 = true then runG stp f (stp st st.next.toNat).1 else (stp st st.next.toNat).1
theorem val_bd {n : Int} (h : valB n = true) : 0 ≤ n ∧ n ≤ 65535 := by
  unfold valB at h
  simpa using h
theorem may_at {I : Inp} {f : Int} (h : mayB I f = true) (j : Nat) (hj : j < 20) : 0 ≤ I.at' j ∧ I.at' j ≤ 65535 := by
  unfold mayB at h
  rw [Bool.and_eq_true] at h
  exact val_bd (List.all_eq_true.1 h.1 j (List.mem_range.2 hj))
theorem may_fuel {I : Inp} {f : Int} (h : mayB I f = true) : 0 ≤ f ∧ f ≤ 20000 := by
  unfold mayB at h
  rw [Bool.and_eq_true] at h
  exact of_decide_eq_true h.2
/-- an input whose numbers beyond its bounds are none -/
def Inp.cut (I : Inp) : Inp := ⟨fun k => if k < 4 then I.args k else 0, fun k => if k < 8 then I.pub k else 0, fun k => if k < 8 then I.sec k else 0⟩
theorem cut_at (I : Inp) (j : Nat) (hj : j < 20) : I.cut.at' j = I.at' j := by
  unfold Inp.cut Inp.at'
  by_cases h1 : j < 4
  · simp [h1]
  · by_cases h2 : j < 12
    · simp [h1, h2, show j - 4 < 8 by omega]
    · simp [h1, h2, show j - 12 < 8 by omega]
theorem hold0_bd (p : Nat → Nat) (I : Inp) (h : ∀ k, 0 ≤ I.args k ∧ I.args k ≤ 65535) (k : Nat) : ∀ j, 0 ≤ hold0 p I k j ∧ hold0 p I k j ≤ 65535 := by
  induction k with
  | zero => intro j; simp [hold0]
  | succ k ih => exact upd_bd ih _ (h k)
end Sp

theorem inA_cut (I : Sp.Inp) : inA I.cut = inA I := by
  unfold inA inF
  congr 1
theorem may_cut (I : Sp.Inp) (f : Int) : Sp.mayB I.cut f = Sp.mayB I f := by
  unfold Sp.mayB
  congr 1
theorem cut_args (I : Sp.Inp) (f : Int) (h : Sp.mayB I f = true) : (∀ k, 0 ≤ I.cut.args k ∧ I.cut.args k ≤ 65535) ∧ (∀ k, 0 ≤ I.cut.pub k ∧ I.cut.pub k ≤ 65535) ∧ ∀ k, 0 ≤ I.cut.sec k ∧ I.cut.sec k ≤ 65535 := by
  refine ⟨fun k => ?_, fun k => ?_, fun k => ?_⟩
  · show 0 ≤ (if k < 4 then I.args k else 0) ∧ (if k < 4 then I.args k else 0) ≤ 65535
    split
    · have := Sp.may_at h k (by omega)
      unfold Sp.Inp.at' at this
      rwa [if_pos (by assumption)] at this
    · omega
  · show 0 ≤ (if k < 8 then I.pub k else 0) ∧ (if k < 8 then I.pub k else 0) ≤ 65535
    split
    · have := Sp.may_at h (4 + k) (by omega)
      unfold Sp.Inp.at' at this
      rwa [if_neg (by omega), if_pos (by omega), Nat.add_sub_cancel_left] at this
    · omega
  · show 0 ≤ (if k < 8 then I.sec k else 0) ∧ (if k < 8 then I.sec k else 0) ≤ 65535
    split
    · have := Sp.may_at h (12 + k) (by omega)
      unfold Sp.Inp.at' at this
      rwa [if_neg (by omega), if_neg (by omega), Nat.add_sub_cancel_left] at this
    · omega

theorem start_ok {p : Nat → Nat} {I : Sp.Inp} (h : (∀ k, 0 ≤ I.args k ∧ I.args k ≤ 65535) ∧ (∀ k, 0 ≤ I.pub k ∧ I.pub k ≤ 65535) ∧ ∀ k, 0 ≤ I.sec k ∧ I.sec k ≤ 65535) (k : Nat) : (Sp.start p I k).ok 0 :=
  ⟨Sp.hold0_bd p I h.1 k, h.2.1, h.2.2, Nat.le_refl 0⟩

/-- what is asked of one step: it does what stp tells, values stay values, the next instruction is there -/
structure Steps (s : ByteArray) (stp : Sp.St → Nat → Sp.St × Bool) : Prop where
  call : ∀ (b : Nat) (st : Sp.St) (i : Nat) (w : World), StAt w b s st → st.ok 100000000 → st.next = i → i < s.size / 4 →
    Calls Tryd.prog 70 #[.pointer (some ⟨b, 0, none⟩)] w fun e w' => e = .returned (.bool (stp st i).2) ∧ StAt w' b s (stp st i).1 ∧ But w.heap.size b w w'
  ok : ∀ (st : Sp.St) (i m : Nat), st.ok m → i < s.size / 4 → (stp st i).1.ok (m + 9)
  next : ∀ (st : Sp.St) (i : Nat), i < s.size / 4 → (stp st i).2 = true → ∃ j, j < s.size / 4 ∧ (stp st i).1.next = (j : Int)

theorem in_args {w : World} {b t : Nat} {I : Sp.Inp} (h : w.rowIs b t 20 (inF I)) (j : Nat) (hj : j < 4) : w.cell? ⟨b, j, none⟩ = some (.int .i64 (I.args j)) := by
  rw [h.cell (i := j) (by omega)]
  unfold inF Sp.Inp.at'
  rw [if_pos hj]
theorem in_pub {w : World} {b t : Nat} {I : Sp.Inp} (h : w.rowIs b t 20 (inF I)) (j : Nat) (hj : j < 8) : w.cell? ⟨b, 4 + j, none⟩ = some (.int .i64 (I.pub j)) := by
  rw [h.cell (i := 4 + j) (by omega)]
  unfold inF Sp.Inp.at'
  rw [if_neg (by omega), if_pos (by omega), Nat.add_sub_cancel_left]
theorem in_sec {w : World} {b t : Nat} {I : Sp.Inp} (h : w.rowIs b t 20 (inF I)) (j : Nat) (hj : j < 8) : w.cell? ⟨b, 12 + j, none⟩ = some (.int .i64 (I.sec j)) := by
  rw [h.cell (i := 12 + j) (by omega)]
  unfold inF Sp.Inp.at'
  rw [if_neg (by omega), if_neg (by omega), Nat.add_sub_cancel_left]

theorem But.to_below {N b : Nat} {w w' : World} (h : But w.heap.size b w w') (hN : N ≤ b) (hs : N ≤ w.heap.size) : Below N w w' :=
  ⟨h.os, h.tape, h.output, h.size, fun k hk => h.block k (by omega) (by omega)⟩

set_option maxRecDepth 20000 in
set_option maxHeartbeats 2000000 in
theorem played_any (s wh : ByteArray) (p : Nat → Nat) (I : Sp.Inp) (fuel : Int) (w : World) (stp : Sp.St → Nat → Sp.St × Bool) (hst : Steps s stp) (h4 : 0 < s.size / 4)
    (hw4 : wh.size = 4) (hwp : ∀ j (h : j < wh.size), ((wh[j]).toNat : Int) = p j) (hp : ∀ j, j < 4 → p j < 128)
    (hI : (∀ k, 0 ≤ I.args k ∧ I.args k ≤ 65535) ∧ (∀ k, 0 ≤ I.pub k ∧ I.pub k ≤ 65535) ∧ ∀ k, 0 ≤ I.sec k ∧ I.sec k ≤ 65535) (hf0 : 0 ≤ fuel) (hf1 : fuel ≤ 20000) :
    Calls Tryd.prog 40 #[.string s, .string wh, .agg (inA I), .int .i64 fuel] w fun e w' =>
      e = .returned (.pointer (some ⟨w.heap.size + 1, 0, none⟩)) ∧ StAt w' (w.heap.size + 1) s (Sp.runG stp fuel.toNat (Sp.start p I 4)) ∧ Below w.heap.size w w' := by
  have hsz := inA_size I
  have HST := hidd hst
  have HWP := hidd hwp
  have HP := hidd hp
  have HI := hidd hI
  clear hst hwp hp hI
  go_enter Tryd.func40, Tryd.ntmps40
  go_upto_region 2 with fail
  obtain ⟨W, hW⟩ : ∃ W, ((w.alloc (Obj.cells (inA I) 29)).alloc (Obj.cells (Tryd.zeroCells70.setIfInBounds 0 (Value.string s)) 70)) = W := ⟨_, rfl⟩
  rw [hW]
  have RI : W.rowIs w.heap.size 29 20 (inF I) := by rw [← hW]; exact (in_row w I _).alloc _
  have S0 : StAt W (w.heap.size + 1) s st0 := by
    have := st_new (w.alloc (Obj.cells (inA I) 29)) s
    rw [hW] at this
    simpa using this
  have B0 : Below w.heap.size w W := by rw [← hW]; exact ((Below.refl _ _).alloc (Nat.le_refl _) _).alloc (by simp) _
  have Z0 : W.heap.size = w.heap.size + 2 := by rw [← hW]; simp
  have HRI := hidd RI
  have HS0 := hidd S0
  have HB0 := hidd B0
  clear hW RI S0 B0
  generalize hN : w.heap.size = N at *
  go_upto_region 3 with (first | (refine wpList_load8 rfl (.tmp 17) rfl N 4 I.pub (by rfl) (fun j hj => in_pub HRI.out j hj) ?_) | (refine wpList_storePub rfl (.tmp 21) (.tmp 18) rfl (N + 1) s st0 I.pub (by rfl) (by rfl) HS0.out ?_; intro w2 hs2 hb2 hz2; have HS2 := hidd hs2; have HB2 := hidd hb2; clear hs2 hb2))
  have HRI2 : Hid (w2.rowIs N 29 20 (inF I)) := hid (HRI.out.of_block (HB2.out.block N (by omega) (by omega)))
  have HB2' : Hid (Below N w w2) := hid (HB0.out.trans (HB2.out.to_below (by omega) (by omega)))
  go_upto_region 4 with (first | (refine wpList_load8 rfl (.tmp 23) rfl N 12 I.sec (by rfl) (fun j hj => in_sec HRI2.out j hj) ?_) | (refine wpList_storeSec rfl (.tmp 27) (.tmp 24) rfl (N + 1) s { st0 with pub := I.pub } I.sec (by rfl) (by rfl) HS2.out ?_; intro w3 hs3 hb3 hz3; have HS3 := hidd hs3; have HB3 := hidd hb3; clear hs3 hb3))
  have HRI3 : Hid (w3.rowIs N 29 20 (inF I)) := hid (HRI2.out.of_block (HB3.out.block N (by omega) (by omega)))
  have HB3' : Hid (Below N w w3) := hid (HB2'.out.trans (HB3.out.to_below (by omega) (by omega)))
  clear HRI HRI2 HB2' HB0 HB2 HB3 HS0 HS2
  go_wp2_with fail
  go_loopw [10] (fun iv wr => ∃ i : Nat, i ≤ 4 ∧ iv = .int .i64 i ∧ StAt wr (N + 1) s (Sp.start p I i) ∧ wr.rowIs N 29 20 (inF I) ∧ Below N w wr) (fun iv _ => 4 - (intOf iv).toNat)
  case atStart => exact ⟨0, by omega, rfl, HS3.out, HRI3.out, HB3'.out⟩
  case round =>
    clear HRI3 HB3' HS3
    obtain ⟨i, hi, rfl, hS, hR, hB⟩ := hrel
    have HS := hidd hS
    have HR := hidd hR
    have HB := hidd hB
    by_cases hlt : i < 4
    · have hpi := HP.out i hlt
      have hg := HWP.out i (by omega)
      have ca := in_args hR i hlt
      have ch := hS.hold (p i) hpi
      have fh := hS.free (1 + p i)
      have hl' : i < wh.size := by omega
      have HBW : Hid (∀ v, Below N w (wr.setCell ⟨N + 1, 1 + p i, none⟩ v).drew) := hid (fun v => by
        have h := hB.trans (But.to_below (b := N + 1) (But.set (off := 1 + p i) wr v) (by omega) (by have := hS.lt; omega))
        exact ⟨h.os, h.tape, h.output, h.size, h.block⟩)
      clear hS hR hB
      go_wp2_with fail
      go_region
      all_goals
        go_wp2_with fail
        go_roundw
        case rel => exact ⟨i + 1, by omega, by go_num, (HS.out.setHold (p i) hpi _), HR.out.of_block (set_other (by omega)), HBW.out _⟩
        case measure => simp [intOf]; omega
    · obtain rfl : i = 4 := by omega
      clear hS hR hB
      go_wp2_with fail
      have HOK := hidd (start_ok (p := p) HI.out 4)
      clear HWP HP HI
      go_loopw [11] (fun iv wr => ∃ (k : Nat) (st : Sp.St) (j : Nat), (k : Int) ≤ fuel ∧ iv = .int .i64 k ∧ StAt wr (N + 1) s st ∧ st.ok (9 * k) ∧ j < s.size / 4 ∧ st.next = j ∧ Sp.runG stp fuel.toNat (Sp.start p I 4) = Sp.runG stp (fuel.toNat - k) st ∧ Below N w wr) (fun iv _ => fuel.toNat - (intOf iv).toNat)
      case atStart => exact ⟨0, _, 0, by omega, rfl, HS.out, HOK.out, h4, rfl, rfl, HB.out⟩
      case round =>
        clear HOK HS HR HB
        obtain ⟨k, st, j, hk, rfl, hS, hok, hj, hn, hrun, hB⟩ := hrel
        have HS := hidd hS
        have HOK := hidd hok
        have HN := hidd hn
        have HRUN := hidd hrun
        have HB := hidd hB
        have hbl := hS.lt
        by_cases hlt : (k : Int) < fuel
        · have HC := HST.out.call (N + 1) st j wr HS.out ⟨HOK.out.hold, HOK.out.pub, HOK.out.sec, by have := HOK.out.trace; omega⟩ HN.out hj
          have hnt : st.next.toNat = j := by rw [hn, Int.toNat_natCast]
          have hsub : fuel.toNat - k = (fuel.toNat - (k + 1)) + 1 := by omega
          rw [hsub] at hrun
          simp only [Sp.runG, hnt] at hrun
          have HOK' := hidd (HST.out.ok st j (9 * k) hok hj)
          have HNX := hidd (HST.out.next st j hj)
          cases hr : (stp st j).2
          · rw [hr] at HC hrun
            rw [if_neg (by simp)] at hrun
            have HRUN := hidd hrun
            have HCH := hidd HC
            clear hS hok hn hrun hB hnt HC hr hsub
            go_wp2_with (go_at_call 70; refine HCH.out.mono ?_; rintro e w' ⟨rfl, hS', hB'⟩; have HS' := hidd hS'; have HB' := hidd hB'; clear hS' hB')
            go_ret
            rw [hN]
            exact ⟨rfl, by rw [HRUN.out]; exact HS'.out, HB.out.trans (HB'.out.to_below (by omega) (by omega))⟩
          · rw [hr] at HC hrun
            rw [if_pos rfl] at hrun
            have HRUN := hidd hrun
            have HCH := hidd HC
            have HR' := hidd hr
            clear hS hok hn hrun hB hnt HC hr hsub
            go_wp2_with (go_at_call 70; refine HCH.out.mono ?_; rintro e w' ⟨rfl, hS', hB'⟩; have HS' := hidd hS'; have HB' := hidd hB'; clear hS' hB')
            go_roundw
            case rel =>
              obtain ⟨j', hj', hn'⟩ := HNX.out HR'.out
              repeat apply Exists.intro
              refine ⟨?_, rfl⟩
              exact ⟨k + 1, _, j', by omega, by go_num, HS'.out, HOK'.out, hj', hn', HRUN.out, HB.out.trans (HB'.out.to_below (by omega) (by omega))⟩
            case measure => simp [intOf]; omega
        · have cs := hS.status
          have fs := hS.free 130
          have hz : fuel.toNat - k = 0 := by omega
          rw [hz] at hrun
          have HRUN := hidd hrun
          clear hS hok hn hrun hB hz
          go_wp2_with fail
          go_ret
          exact ⟨rfl, by rw [HRUN.out]; exact HS.out.setStatus 2, HB.out.trans (But.to_below (b := N + 1) (But.set _ _) (by omega) (by omega))⟩
end Go.Proofs.YtccndnckceagfaaDoorR
