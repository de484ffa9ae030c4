/-
  Two outcomes that are the same are found the same.
-/
import Derived.Test.YtccndnckceagfaaDoorROut
namespace Go.Proofs.YtccndnckceagfaaDoorR
open Go.RowKit

theorem arr_row (w : World) (f : Nat → Int) (t : Nat) : (w.alloc (.cells (arrL f).toArray t)).rowIs w.heap.size t 8 (fun j => .int .i64 (f j)) := by
  have h := World.rowIs_alloc w (arrL f).toArray t (fun j => .int .i64 (f j)) (fun j hj => by
    have hj' : j < 8 := by simpa [arrL_len] using hj
    rw [List.getElem?_toArray]
    exact arrL_at f j hj')
  have hs : (arrL f).toArray.size = 8 := by simp [arrL_len]
  rw [hs] at h
  exact h

set_option maxRecDepth 20000 in
set_option maxHeartbeats 1000000 in
theorem words_same (f : Nat → Int) (w : World) :
    Calls Tryd.prog 41 #[.agg (arrL f).toArray, .agg (arrL f).toArray] w fun e w' => e = .returned (.bool true) ∧ Below w.heap.size w w' := by
  have hs : (arrL f).toArray.size = 8 := by simp [arrL_len]
  go_enter Tryd.func41, Tryd.ntmps41
  go_upto_region 1 with fail
  have R1 := (arr_row w f 27).alloc (.cells (arrL f).toArray 27)
  have R2 := arr_row (w.alloc (.cells (arrL f).toArray 27)) f 27
  have B2 : Below w.heap.size w ((w.alloc (.cells (arrL f).toArray 27)).alloc (.cells (arrL f).toArray 27)) := ((Below.refl _ _).alloc (Nat.le_refl _) _).alloc (by simp) _
  simp only [World.size_alloc] at R2
  generalize ((w.alloc (.cells (arrL f).toArray 27)).alloc (.cells (arrL f).toArray 27)) = W at *
  have HR1 := hidd R1
  have HR2 := hidd R2
  have HB2 := hidd B2
  clear R1 R2 B2
  generalize hN : w.heap.size = N at *
  go_wp2_with fail
  go_loopw [5] (fun iv wr => ∃ i : Nat, i ≤ 8 ∧ iv = .int .i64 i ∧ wr.heap = W.heap ∧ Below N w wr) (fun iv _ => 8 - (intOf iv).toNat)
  case atStart => exact ⟨0, by omega, rfl, rfl, HB2.out⟩
  case round =>
    obtain ⟨i, hi, rfl, hh, hb⟩ := hrel
    have HH := hidd hh
    have HB := hidd hb
    by_cases hlt : i < 8
    · have c1 := (HR1.out.of_block (w' := wr) (by rw [hh])).cell (i := i) hlt
      have c2 := (HR2.out.of_block (w' := wr) (by rw [hh])).cell (i := i) hlt
      clear hh hb
      go_wp2_with fail
      go_region
      all_goals
        go_wp2_with fail
        go_roundw
        case rel => exact ⟨i + 1, by omega, by go_num, HH.out, HB.out.drew⟩
        case measure => simp [intOf]; omega
    · clear hh hb
      go_wp2_with fail
      go_ret
      exact ⟨rfl, by rw [hN]; exact HB.out⟩

theorem outV_pub (st : Sp.St) (j : Nat) (hj : j < 8) : outV st (2 + j) = .int .i64 (st.pub j) := by
  unfold outV stF
  rw [if_neg (by omega), if_neg (by omega), if_neg (by omega), if_neg (by omega), if_neg (by omega), if_pos (by omega)]
  rw [show 130 + (2 + j) - 132 = j from by omega]
theorem outV_sec (st : Sp.St) (j : Nat) (hj : j < 8) : outV st (10 + j) = .int .i64 (st.sec j) := by
  unfold outV stF
  rw [if_neg (by omega), if_neg (by omega), if_neg (by omega), if_neg (by omega), if_neg (by omega), if_neg (by omega), if_pos (by omega)]
  rw [show 130 + (10 + j) - 140 = j from by omega]
theorem outV_regs (st : Sp.St) (j : Nat) (hj : j < 10) : outV st (19 + j) = .int .i64 (st.regs j) := by
  unfold outV stF
  rw [if_neg (by omega), if_neg (by omega), if_neg (by omega), if_neg (by omega), if_neg (by omega), if_neg (by omega), if_neg (by omega), if_neg (by omega), if_pos (by omega)]
  rw [show 130 + (19 + j) - 149 = j from by omega]
theorem outV_slots (st : Sp.St) (j : Nat) (_hj : j < 52) : outV st (29 + j) = .int .i64 (st.slots j) := by
  unfold outV stF
  rw [if_neg (by omega), if_neg (by omega), if_neg (by omega), if_neg (by omega), if_neg (by omega), if_neg (by omega), if_neg (by omega), if_neg (by omega), if_neg (by omega)]
  rw [show 130 + (29 + j) - 159 = j from by omega]
theorem OutAt.pub {w : World} {b : Nat} {st : Sp.St} (h : OutAt w b 0 st) (j : Nat) (hj : j < 8) : w.cell? ⟨b, 2 + j, none⟩ = some (.int .i64 (st.pub j)) := by
  have := h.cell (2 + j) (by omega)
  rwa [Nat.zero_add, outV_pub st j hj] at this
theorem OutAt.sec {w : World} {b : Nat} {st : Sp.St} (h : OutAt w b 0 st) (j : Nat) (hj : j < 8) : w.cell? ⟨b, 10 + j, none⟩ = some (.int .i64 (st.sec j)) := by
  have := h.cell (10 + j) (by omega)
  rwa [Nat.zero_add, outV_sec st j hj] at this
theorem OutAt.regs {w : World} {b : Nat} {st : Sp.St} (h : OutAt w b 0 st) (j : Nat) (hj : j < 10) : w.cell? ⟨b, 19 + j, none⟩ = some (.int .i64 (st.regs j)) := by
  have := h.cell (19 + j) (by omega)
  rwa [Nat.zero_add, outV_regs st j hj] at this
theorem OutAt.slots {w : World} {b : Nat} {st : Sp.St} (h : OutAt w b 0 st) (j : Nat) (hj : j < 52) : w.cell? ⟨b, 29 + j, none⟩ = some (.int .i64 (st.slots j)) := by
  have := h.cell (29 + j) (by omega)
  rwa [Nat.zero_add, outV_slots st j hj] at this
theorem OutAt.status {w : World} {b : Nat} {st : Sp.St} (h : OutAt w b 0 st) : w.cell? ⟨b, 0, none⟩ = some (.int .i64 st.status) := h.cell 0 (by omega)
theorem OutAt.value {w : World} {b : Nat} {st : Sp.St} (h : OutAt w b 0 st) : w.cell? ⟨b, 1, none⟩ = some (.int .i64 st.value) := h.cell 1 (by omega)
theorem OutAt.trace {w : World} {b : Nat} {st : Sp.St} (h : OutAt w b 0 st) : w.cell? ⟨b, 18, none⟩ = some (.string st.trace) := h.cell 18 (by omega)

set_option maxRecDepth 20000 in
set_option maxHeartbeats 1000000 in
theorem same_same (st : Sp.St) (w : World) :
    Calls Tryd.prog 16 #[.agg (outL st).toArray, .agg (outL st).toArray] w fun e w' => e = .returned (.bool true) ∧ Below w.heap.size w w' := by
  have hs : (outL st).toArray.size = 81 := by simp [outL_len]
  go_enter Tryd.func16, Tryd.ntmps16
  go_upto_region 1 with fail
  have R1 := (out_new w st 33).of_block (w' := (w.alloc (.cells (outL st).toArray 33)).alloc (.cells (outL st).toArray 33)) (((Below.refl _ _).alloc (Nat.le_refl _) _).block _ (by simp))
  have R2 := out_new (w.alloc (.cells (outL st).toArray 33)) st 33
  have B2 : Below w.heap.size w ((w.alloc (.cells (outL st).toArray 33)).alloc (.cells (outL st).toArray 33)) := ((Below.refl _ _).alloc (Nat.le_refl _) _).alloc (by simp) _
  have Z2 : ((w.alloc (.cells (outL st).toArray 33)).alloc (.cells (outL st).toArray 33)).heap.size = w.heap.size + 2 := by simp
  simp only [World.size_alloc] at R2
  generalize ((w.alloc (.cells (outL st).toArray 33)).alloc (.cells (outL st).toArray 33)) = W at *
  have HR1 := hidd R1
  have HR2 := hidd R2
  have HB2 := hidd B2
  clear R1 R2 B2
  generalize hN : w.heap.size = N at *
  go_upto_region 2 with (first | (refine wpList_load8 rfl (.tmp 9) rfl N 2 st.pub (by rfl) (fun j hj => HR1.out.pub j hj) ?_) | (refine wpList_load8 rfl (.tmp 11) rfl (N + 1) 2 st.pub (by rfl) (fun j hj => HR2.out.pub j hj) ?_) | (go_at_call 41; refine (words_same _ _).mono ?_; rintro e w1 ⟨rfl, hb1⟩))
  have HS1 := hidd (HR1.out.of_block (hb1.block N (by omega)))
  have HS2 := hidd (HR2.out.of_block (hb1.block (N + 1) (by omega)))
  have HB3 := hidd (HB2.out.trans (hb1.mono (by omega)))
  have hz1 := hb1.size
  clear HR1 HR2 HB2 hb1
  go_upto_region 3 with (first | (refine wpList_load8 rfl (.tmp 14) rfl N 10 st.sec (by rfl) (fun j hj => HS1.out.sec j hj) ?_) | (refine wpList_load8 rfl (.tmp 16) rfl (N + 1) 10 st.sec (by rfl) (fun j hj => HS2.out.sec j hj) ?_) | (go_at_call 41; refine (words_same _ _).mono ?_; rintro e w2 ⟨rfl, hb2⟩))
  have r1 := HS1.out.of_block (hb2.block N (by omega))
  have r2 := HS2.out.of_block (hb2.block (N + 1) (by omega))
  have HB4 := hidd (HB3.out.trans (hb2.mono (by omega)))
  have HT1 := hidd r1
  have HT2 := hidd r2
  have s1 := r1.status
  have s2 := r2.status
  have v1 := r1.value
  have v2 := r2.value
  have t1 := r1.trace
  have t2 := r2.trace
  clear HS1 HS2 HB3 hb2 r1 r2
  go_wp2_with fail
  go_loopw [7] (fun iv wr => ∃ i : Nat, i ≤ 10 ∧ iv = .int .i64 i ∧ wr.heap = w2.heap ∧ Below N w wr) (fun iv _ => 10 - (intOf iv).toNat)
  case atStart => exact ⟨0, by omega, rfl, rfl, HB4.out⟩
  case round =>
    clear s1 s2 v1 v2 t1 t2
    obtain ⟨i, hi, rfl, hh, hb⟩ := hrel
    have HH := hidd hh
    have HB := hidd hb
    by_cases hlt : i < 10
    · have c1 := (HT1.out.of_block (w' := wr) (by rw [hh])).regs i hlt
      have c2 := (HT2.out.of_block (w' := wr) (by rw [hh])).regs i hlt
      clear hh hb
      go_wp2_with fail
      go_region
      all_goals
        go_wp2_with fail
        go_roundw
        case rel => exact ⟨i + 1, by omega, by go_num, HH.out, HB.out.drew⟩
        case measure => simp [intOf]; omega
    · clear hh hb
      have HT1' := hidd (HT1.out.of_block (w' := wr) (by rw [HH.out]))
      have HT2' := hidd (HT2.out.of_block (w' := wr) (by rw [HH.out]))
      go_wp2_with fail
      go_loopw [8] (fun iv wr' => ∃ i : Nat, i ≤ 52 ∧ iv = .int .i64 i ∧ wr'.heap = wr.heap ∧ Below N w wr') (fun iv _ => 52 - (intOf iv).toNat)
      case atStart => exact ⟨0, by omega, rfl, rfl, HB.out⟩
      case round =>
        obtain ⟨i, hi, rfl, hh, hb⟩ := hrel
        have HH' := hidd hh
        have HB' := hidd hb
        by_cases hlt : i < 52
        · have c1 := (HT1'.out.of_block (by rw [hh])).slots i hlt
          have c2 := (HT2'.out.of_block (by rw [hh])).slots i hlt
          clear hh hb
          go_wp2_with fail
          go_region
          all_goals
            go_wp2_with fail
            go_roundw
            case rel => exact ⟨i + 1, by omega, by go_num, HH'.out, HB'.out.drew⟩
            case measure => simp [intOf]; omega
        · clear hh hb
          go_wp2_with fail
          go_ret
          exact ⟨rfl, by rw [hN]; exact HB'.out⟩
end Go.Proofs.YtccndnckceagfaaDoorR
