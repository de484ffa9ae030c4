/-
  The document's own test whether a text is a program.
-/
import Derived.Test.YtolhldbjfbkpiaaDoorRRef3
namespace Go.Proofs.YtolhldbjfbkpiaaDoorR
open Go.RowKit

set_option maxHeartbeats 1000000 in
theorem program_loop (s : ByteArray) (regs : Int) (w : World) (hs : s.size ≤ maxLen) (h4 : s.size % 4 = 0) (h5 : 4 ≤ s.size) (hnb : Sp.blocksTo (Sp.B s) (s.size / 4) ≤ 10) (hend : Sp.endB (Sp.B s (4 * (s.size / 4 - 1))) = true) :
    Calls Tryd.prog 40 #[.string s, .int .i64 regs] w fun e w' => e = .returned (.bool (Sp.progB (Sp.B s) s.size regs)) ∧ ∃ n, w' = w.drewN n := by
  have hs' := hs
  unfold maxLen at hs
  have h40 : ((s.size : Int) == 0) = false := beq_eq_false_iff_ne.2 (by omega)
  go_enter Tryd.func40, Tryd.ntmps40
  go_wp2_with (first | (go_at_call 60; refine (blocks_any _ _ hs').mono ?_; rintro e w' ⟨rfl, rfl⟩) | (go_at_call 28; refine (count_any _ _ hs').mono ?_; rintro e w' ⟨rfl, rfl⟩) | (go_at_call 30; refine (at_any _ _ _ hs' (by omega) (by omega)).mono ?_; rintro e w' ⟨rfl, rfl⟩; rw [show (((s.size : Int) / 4 - 1).toNat) = s.size / 4 - 1 from by omega]) | (go_at_call 61; refine (ends_any _ _ (Sp.size_ext _ _ (by omega))).mono ?_; rintro e w' ⟨rfl, rfl⟩; rw [Sp.B_ext0 _ _ (by omega), hend]))
  go_loopw [6] (fun i wr => ∃ k : Nat, k ≤ s.size / 4 ∧ i = .int .i64 k ∧ (∀ j, j < k → Sp.okIns (Sp.B s) (Sp.blocksTo (Sp.B s) (s.size / 4)) regs j = true) ∧ ∃ n, wr = w.drewN n) (fun i _ => s.size / 4 - (intOf i).toNat)
  case atStart => exact ⟨0, Nat.zero_le _, rfl, fun j hj => by omega, 0, rfl⟩
  case round =>
    obtain ⟨k, hk, rfl, hall, nd, rfl⟩ := hrel
    have HALL : Hid (∀ j, j < k → Sp.okIns (Sp.B s) (Sp.blocksTo (Sp.B s) (s.size / 4)) regs j = true) := hall
    clear hall
    by_cases hlt : k < s.size / 4
    · have hc0 := Sp.B_bd s (4 * k)
      go_wp2_with (first | (go_at_call 28; refine (count_any _ _ hs').mono ?_; rintro e w' ⟨rfl, rfl⟩))
      refine (at_ex _ _ _ hs' (by omega) (by omega)).mono ?_
      rintro e w' ⟨x, rfl, hx, rfl⟩
      rw [Int.toNat_natCast] at hx
      have hxs := hx.size
      have hx0 := hx.get0 (by omega)
      go_wp2_with fail
      refine (shape_any _ _ _).mono ?_
      rintro e w' ⟨rfl, rfl⟩
      have hz := Sp.shp_size (Sp.B s (4 * k)) (decide (0 < regs))
      generalize hsh : Sp.shp (Sp.B s (4 * k)) (decide (0 < regs)) = sh at *
      have HSH : Hid (Sp.shp (Sp.B s (4 * k)) (decide (0 < regs)) = sh) := hsh
      clear hsh
      rcases hz with ⟨hz, hne⟩ | ⟨hz, hne⟩
      · go_wp2_with fail
        go_ret
        refine ⟨ret_bool ?_, nd, rfl⟩
        refine (Sp.progB_no _ _ _ k hlt ?_).symm
        rw [Sp.okIns, HSH.out]
        simp [hz]
      · go_wp2_with fail
        go_loopw [9] (fun i wr => ∃ q : Nat, q ≤ 3 ∧ i = .int .i64 q ∧ (∀ j, j < q → Sp.fitB (Sp.B s (4 * k + j + 1)) (Sp.B sh j) regs (Sp.blocksTo (Sp.B s) (s.size / 4)) = true) ∧ ∃ n, wr = w.drewN n) (fun i _ => 3 - (intOf i).toNat)
        case atStart => exact ⟨0, by omega, rfl, fun j hj => by omega, nd, rfl⟩
        case round =>
          obtain ⟨q, hq, rfl, hall, nq, rfl⟩ := hrel
          have HQ : Hid (∀ j, j < q → Sp.fitB (Sp.B s (4 * k + j + 1)) (Sp.B sh j) regs (Sp.blocksTo (Sp.B s) (s.size / 4)) = true) := hall
          clear hall
          by_cases hq3 : q < 3
          · have hxq := hx.get (q + 1) (by omega)
            have hsq := Sp.B_get sh q (by omega)
            have hbq := Sp.B_bd s (4 * k + (q + 1))
            have hix : ∀ W : World, (Instr.index 9 (.string x) (.int .i64 (IntKind.i64.wrap ((q : Int) + 1)))).run Tryd.prog W = .ok (.int .u8 (Sp.B s (4 * k + (q + 1)))) W := by
              intro W
              rw [run_index_string W 9 x .i64 _ Tryd.underlying9, IntWalk.i64_in _ (by omega), dif_pos (by omega)]
              exact congrArg (fun z => Result.ok (Value.int .u8 z) W) hxq
            by_cases hf : Sp.fitB (Sp.B s (4 * k + (q + 1))) (Sp.B sh q) regs (Sp.blocksTo (Sp.B s) (s.size / 4)) = true
            · go_wp2
              go_quiet ((go_at_call 63; exact quiet_eq2 (fits_any _ _ _ _ _ (by omega) (by omega))))
              go_wp2
              go_roundw
              case rel => exact ⟨q + 1, by omega, by go_num, fun j hj => by
                by_cases e : j = q
                · subst e; exact hf
                · exact HQ.out j (by omega), _, rfl⟩
              case measure => simp [intOf]; omega
            · have hf' : Sp.fitB (Sp.B s (4 * k + (q + 1))) (Sp.B sh q) regs (Sp.blocksTo (Sp.B s) (s.size / 4)) = false := by simpa using hf
              clear hf
              go_wp2
              go_quiet ((go_at_call 63; exact quiet_eq2 (fits_any _ _ _ _ _ (by omega) (by omega))))
              go_wp2
              go_ret
              refine ⟨ret_bool ?_, _, rfl⟩
              refine (Sp.progB_no _ _ _ k hlt ?_).symm
              rw [Sp.okIns, HSH.out]
              rw [Bool.and_eq_false_iff, List.all_eq_false]
              exact Or.inr ⟨q, by simp; omega, by rw [Nat.add_assoc, hf']; simp⟩
          · go_wp2
            go_roundw
            case rel => 
              refine ⟨k + 1, by omega, by go_num, fun j hj => ?_, _, rfl⟩
              by_cases e : j = k
              · subst e
                rw [Sp.okIns, HSH.out, Bool.and_eq_true, List.all_eq_true]
                refine ⟨by simp [hz], fun q' hq' => HQ.out q' ?_⟩
                have := List.mem_range.1 hq'
                omega
              · exact HALL.out j (by omega)
            case measure => simp [intOf]; omega
    · have HK : Hid (k = s.size / 4) := (by omega : k = s.size / 4)
      go_wp2_with (go_at_call 28; refine (count_any _ _ hs').mono ?_; rintro e w' ⟨rfl, rfl⟩)
      go_ret
      exact ⟨ret_bool (Sp.progB_yes _ _ _ h5 h4 hnb hend (fun j hj => HALL.out j (by rw [HK.out]; exact hj))).symm, nd, rfl⟩

set_option maxHeartbeats 1000000 in
theorem program_any (s : ByteArray) (regs : Int) (w : World) (hs : s.size ≤ maxLen) :
    Calls Tryd.prog 40 #[.string s, .int .i64 regs] w fun e w' => e = .returned (.bool (Sp.progB (Sp.B s) s.size regs)) ∧ ∃ n, w' = w.drewN n := by
  by_cases h0 : s.size = 0
  · have h40 : ((s.size : Int) == 0) = true := beq_iff_eq.2 (by omega)
    have hp : Sp.progB (Sp.B s) s.size regs = false := by simp [Sp.progB, h0]
    have HP : Hid (Sp.progB (Sp.B s) s.size regs = false) := hp
    clear hp h0
    go_enter Tryd.func40, Tryd.ntmps40
    go_wp2
    go_ret
    exact ⟨ret_bool HP.out.symm, 0, rfl⟩
  by_cases h4 : s.size % 4 = 0
  · by_cases hnb : Sp.blocksTo (Sp.B s) (s.size / 4) ≤ 10
    · by_cases hend : Sp.endB (Sp.B s (4 * (s.size / 4 - 1))) = true
      · exact program_loop s regs w hs h4 (by omega) hnb hend
      · have hend' : Sp.endB (Sp.B s (4 * (s.size / 4 - 1))) = false := by simpa using hend
        have HP : Hid (Sp.progB (Sp.B s) s.size regs = false) := (by simp [Sp.progB, hend'] : Sp.progB (Sp.B s) s.size regs = false)
        have hs' := hs
        unfold maxLen at hs
        have h40 : ((s.size : Int) == 0) = false := beq_eq_false_iff_ne.2 (by omega)
        clear hend
        go_enter Tryd.func40, Tryd.ntmps40
        go_wp2_with (first | (go_at_call 60; refine (blocks_any _ _ hs').mono ?_; rintro e w' ⟨rfl, rfl⟩) | (go_at_call 28; refine (count_any _ _ hs').mono ?_; rintro e w' ⟨rfl, rfl⟩) | (go_at_call 30; refine (at_any _ _ _ hs' (by omega) (by omega)).mono ?_; rintro e w' ⟨rfl, rfl⟩; rw [show (((s.size : Int) / 4 - 1).toNat) = s.size / 4 - 1 from by omega]) | (go_at_call 61; refine (ends_any _ _ (Sp.size_ext _ _ (by omega))).mono ?_; rintro e w' ⟨rfl, rfl⟩; rw [Sp.B_ext0 _ _ (by omega), hend']))
        go_ret
        exact ⟨ret_bool HP.out.symm, 0, rfl⟩
    · have HP : Hid (Sp.progB (Sp.B s) s.size regs = false) := (by simp [Sp.progB, hnb] : Sp.progB (Sp.B s) s.size regs = false)
      have hs' := hs
      unfold maxLen at hs
      have h40 : ((s.size : Int) == 0) = false := beq_eq_false_iff_ne.2 (by omega)
      have hnb' : (10 : Int) < Sp.blocksTo (Sp.B s) (s.size / 4) := by omega
      clear hnb
      go_enter Tryd.func40, Tryd.ntmps40
      go_wp2_with (first | (go_at_call 60; refine (blocks_any _ _ hs').mono ?_; rintro e w' ⟨rfl, rfl⟩))
      go_ret
      exact ⟨ret_bool HP.out.symm, 0, rfl⟩
  · have HP : Hid (Sp.progB (Sp.B s) s.size regs = false) := (by simp [Sp.progB, h4] : Sp.progB (Sp.B s) s.size regs = false)
    have hs' := hs
    unfold maxLen at hs
    have h40 : ((s.size : Int) == 0) = false := beq_eq_false_iff_ne.2 (by omega)
    go_enter Tryd.func40, Tryd.ntmps40
    go_wp2_with fail
    go_ret
    exact ⟨ret_bool HP.out.symm, 0, rfl⟩
end Go.Proofs.YtolhldbjfbkpiaaDoorR
