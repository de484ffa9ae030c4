/-
  Contracts of the document's own functions, further: blocks, first, fits.
-/
import Derived.Test.YtolhldbjfbkpiaaDoorRRef2
namespace Go.Proofs.YtolhldbjfbkpiaaDoorR
open Go.RowKit

theorem at_ex (s : ByteArray) (i : Int) (w : World) (hs : s.size ≤ maxLen) (h0 : 0 ≤ i) (hi : 4 * i + 4 ≤ s.size) :
    Calls Tryd.prog 30 #[.string s, .int .i64 i] w fun e w' => ∃ x, e = .returned (.string x) ∧ Sp.InsAt (Sp.B s) i.toNat x ∧ w = w' := by
  refine (at_any s i w hs h0 hi).mono ?_
  rintro e w' ⟨rfl, rfl⟩
  exact ⟨_, rfl, Sp.insAt_ext s i.toNat (by omega), rfl⟩

set_option maxHeartbeats 1000000 in
theorem blocks_any (s : ByteArray) (w : World) (hs : s.size ≤ maxLen) :
    Calls Tryd.prog 60 #[.string s] w fun e w' => e = .returned (.int .i64 (Sp.blocksTo (Sp.B s) (s.size / 4))) ∧ w = w' := by
  have hs' := hs
  unfold maxLen at hs
  go_enter Tryd.func60, Tryd.ntmps60
  go_wp2
  go_loop [3, 4] (fun n i => ∃ k : Nat, k ≤ s.size / 4 ∧ i = .int .i64 k ∧ n = .int .i64 (Sp.blocksTo (Sp.B s) k)) (fun _ i => s.size / 4 - (intOf i).toNat)
  case atStart => exact ⟨0, Nat.zero_le _, rfl, rfl⟩
  case round =>
    obtain ⟨k, hk, rfl, rfl⟩ := hrel
    have hb := Sp.blocksTo_le (Sp.B s) k
    by_cases hlt : k < s.size / 4
    · by_cases he : Sp.endB (Sp.B s (4 * k)) = true
      · have HE : Hid (Sp.blocksTo (Sp.B s) (k + 1) = Sp.blocksTo (Sp.B s) k + 1) := Sp.blocksTo_yes _ _ he
        go_wp2_with (first | (go_at_call 28; refine (count_any _ _ hs').mono ?_; rintro e w' ⟨rfl, rfl⟩) | (go_at_call 30; refine (at_any _ _ _ hs' (by omega) (by omega)).mono ?_; rintro e w' ⟨rfl, rfl⟩; simp only [Int.toNat_natCast]) | (go_at_call 61; refine (ends_any _ _ (Sp.size_ext _ _ (by omega))).mono ?_; rintro e w' ⟨rfl, rfl⟩; rw [Sp.B_ext0 _ _ (by omega)]))
        go_round
        case rel => exact ⟨k + 1, by omega, by go_num, by rw [HE.out]; go_num⟩
        case measure => simp [intOf]; omega
      · have he' : Sp.endB (Sp.B s (4 * k)) = false := by simpa using he
        clear he
        have HE : Hid (Sp.blocksTo (Sp.B s) (k + 1) = Sp.blocksTo (Sp.B s) k) := Sp.blocksTo_no _ _ he'
        go_wp2_with (first | (go_at_call 28; refine (count_any _ _ hs').mono ?_; rintro e w' ⟨rfl, rfl⟩) | (go_at_call 30; refine (at_any _ _ _ hs' (by omega) (by omega)).mono ?_; rintro e w' ⟨rfl, rfl⟩; simp only [Int.toNat_natCast]) | (go_at_call 61; refine (ends_any _ _ (Sp.size_ext _ _ (by omega))).mono ?_; rintro e w' ⟨rfl, rfl⟩; rw [Sp.B_ext0 _ _ (by omega)]))
        go_round
        case rel => exact ⟨k + 1, by omega, by go_num, by rw [HE.out]⟩
        case measure => simp [intOf]; omega
    · have HK : Hid (k = s.size / 4) := (by omega : k = s.size / 4)
      go_wp2_with (go_at_call 28; refine (count_any _ _ hs').mono ?_; rintro e w' ⟨rfl, rfl⟩)
      go_ret
      exact ⟨ret_int (by rw [HK.out]), rfl⟩

set_option maxHeartbeats 1000000 in
theorem first_any (s : ByteArray) (k : Int) (w : World) (hs : s.size ≤ maxLen) (h0 : 0 ≤ k) (hk : k ≤ Sp.blocksTo (Sp.B s) (s.size / 4)) :
    Calls Tryd.prog 74 #[.string s, .int .i64 k] w fun e w' => e = .returned (.int .i64 (Sp.fst (Sp.B s) (s.size / 4) k.toNat)) ∧ w = w' := by
  obtain ⟨m, rfl⟩ := Int.eq_ofNat_of_zero_le h0
  rw [Int.toNat_natCast]
  obtain ⟨f1, f2, f3⟩ := Sp.fst_spec (Sp.B s) (s.size / 4) m (by omega)
  generalize Sp.fst (Sp.B s) (s.size / 4) m = q at *
  have F2 : Hid (Sp.blocksTo (Sp.B s) q = m) := f2
  have F3 : Hid (∀ j, j < q → Sp.blocksTo (Sp.B s) j < m) := f3
  clear f2 f3
  have hs' := hs
  unfold maxLen at hs
  have hbl := Sp.blocksTo_le (Sp.B s) (s.size / 4)
  go_enter Tryd.func74, Tryd.ntmps74
  go_wp2
  go_loop [1, 5] (fun n i => ∃ j : Nat, j ≤ q ∧ i = .int .i64 j ∧ n = .int .i64 ((m : Int) - Sp.blocksTo (Sp.B s) j)) (fun _ i => q - (intOf i).toNat)
  case atStart => exact ⟨0, Nat.zero_le _, rfl, by simp [Sp.blocksTo]⟩
  case round =>
    obtain ⟨j, hj, rfl, rfl⟩ := hrel
    by_cases hlt : j < q
    · have hb := F3.out j hlt
      by_cases he : Sp.endB (Sp.B s (4 * j)) = true
      · have HE : Hid (Sp.blocksTo (Sp.B s) (j + 1) = Sp.blocksTo (Sp.B s) j + 1) := Sp.blocksTo_yes _ _ he
        go_wp2_with (first | (go_at_call 30; refine (at_any _ _ _ hs' (by omega) (by omega)).mono ?_; rintro e w' ⟨rfl, rfl⟩; simp only [Int.toNat_natCast]) | (go_at_call 61; refine (ends_any _ _ (Sp.size_ext _ _ (by omega))).mono ?_; rintro e w' ⟨rfl, rfl⟩; rw [Sp.B_ext0 _ _ (by omega)]))
        go_round
        case rel => exact ⟨j + 1, by omega, by go_num, by rw [HE.out]; go_num⟩
        case measure => simp [intOf]; omega
      · have he' : Sp.endB (Sp.B s (4 * j)) = false := by simpa using he
        clear he
        have HE : Hid (Sp.blocksTo (Sp.B s) (j + 1) = Sp.blocksTo (Sp.B s) j) := Sp.blocksTo_no _ _ he'
        go_wp2_with (first | (go_at_call 30; refine (at_any _ _ _ hs' (by omega) (by omega)).mono ?_; rintro e w' ⟨rfl, rfl⟩; simp only [Int.toNat_natCast]) | (go_at_call 61; refine (ends_any _ _ (Sp.size_ext _ _ (by omega))).mono ?_; rintro e w' ⟨rfl, rfl⟩; rw [Sp.B_ext0 _ _ (by omega)]))
        go_round
        case rel => exact ⟨j + 1, by omega, by go_num, by rw [HE.out]⟩
        case measure => simp [intOf]; omega
    · have HK : Hid (j = q) := (by omega : j = q)
      have hle : (m : Int) ≤ Sp.blocksTo (Sp.B s) j := by rw [HK.out, F2.out]; omega
      go_wp2
      go_ret
      exact ⟨ret_int (by rw [HK.out]), rfl⟩

set_option maxHeartbeats 2000000 in
theorem fits_any (c v regs n : Int) (w : World) (h0 : 0 ≤ c) (h1 : c ≤ 255) :
    Calls Tryd.prog 63 #[.int .u8 c, .int .u8 v, .int .i64 regs, .int .i64 n] w fun e w' => e = .returned (.bool (Sp.fitB c v regs n)) ∧ w = w' := by
  by_cases hd : 48 ≤ c ∧ c ≤ 57
  · obtain ⟨d1, d2⟩ := hd
    have hd : Sp.digB c = true := by simp [Sp.digB, d1, d2]
    go_enter Tryd.func63, Tryd.ntmps63
    go_wp2_with (first | (go_at_call 81; refine (digit_any _ _).mono ?_; rintro e w' ⟨rfl, rfl⟩) | (go_at_call 82; refine (letter_any _ _).mono ?_; rintro e w' ⟨rfl, rfl⟩))
    all_goals
      go_ret
      refine ⟨ret_bool ?_, rfl⟩
      simp_all [Sp.fitB, Sp.regB]
  · have hd' : Sp.digB c = false := by simp [Sp.digB]; omega
    clear hd
    go_enter Tryd.func63, Tryd.ntmps63
    go_wp2_with (first | (go_at_call 81; refine (digit_any _ _).mono ?_; rintro e w' ⟨rfl, rfl⟩) | (go_at_call 82; refine (letter_any _ _).mono ?_; rintro e w' ⟨rfl, rfl⟩))
    all_goals
      go_ret
      refine ⟨ret_bool ?_, rfl⟩
      simp_all [Sp.fitB, Sp.regB]
end Go.Proofs.YtolhldbjfbkpiaaDoorR
