/-
  Contracts of the document's own small functions: what each returns.
  Contracts of the document's own functions, further: shapes, what is read, what is written, what shows, blocks.
  Contracts of the document's own functions, further: blocks, first, fits.
-/
import Derived.Test.YtccndnckceagfaaDoorRRows
import Derived.Test.YtccndnckceagfaaDoorRSpec
import Derived.WalkKit
import Derived.WalkSpells
import Derived.WalkLawsBesides
import Derived.Deep.QuietTactic
import Derived.BigQuiet
namespace Go.Proofs.YtccndnckceagfaaDoorR
open Go.RowKit

theorem quiet_eq {P : Program} {f : FuncId} {args : Array Value} {w : World} {n : Nat} {v : Value}
    (h : Calls P f args (w.drewN n) fun e w' => e = .returned v ∧ w.drewN n = w') : Calls P f args (w.drewN n) fun e w'' => e = .returned v ∧ ∃ m, w'' = w.drewN m :=
  h.mono fun _ _ ⟨he, hm⟩ => ⟨he, n, hm.symm⟩
theorem quiet_eq2 {P : Program} {f : FuncId} {args : Array Value} {w : World} {a n : Nat} {v : Value}
    (h : Calls P f args (w.drewN (a + n)) fun e w' => e = .returned v ∧ w.drewN (a + n) = w') : Calls P f args (w.drewN (a + n)) fun e w'' => e = .returned v ∧ ∃ m, w'' = w.drewN (a + m) :=
  h.mono fun _ _ ⟨he, hm⟩ => ⟨he, n, hm.symm⟩
theorem ret_bool {a b : Bool} (h : a = b) : Ending.returned (.bool a) = .returned (.bool b) := by rw [h]
theorem ret_int {k : IntKind} {a b : Int} (h : a = b) : Ending.returned (.int k a) = .returned (.int k b) := by rw [h]
theorem ret_str {a b : ByteArray} (h : a = b) : Ending.returned (.string a) = .returned (.string b) := by rw [h]

set_option maxHeartbeats 400000 in
theorem lower_any (c : Int) (w : World) :
    Calls Tryd.prog 62 #[.int .u8 c] w fun e w' => e = .returned (.bool (Sp.lowB c)) ∧ w = w' := by
  by_cases h1 : 97 ≤ c <;> by_cases h2 : c ≤ 122
  all_goals
    go_enter Tryd.func62, Tryd.ntmps62
    go_wp2
    go_ret
    exact ⟨by simp [Sp.lowB, h1, h2], rfl⟩

set_option maxHeartbeats 400000 in
theorem upper_any (c : Int) (w : World) :
    Calls Tryd.prog 63 #[.int .u8 c] w fun e w' => e = .returned (.bool (Sp.uppB c)) ∧ w = w' := by
  by_cases h1 : 65 ≤ c <;> by_cases h2 : c ≤ 90
  all_goals
    go_enter Tryd.func63, Tryd.ntmps63
    go_wp2
    go_ret
    exact ⟨by simp [Sp.uppB, h1, h2], rfl⟩

set_option maxHeartbeats 400000 in
theorem digit_any (c : Int) (w : World) :
    Calls Tryd.prog 102 #[.int .u8 c] w fun e w' => e = .returned (.bool (Sp.digB c)) ∧ w = w' := by
  by_cases h1 : 48 ≤ c <;> by_cases h2 : c ≤ 57
  all_goals
    go_enter Tryd.func102, Tryd.ntmps102
    go_wp2
    go_ret
    exact ⟨by simp [Sp.digB, h1, h2], rfl⟩

set_option maxHeartbeats 400000 in
theorem letter_any (c : Int) (w : World) :
    Calls Tryd.prog 103 #[.int .u8 c] w fun e w' => e = .returned (.bool (Sp.letB c)) ∧ w = w' := by
  by_cases h1 : Sp.lowB c = true
  all_goals
    go_enter Tryd.func103, Tryd.ntmps103
    go_wp2_with (first | (go_at_call 62; refine (lower_any _ _).mono ?_; rintro e w' ⟨rfl, rfl⟩) | (go_at_call 63; refine (upper_any _ _).mono ?_; rintro e w' ⟨rfl, rfl⟩))
    go_ret
    exact ⟨by simp [Sp.letB, h1], rfl⟩

set_option maxHeartbeats 400000 in
theorem at_any (s : ByteArray) (i : Int) (w : World) (hs : s.size ≤ maxLen) (h0 : 0 ≤ i) (hi : 4 * i + 4 ≤ s.size) :
    Calls Tryd.prog 35 #[.string s, .int .i64 i] w fun e w' => e = .returned (.string (s.extract (4 * i.toNat) (4 * i.toNat + 4))) ∧ w = w' := by
  obtain ⟨k, rfl⟩ := Int.eq_ofNat_of_zero_le h0
  rw [Int.toNat_natCast]
  unfold maxLen at hs
  have hi' : 4 * k + 4 ≤ s.size := by omega
  go_enter Tryd.func35, Tryd.ntmps35
  go_wp2
  go_ret
  exact ⟨rfl, rfl⟩

set_option maxHeartbeats 400000 in
theorem count_any (s : ByteArray) (w : World) (hs : s.size ≤ maxLen) :
    Calls Tryd.prog 33 #[.string s] w fun e w' => e = .returned (.int .i64 (s.size / 4 : Nat)) ∧ w = w' := by
  unfold maxLen at hs
  go_enter Tryd.func33, Tryd.ntmps33
  go_wp2
  go_ret
  exact ⟨ret_int (by omega), rfl⟩

set_option maxHeartbeats 400000 in
theorem ends_any (x : ByteArray) (w : World) (hs : x.size = 4) :
    Calls Tryd.prog 74 #[.string x] w fun e w' => e = .returned (.bool (Sp.endB (Sp.B x 0))) ∧ w = w' := by
  have hx := Sp.B_get x 0 (by omega)
  generalize Sp.B x 0 = c at *
  by_cases h1 : c = 106 <;> by_cases h2 : c = 63
  · omega
  all_goals
    go_enter Tryd.func74, Tryd.ntmps74
    go_wp2
    go_ret
    exact ⟨ret_bool (by simp [Sp.endB, h1, h2]), rfl⟩

set_option maxHeartbeats 400000 in
theorem among_any (c : Int) (s : ByteArray) (w : World) (hs : s.size ≤ maxLen) :
    Calls Tryd.prog 93 #[.int .u8 c, .string s] w fun e w' => e = .returned (.bool (Sp.amgB c s)) ∧ w = w' := by
  unfold maxLen at hs
  go_enter Tryd.func93, Tryd.ntmps93
  go_wp2
  go_loop [5] (fun i => ∃ k : Nat, k ≤ s.size ∧ i = .int .i64 k ∧ ((s.data.toList.take k).any fun b => (b.toNat : Int) == c) = false) (fun i => s.size - (intOf i).toNat)
  case atStart => exact ⟨0, Nat.zero_le _, rfl, by simp⟩
  case round =>
    obtain ⟨k, hk, rfl, hno⟩ := hrel
    by_cases hlt : k < s.size
    · have hts : s.data.toList.take (k + 1) = s.data.toList.take k ++ [s[k]] := by
        rw [List.take_succ_eq_append_getElem (by simpa using hlt)]; rfl
      have HN : Hid (((s.data.toList.take k).any fun b => (b.toNat : Int) == c) = false) := hno
      have HT : Hid (s.data.toList.take (k + 1) = s.data.toList.take k ++ [s[k]]) := hts
      clear hno hts
      by_cases he : ((s[k].toNat : Int) == c) = true
      · have HE : Hid (((s[k].toNat : Int) == c) = true) := he
        go_wp2
        go_ret
        refine ⟨ret_bool ?_, rfl⟩
        unfold Sp.amgB
        rw [eq_comm, List.any_eq_true]
        exact ⟨s[k], by rw [← List.take_append_drop (k + 1) s.data.toList, HT.out]; simp, HE.out⟩
      · have he' : ((s[k].toNat : Int) == c) = false := by simpa using he
        have HE : Hid (((s[k].toNat : Int) == c) = false) := he'
        clear he
        go_wp2
        go_round
        case rel => exact ⟨k + 1, by omega, by go_num, by rw [HT.out, List.any_append, HN.out]; simpa using HE.out⟩
        case measure => simp [intOf]; omega
    · have HN : Hid (((s.data.toList.take k).any fun b => (b.toNat : Int) == c) = false) := hno
      clear hno
      go_wp2
      go_ret
      refine ⟨ret_bool ?_, rfl⟩
      unfold Sp.amgB
      rw [eq_comm, ← HN.out, List.take_of_length_le (by simp; omega)]
end Go.Proofs.YtccndnckceagfaaDoorR

namespace Go.Proofs.YtccndnckceagfaaDoorR
open Go.RowKit

set_option maxHeartbeats 1000000 in
theorem shape_any (c : Int) (m : Bool) (w : World) :
    Calls Tryd.prog 75 #[.int .u8 c, .bool m] w fun e w' => e = .returned (.string (Sp.shp c m)) ∧ w = w' := by
  cases m
  all_goals
    go_enter Tryd.func75, Tryd.ntmps75
    go_wp2
    all_goals
      go_ret
      refine ⟨ret_str ?_, rfl⟩
      simp_all [Sp.shp, Sp.arithB]

set_option maxHeartbeats 1000000 in
theorem writes_any (x : ByteArray) (v : Int) (w : World) (hs : x.size = 4) :
    Calls Tryd.prog 90 #[.string x, .int .u8 v] w fun e w' => e = .returned (.bool (Sp.wrB (Sp.B x 0) (Sp.B x 1) v)) ∧ w = w' := by
  have hx := Sp.B_get x 0 (by omega)
  have hx1 := Sp.B_get x 1 (by omega)
  generalize Sp.B x 0 = c at *
  generalize Sp.B x 1 = d at *
  have HA : Hid (Sp.amgB c ⟨#[43, 45, 42, 38, 94, 35, 61, 108, 76]⟩ = (Sp.arithB c || c == 35 || c == 61 || c == 108 || c == 76)) := Sp.amg_ops c
  generalize hA : Sp.amgB c ⟨#[43, 45, 42, 38, 94, 35, 61, 108, 76]⟩ = a at HA
  have HB : Hid (Sp.amgB c ⟨#[43, 45, 42, 38, 94, 35, 61, 108, 76]⟩ = a) := hA
  clear hA
  cases a
  all_goals
    go_enter Tryd.func90, Tryd.ntmps90
    go_wp2_with (go_at_call 93; refine (among_any _ _ _ (by decide)).mono ?_; rintro e w' ⟨rfl, rfl⟩; rw [HB.out])
    go_ret
    exact ⟨ret_bool (by rw [Sp.wrB, ← HA.out]; simp), rfl⟩

set_option maxHeartbeats 1000000 in
theorem reads_any (x : ByteArray) (v : Int) (w : World) (hs : x.size = 4) :
    Calls Tryd.prog 91 #[.string x, .int .u8 v] w fun e w' => e = .returned (.bool (Sp.rdB (Sp.B x 0) (Sp.B x 1) (Sp.B x 2) (Sp.B x 3) v)) ∧ w = w' := by
  have hx := Sp.B_get x 0 (by omega)
  have hx1 := Sp.B_get x 1 (by omega)
  have hx2 := Sp.B_get x 2 (by omega)
  have hx3 := Sp.B_get x 3 (by omega)
  generalize Sp.B x 0 = c at *
  generalize Sp.B x 1 = c1 at *
  generalize Sp.B x 2 = c2 at *
  generalize Sp.B x 3 = c3 at *
  go_enter Tryd.func91, Tryd.ntmps91
  go_wp2
  all_goals
    go_ret
    refine ⟨ret_bool ?_, rfl⟩
    simp_all [Sp.rdB, Sp.arithB]

set_option maxHeartbeats 1000000 in
theorem shows_any (x : ByteArray) (w : World) (hs : x.size = 4) :
    Calls Tryd.prog 34 #[.string x] w fun e w' => e = .returned (.bool (Sp.shwB (Sp.B x 0) (Sp.B x 1) (Sp.B x 2) (Sp.B x 3))) ∧ w = w' := by
  have hx := Sp.B_get x 0 (by omega)
  have hx1 := Sp.B_get x 1 (by omega)
  have hx2 := Sp.B_get x 2 (by omega)
  have hx3 := Sp.B_get x 3 (by omega)
  generalize Sp.B x 0 = c at *
  generalize Sp.B x 1 = c1 at *
  generalize Sp.B x 2 = c2 at *
  generalize Sp.B x 3 = c3 at *
  go_enter Tryd.func34, Tryd.ntmps34
  go_wp2_with (first | (go_at_call 62; refine (lower_any _ _).mono ?_; rintro e w' ⟨rfl, rfl⟩) | (go_at_call 63; refine (upper_any _ _).mono ?_; rintro e w' ⟨rfl, rfl⟩))
  all_goals
    go_ret
    refine ⟨ret_bool ?_, rfl⟩
    simp_all [Sp.shwB, Sp.arithB]
end Go.Proofs.YtccndnckceagfaaDoorR

namespace Go.Proofs.YtccndnckceagfaaDoorR
open Go.RowKit

theorem at_ex (s : ByteArray) (i : Int) (w : World) (hs : s.size ≤ maxLen) (h0 : 0 ≤ i) (hi : 4 * i + 4 ≤ s.size) :
    Calls Tryd.prog 35 #[.string s, .int .i64 i] w fun e w' => ∃ x, e = .returned (.string x) ∧ Sp.InsAt (Sp.B s) i.toNat x ∧ w = w' := by
  refine (at_any s i w hs h0 hi).mono ?_
  rintro e w' ⟨rfl, rfl⟩
  exact ⟨_, rfl, Sp.insAt_ext s i.toNat (by omega), rfl⟩

set_option maxHeartbeats 1000000 in
theorem blocks_any (s : ByteArray) (w : World) (hs : s.size ≤ maxLen) :
    Calls Tryd.prog 73 #[.string s] w fun e w' => e = .returned (.int .i64 (Sp.blocksTo (Sp.B s) (s.size / 4))) ∧ w = w' := by
  have hs' := hs
  unfold maxLen at hs
  go_enter Tryd.func73, Tryd.ntmps73
  go_wp2
  go_loop [3, 4] (fun n i => ∃ k : Nat, k ≤ s.size / 4 ∧ i = .int .i64 k ∧ n = .int .i64 (Sp.blocksTo (Sp.B s) k)) (fun _ i => s.size / 4 - (intOf i).toNat)
  case atStart => exact ⟨0, Nat.zero_le _, rfl, rfl⟩
  case round =>
    obtain ⟨k, hk, rfl, rfl⟩ := hrel
    have hb := Sp.blocksTo_le (Sp.B s) k
    by_cases hlt : k < s.size / 4
    · by_cases he : Sp.endB (Sp.B s (4 * k)) = true
      · have HE : Hid (Sp.blocksTo (Sp.B s) (k + 1) = Sp.blocksTo (Sp.B s) k + 1) := Sp.blocksTo_yes _ _ he
        go_wp2_with (first | (go_at_call 33; refine (count_any _ _ hs').mono ?_; rintro e w' ⟨rfl, rfl⟩) | (go_at_call 35; refine (at_any _ _ _ hs' (by omega) (by omega)).mono ?_; rintro e w' ⟨rfl, rfl⟩; simp only [Int.toNat_natCast]) | (go_at_call 74; refine (ends_any _ _ (Sp.size_ext _ _ (by omega))).mono ?_; rintro e w' ⟨rfl, rfl⟩; rw [Sp.B_ext0 _ _ (by omega)]))
        go_round
        case rel => exact ⟨k + 1, by omega, by go_num, by rw [HE.out]; go_num⟩
        case measure => simp [intOf]; omega
      · have he' : Sp.endB (Sp.B s (4 * k)) = false := by simpa using he
        clear he
        have HE : Hid (Sp.blocksTo (Sp.B s) (k + 1) = Sp.blocksTo (Sp.B s) k) := Sp.blocksTo_no _ _ he'
        go_wp2_with (first | (go_at_call 33; refine (count_any _ _ hs').mono ?_; rintro e w' ⟨rfl, rfl⟩) | (go_at_call 35; refine (at_any _ _ _ hs' (by omega) (by omega)).mono ?_; rintro e w' ⟨rfl, rfl⟩; simp only [Int.toNat_natCast]) | (go_at_call 74; refine (ends_any _ _ (Sp.size_ext _ _ (by omega))).mono ?_; rintro e w' ⟨rfl, rfl⟩; rw [Sp.B_ext0 _ _ (by omega)]))
        go_round
        case rel => exact ⟨k + 1, by omega, by go_num, by rw [HE.out]⟩
        case measure => simp [intOf]; omega
    · have HK : Hid (k = s.size / 4) := (by omega : k = s.size / 4)
      go_wp2_with (go_at_call 33; refine (count_any _ _ hs').mono ?_; rintro e w' ⟨rfl, rfl⟩)
      go_ret
      exact ⟨ret_int (by rw [HK.out]), rfl⟩

set_option maxHeartbeats 1000000 in
theorem first_any (s : ByteArray) (k : Int) (w : World) (hs : s.size ≤ maxLen) (h0 : 0 ≤ k) (hk : k ≤ Sp.blocksTo (Sp.B s) (s.size / 4)) :
    Calls Tryd.prog 95 #[.string s, .int .i64 k] w fun e w' => e = .returned (.int .i64 (Sp.fst (Sp.B s) (s.size / 4) k.toNat)) ∧ w = w' := by
  obtain ⟨m, rfl⟩ := Int.eq_ofNat_of_zero_le h0
  rw [Int.toNat_natCast]
  obtain ⟨f1, f2, f3⟩ := Sp.fst_spec (Sp.B s) (s.size / 4) m (by omega)
  generalize Sp.fst (Sp.B s) (s.size / 4) m = q at *
  have F2 : Hid (Sp.blocksTo (Sp.B s) q = m) := f2
  have F3 : Hid (∀ j, j < q → Sp.blocksTo (Sp.B s) j < m) := f3
  clear f2 f3
  have hs' := hs
  unfold maxLen at hs
  have hbl := Sp.blocksTo_le (Sp.B s) (s.size / 4)
  go_enter Tryd.func95, Tryd.ntmps95
  go_wp2
  go_loop [1, 5] (fun n i => ∃ j : Nat, j ≤ q ∧ i = .int .i64 j ∧ n = .int .i64 ((m : Int) - Sp.blocksTo (Sp.B s) j)) (fun _ i => q - (intOf i).toNat)
  case atStart => exact ⟨0, Nat.zero_le _, rfl, by simp [Sp.blocksTo]⟩
  case round =>
    obtain ⟨j, hj, rfl, rfl⟩ := hrel
    by_cases hlt : j < q
    · have hb := F3.out j hlt
      by_cases he : Sp.endB (Sp.B s (4 * j)) = true
      · have HE : Hid (Sp.blocksTo (Sp.B s) (j + 1) = Sp.blocksTo (Sp.B s) j + 1) := Sp.blocksTo_yes _ _ he
        go_wp2_with (first | (go_at_call 35; refine (at_any _ _ _ hs' (by omega) (by omega)).mono ?_; rintro e w' ⟨rfl, rfl⟩; simp only [Int.toNat_natCast]) | (go_at_call 74; refine (ends_any _ _ (Sp.size_ext _ _ (by omega))).mono ?_; rintro e w' ⟨rfl, rfl⟩; rw [Sp.B_ext0 _ _ (by omega)]))
        go_round
        case rel => exact ⟨j + 1, by omega, by go_num, by rw [HE.out]; go_num⟩
        case measure => simp [intOf]; omega
      · have he' : Sp.endB (Sp.B s (4 * j)) = false := by simpa using he
        clear he
        have HE : Hid (Sp.blocksTo (Sp.B s) (j + 1) = Sp.blocksTo (Sp.B s) j) := Sp.blocksTo_no _ _ he'
        go_wp2_with (first | (go_at_call 35; refine (at_any _ _ _ hs' (by omega) (by omega)).mono ?_; rintro e w' ⟨rfl, rfl⟩; simp only [Int.toNat_natCast]) | (go_at_call 74; refine (ends_any _ _ (Sp.size_ext _ _ (by omega))).mono ?_; rintro e w' ⟨rfl, rfl⟩; rw [Sp.B_ext0 _ _ (by omega)]))
        go_round
        case rel => exact ⟨j + 1, by omega, by go_num, by rw [HE.out]⟩
        case measure => simp [intOf]; omega
    · have HK : Hid (j = q) := (by omega : j = q)
      have hle : (m : Int) ≤ Sp.blocksTo (Sp.B s) j := by rw [HK.out, F2.out]; omega
      go_wp2
      go_ret
      exact ⟨ret_int (by rw [HK.out]), rfl⟩

set_option maxHeartbeats 2000000 in
theorem fits_any (c v regs n : Int) (w : World) (h0 : 0 ≤ c) (h1 : c ≤ 255) :
    Calls Tryd.prog 76 #[.int .u8 c, .int .u8 v, .int .i64 regs, .int .i64 n] w fun e w' => e = .returned (.bool (Sp.fitB c v regs n)) ∧ w = w' := by
  by_cases hd : 48 ≤ c ∧ c ≤ 57
  · obtain ⟨d1, d2⟩ := hd
    have hd : Sp.digB c = true := by simp [Sp.digB, d1, d2]
    go_enter Tryd.func76, Tryd.ntmps76
    go_wp2_with (first | (go_at_call 102; refine (digit_any _ _).mono ?_; rintro e w' ⟨rfl, rfl⟩) | (go_at_call 103; refine (letter_any _ _).mono ?_; rintro e w' ⟨rfl, rfl⟩))
    all_goals
      go_ret
      refine ⟨ret_bool ?_, rfl⟩
      simp_all [Sp.fitB, Sp.regB]
  · have hd' : Sp.digB c = false := by simp [Sp.digB]; omega
    clear hd
    go_enter Tryd.func76, Tryd.ntmps76
    go_wp2_with (first | (go_at_call 102; refine (digit_any _ _).mono ?_; rintro e w' ⟨rfl, rfl⟩) | (go_at_call 103; refine (letter_any _ _).mono ?_; rintro e w' ⟨rfl, rfl⟩))
    all_goals
      go_ret
      refine ⟨ret_bool ?_, rfl⟩
      simp_all [Sp.fitB, Sp.regB]
end Go.Proofs.YtccndnckceagfaaDoorR
