/-
  The document's own test whether a text is a program.
  The document's own function next: the slice of the instructions to which one may go on.
-/
import Derived.Test.YtccndnckceagfaaDoorRRef3
import Derived.Deep.OwnRows
import Derived.Deep.RegionWith
namespace Go.Proofs.YtccndnckceagfaaDoorR
open Go.RowKit

set_option maxHeartbeats 1000000 in
theorem program_loop (s : ByteArray) (regs : Int) (w : World) (hs : s.size ≤ maxLen) (h4 : s.size % 4 = 0) (h5 : 4 ≤ s.size) (hnb : Sp.blocksTo (Sp.B s) (s.size / 4) ≤ 10) (hend : Sp.endB (Sp.B s (4 * (s.size / 4 - 1))) = true) :
    Calls Tryd.prog 46 #[.string s, .int .i64 regs] w fun e w' => e = .returned (.bool (Sp.progB (Sp.B s) s.size regs)) ∧ ∃ n, w' = w.drewN n := by
  have hs' := hs
  unfold maxLen at hs
  have h40 : ((s.size : Int) == 0) = false := beq_eq_false_iff_ne.2 (by omega)
  go_enter Tryd.func46, Tryd.ntmps46
  go_wp2_with (first | (go_at_call 73; refine (blocks_any _ _ hs').mono ?_; rintro e w' ⟨rfl, rfl⟩) | (go_at_call 33; refine (count_any _ _ hs').mono ?_; rintro e w' ⟨rfl, rfl⟩) | (go_at_call 35; refine (at_any _ _ _ hs' (by omega) (by omega)).mono ?_; rintro e w' ⟨rfl, rfl⟩; rw [show (((s.size : Int) / 4 - 1).toNat) = s.size / 4 - 1 from by omega]) | (go_at_call 74; refine (ends_any _ _ (Sp.size_ext _ _ (by omega))).mono ?_; rintro e w' ⟨rfl, rfl⟩; rw [Sp.B_ext0 _ _ (by omega), hend]))
  go_loopw [6] (fun i wr => ∃ k : Nat, k ≤ s.size / 4 ∧ i = .int .i64 k ∧ (∀ j, j < k → Sp.okIns (Sp.B s) (Sp.blocksTo (Sp.B s) (s.size / 4)) regs j = true) ∧ ∃ n, wr = w.drewN n) (fun i _ => s.size / 4 - (intOf i).toNat)
  case atStart => exact ⟨0, Nat.zero_le _, rfl, fun j hj => by omega, 0, rfl⟩
  case round =>
    obtain ⟨k, hk, rfl, hall, nd, rfl⟩ := hrel
    have HALL : Hid (∀ j, j < k → Sp.okIns (Sp.B s) (Sp.blocksTo (Sp.B s) (s.size / 4)) regs j = true) := hall
    clear hall
    by_cases hlt : k < s.size / 4
    · have hc0 := Sp.B_bd s (4 * k)
      go_wp2_with (first | (go_at_call 33; refine (count_any _ _ hs').mono ?_; rintro e w' ⟨rfl, rfl⟩))
      refine (at_ex _ _ _ hs' (by omega) (by omega)).mono ?_
      rintro e w' ⟨x, rfl, hx, rfl⟩
      rw [Int.toNat_natCast] at hx
      have hxs := hx.size
      have hx0 := hx.get0 (by omega)
      go_wp2_with fail
      refine (shape_any _ _ _).mono ?_
      rintro e w' ⟨rfl, rfl⟩
      have hz := Sp.shp_size (Sp.B s (4 * k)) (decide (0 < regs))
      generalize hsh : Sp.shp (Sp.B s (4 * k)) (decide (0 < regs)) = sh at *
      have HSH : Hid (Sp.shp (Sp.B s (4 * k)) (decide (0 < regs)) = sh) := hsh
      clear hsh
      rcases hz with ⟨hz, hne⟩ | ⟨hz, hne⟩
      · go_wp2_with fail
        go_ret
        refine ⟨ret_bool ?_, nd, rfl⟩
        refine (Sp.progB_no _ _ _ k hlt ?_).symm
        rw [Sp.okIns, HSH.out]
        simp [hz]
      · go_wp2_with fail
        go_loopw [9] (fun i wr => ∃ q : Nat, q ≤ 3 ∧ i = .int .i64 q ∧ (∀ j, j < q → Sp.fitB (Sp.B s (4 * k + j + 1)) (Sp.B sh j) regs (Sp.blocksTo (Sp.B s) (s.size / 4)) = true) ∧ ∃ n, wr = w.drewN n) (fun i _ => 3 - (intOf i).toNat)
        case atStart => exact ⟨0, by omega, rfl, fun j hj => by omega, nd, rfl⟩
        case round =>
          obtain ⟨q, hq, rfl, hall, nq, rfl⟩ := hrel
          have HQ : Hid (∀ j, j < q → Sp.fitB (Sp.B s (4 * k + j + 1)) (Sp.B sh j) regs (Sp.blocksTo (Sp.B s) (s.size / 4)) = true) := hall
          clear hall
          by_cases hq3 : q < 3
          · have hxq := hx.get (q + 1) (by omega)
            have hsq := Sp.B_get sh q (by omega)
            have hbq := Sp.B_bd s (4 * k + (q + 1))
            have hix : ∀ W : World, (Instr.index 9 (.string x) (.int .i64 (IntKind.i64.wrap ((q : Int) + 1)))).run Tryd.prog W = .ok (.int .u8 (Sp.B s (4 * k + (q + 1)))) W := by
              intro W
              rw [run_index_string W 9 x .i64 _ Tryd.underlying9, IntWalk.i64_in _ (by omega), dif_pos (by omega)]
              exact congrArg (fun z => Result.ok (Value.int .u8 z) W) hxq
            by_cases hf : Sp.fitB (Sp.B s (4 * k + (q + 1))) (Sp.B sh q) regs (Sp.blocksTo (Sp.B s) (s.size / 4)) = true
            · go_wp2
              go_quiet ((go_at_call 76; exact quiet_eq2 (fits_any _ _ _ _ _ (by omega) (by omega))))
              go_wp2
              go_roundw
              case rel => exact ⟨q + 1, by omega, by go_num, fun j hj => by
                by_cases e : j = q
                · subst e; exact hf
                · exact HQ.out j (by omega), _, rfl⟩
              case measure => simp [intOf]; omega
            · have hf' : Sp.fitB (Sp.B s (4 * k + (q + 1))) (Sp.B sh q) regs (Sp.blocksTo (Sp.B s) (s.size / 4)) = false := by simpa using hf
              clear hf
              go_wp2
              go_quiet ((go_at_call 76; exact quiet_eq2 (fits_any _ _ _ _ _ (by omega) (by omega))))
              go_wp2
              go_ret
              refine ⟨ret_bool ?_, _, rfl⟩
              refine (Sp.progB_no _ _ _ k hlt ?_).symm
              rw [Sp.okIns, HSH.out]
              rw [Bool.and_eq_false_iff, List.all_eq_false]
              exact Or.inr ⟨q, by simp; omega, by rw [Nat.add_assoc, hf']; simp⟩
          · go_wp2
            go_roundw
            case rel => 
              refine ⟨k + 1, by omega, by go_num, fun j hj => ?_, _, rfl⟩
              by_cases e : j = k
              · subst e
                rw [Sp.okIns, HSH.out, Bool.and_eq_true, List.all_eq_true]
                refine ⟨by simp [hz], fun q' hq' => HQ.out q' ?_⟩
                have := List.mem_range.1 hq'
                omega
              · exact HALL.out j (by omega)
            case measure => simp [intOf]; omega
    · have HK : Hid (k = s.size / 4) := (by omega : k = s.size / 4)
      go_wp2_with (go_at_call 33; refine (count_any _ _ hs').mono ?_; rintro e w' ⟨rfl, rfl⟩)
      go_ret
      exact ⟨ret_bool (Sp.progB_yes _ _ _ h5 h4 hnb hend (fun j hj => HALL.out j (by rw [HK.out]; exact hj))).symm, nd, rfl⟩

set_option maxHeartbeats 1000000 in
theorem program_any (s : ByteArray) (regs : Int) (w : World) (hs : s.size ≤ maxLen) :
    Calls Tryd.prog 46 #[.string s, .int .i64 regs] w fun e w' => e = .returned (.bool (Sp.progB (Sp.B s) s.size regs)) ∧ ∃ n, w' = w.drewN n := by
  by_cases h0 : s.size = 0
  · have h40 : ((s.size : Int) == 0) = true := beq_iff_eq.2 (by omega)
    have hp : Sp.progB (Sp.B s) s.size regs = false := by simp [Sp.progB, h0]
    have HP : Hid (Sp.progB (Sp.B s) s.size regs = false) := hp
    clear hp h0
    go_enter Tryd.func46, Tryd.ntmps46
    go_wp2
    go_ret
    exact ⟨ret_bool HP.out.symm, 0, rfl⟩
  by_cases h4 : s.size % 4 = 0
  · by_cases hnb : Sp.blocksTo (Sp.B s) (s.size / 4) ≤ 10
    · by_cases hend : Sp.endB (Sp.B s (4 * (s.size / 4 - 1))) = true
      · exact program_loop s regs w hs h4 (by omega) hnb hend
      · have hend' : Sp.endB (Sp.B s (4 * (s.size / 4 - 1))) = false := by simpa using hend
        have HP : Hid (Sp.progB (Sp.B s) s.size regs = false) := (by simp [Sp.progB, hend'] : Sp.progB (Sp.B s) s.size regs = false)
        have hs' := hs
        unfold maxLen at hs
        have h40 : ((s.size : Int) == 0) = false := beq_eq_false_iff_ne.2 (by omega)
        clear hend
        go_enter Tryd.func46, Tryd.ntmps46
        go_wp2_with (first | (go_at_call 73; refine (blocks_any _ _ hs').mono ?_; rintro e w' ⟨rfl, rfl⟩) | (go_at_call 33; refine (count_any _ _ hs').mono ?_; rintro e w' ⟨rfl, rfl⟩) | (go_at_call 35; refine (at_any _ _ _ hs' (by omega) (by omega)).mono ?_; rintro e w' ⟨rfl, rfl⟩; rw [show (((s.size : Int) / 4 - 1).toNat) = s.size / 4 - 1 from by omega]) | (go_at_call 74; refine (ends_any _ _ (Sp.size_ext _ _ (by omega))).mono ?_; rintro e w' ⟨rfl, rfl⟩; rw [Sp.B_ext0 _ _ (by omega), hend']))
        go_ret
        exact ⟨ret_bool HP.out.symm, 0, rfl⟩
    · have HP : Hid (Sp.progB (Sp.B s) s.size regs = false) := (by simp [Sp.progB, hnb] : Sp.progB (Sp.B s) s.size regs = false)
      have hs' := hs
      unfold maxLen at hs
      have h40 : ((s.size : Int) == 0) = false := beq_eq_false_iff_ne.2 (by omega)
      have hnb' : (10 : Int) < Sp.blocksTo (Sp.B s) (s.size / 4) := by omega
      clear hnb
      go_enter Tryd.func46, Tryd.ntmps46
      go_wp2_with (first | (go_at_call 73; refine (blocks_any _ _ hs').mono ?_; rintro e w' ⟨rfl, rfl⟩))
      go_ret
      exact ⟨ret_bool HP.out.symm, 0, rfl⟩
  · have HP : Hid (Sp.progB (Sp.B s) s.size regs = false) := (by simp [Sp.progB, h4] : Sp.progB (Sp.B s) s.size regs = false)
    have hs' := hs
    unfold maxLen at hs
    have h40 : ((s.size : Int) == 0) = false := beq_eq_false_iff_ne.2 (by omega)
    go_enter Tryd.func46, Tryd.ntmps46
    go_wp2_with fail
    go_ret
    exact ⟨ret_bool HP.out.symm, 0, rfl⟩
end Go.Proofs.YtccndnckceagfaaDoorR

namespace Go.Proofs.YtccndnckceagfaaDoorR
open Go.RowKit

/-- v is a slice of just these numbers, in a block of its own from B on -/
def IntsAt (w : World) (B : Nat) (v : Value) (l : List Nat) : Prop :=
  (l = [] ∧ v = .slice none 0 0) ∨ ∃ b, v = .slice (some ⟨b, 0, none⟩) l.length l.length ∧ B ≤ b ∧ w.rowIs b 3 l.length (fun j => .int .i64 (l.getD j 0 : Nat))

set_option maxHeartbeats 1000000 in
theorem next_any (s : ByteArray) (i : Nat) (w : World) (hs : s.size ≤ maxLen) (hi : 4 * i + 4 ≤ s.size)
    (hj : Sp.B s (4 * i) = 106 → 48 ≤ Sp.B s (4 * i + 1) ∧ Sp.B s (4 * i + 1) - 48 ≤ Sp.blocksTo (Sp.B s) (s.size / 4))
    (hq : Sp.B s (4 * i) = 63 → (48 ≤ Sp.B s (4 * i + 2) ∧ Sp.B s (4 * i + 2) - 48 ≤ Sp.blocksTo (Sp.B s) (s.size / 4)) ∧ (48 ≤ Sp.B s (4 * i + 3) ∧ Sp.B s (4 * i + 3) - 48 ≤ Sp.blocksTo (Sp.B s) (s.size / 4))) :
    Calls Tryd.prog 110 #[.string s, .int .i64 i] w fun e w' => ∃ v, e = .returned v ∧ IntsAt w' w.heap.size v (Sp.nextL (Sp.B s) (s.size / 4) i) ∧ Below w.heap.size w w' := by
  have hs' := hs
  unfold maxLen at hs
  have b1 := Sp.B_bd s (4 * i + 1)
  have b2 := Sp.B_bd s (4 * i + 2)
  have b3 := Sp.B_bd s (4 * i + 3)
  go_enter Tryd.func110, Tryd.ntmps110
  go_wp2_with fail
  refine (at_ex _ _ _ hs' (by omega) (by omega)).mono ?_
  rintro e w' ⟨x, rfl, hx, rfl⟩
  rw [Int.toNat_natCast] at hx
  have hxs := hx.size
  have hx0 := hx.get0 (by omega)
  have hx1 := hx.get 1 (by omega)
  have hx2 := hx.get 2 (by omega)
  have hx3 := hx.get 3 (by omega)
  by_cases h114 : Sp.B s (4 * i) = 114
  · have HN : Hid (Sp.nextL (Sp.B s) (s.size / 4) i = []) := (by simp [Sp.nextL, h114] : Sp.nextL (Sp.B s) (s.size / 4) i = [])
    go_wp2_with fail
    go_ret
    exact ⟨_, rfl, Or.inl ⟨HN.out, rfl⟩, Below.refl _ _⟩
  by_cases h106 : Sp.B s (4 * i) = 106
  · have HN : Hid (Sp.nextL (Sp.B s) (s.size / 4) i = [Sp.fst (Sp.B s) (s.size / 4) (Sp.B s (4 * i + 1) - 48).toNat]) := (by simp [Sp.nextL, h106] : Sp.nextL (Sp.B s) (s.size / 4) i = _)
    obtain ⟨j1, j2⟩ := hj h106
    clear hj hq h114
    go_wp2_with fail
    refine (first_any _ _ _ hs' (by omega) (by omega)).mono ?_
    rintro e w' ⟨rfl, rfl⟩
    generalize Sp.fst (Sp.B s) (s.size / 4) (Sp.B s (4 * i + 1) - 48).toNat = a at *
    go_wp2_with fail
    go_ret
    refine ⟨_, rfl, Or.inr ⟨w.heap.size, by rw [HN.out]; rfl, Nat.le_refl _, ?_⟩, (Below.refl _ _).alloc (Nat.le_refl _) _⟩
    rw [HN.out]
    refine World.rowIs_alloc w #[.int .i64 a] 3 _ ?_
    intro j hj
    have : j = 0 := by simp at hj; omega
    subst this; rfl
  by_cases h63 : Sp.B s (4 * i) = 63
  · have HN : Hid (Sp.nextL (Sp.B s) (s.size / 4) i = [Sp.fst (Sp.B s) (s.size / 4) (Sp.B s (4 * i + 2) - 48).toNat, Sp.fst (Sp.B s) (s.size / 4) (Sp.B s (4 * i + 3) - 48).toNat]) := (by simp [Sp.nextL, h63] : Sp.nextL (Sp.B s) (s.size / 4) i = _)
    obtain ⟨⟨j1, j2⟩, j3, j4⟩ := hq h63
    clear hj hq h114 h106
    have w2 : IntKind.u8.wrap (Sp.B s (4 * i + 2) - 48) = Sp.B s (4 * i + 2) - 48 := IntWalk.u8_in _ (by omega)
    have w3 : IntKind.u8.wrap (Sp.B s (4 * i + 3) - 48) = Sp.B s (4 * i + 3) - 48 := IntWalk.u8_in _ (by omega)
    have w4 : IntKind.i64.wrap (Sp.B s (4 * i + 2) - 48) = Sp.B s (4 * i + 2) - 48 := IntWalk.i64_in _ (by omega)
    have w5 : IntKind.i64.wrap (Sp.B s (4 * i + 3) - 48) = Sp.B s (4 * i + 3) - 48 := IntWalk.i64_in _ (by omega)
    go_wp2_with fail
    go_region_with (go_at_call 95; refine (first_any _ _ _ hs' (by omega) (by omega)).mono ?_; rintro e w' ⟨rfl, rfl⟩)
    all_goals
      go_wp2_with fail
      go_ret
      refine ⟨_, rfl, Or.inr ⟨w.heap.size, by rw [HN.out]; rfl, Nat.le_refl _, ?_⟩, ((Below.refl _ _).alloc (Nat.le_refl _) _).drew⟩
      rw [HN.out]
      refine (World.rowIs_alloc w #[.int .i64 (Sp.fst (Sp.B s) (s.size / 4) (Sp.B s (4 * i + 2) - 48).toNat : Nat), .int .i64 (Sp.fst (Sp.B s) (s.size / 4) (Sp.B s (4 * i + 3) - 48).toNat : Nat)] 3 _ ?_).drew
      intro j hj
      have hj2 : j = 0 ∨ j = 1 := by simp at hj; omega
      rcases hj2 with rfl | rfl <;> rfl
  · have HN : Hid (Sp.nextL (Sp.B s) (s.size / 4) i = [i + 1]) := (by simp [Sp.nextL, h114, h106, h63] : Sp.nextL (Sp.B s) (s.size / 4) i = _)
    go_wp2_with fail
    go_ret
    refine ⟨_, rfl, Or.inr ⟨w.heap.size, by rw [HN.out]; rfl, Nat.le_refl _, ?_⟩, (Below.refl _ _).alloc (Nat.le_refl _) _⟩
    rw [HN.out]
    refine World.rowIs_alloc w #[.int .i64 (i + 1)] 3 _ ?_
    intro j hj
    have : j = 0 := by simp at hj; omega
    subst this; rfl
end Go.Proofs.YtccndnckceagfaaDoorR
