/-
  The document's own function next: the slice of the instructions to which one may go on.
-/
import Derived.Test.YtolhldbjfbkpiaaDoorRRefProg
import Derived.Deep.OwnRows
import Derived.Deep.RegionWith
namespace Go.Proofs.YtolhldbjfbkpiaaDoorR
open Go.RowKit

/-- v is a slice of just these numbers, in a block of its own from B on -/
def IntsAt (w : World) (B : Nat) (v : Value) (l : List Nat) : Prop :=
  (l = [] ∧ v = .slice none 0 0) ∨ ∃ b, v = .slice (some ⟨b, 0, none⟩) l.length l.length ∧ B ≤ b ∧ w.rowIs b 3 l.length (fun j => .int .i64 (l.getD j 0 : Nat))

set_option maxHeartbeats 1000000 in
theorem next_any (s : ByteArray) (i : Nat) (w : World) (hs : s.size ≤ maxLen) (hi : 4 * i + 4 ≤ s.size)
    (hj : Sp.B s (4 * i) = 106 → 48 ≤ Sp.B s (4 * i + 1) ∧ Sp.B s (4 * i + 1) - 48 ≤ Sp.blocksTo (Sp.B s) (s.size / 4))
    (hq : Sp.B s (4 * i) = 63 → (48 ≤ Sp.B s (4 * i + 2) ∧ Sp.B s (4 * i + 2) - 48 ≤ Sp.blocksTo (Sp.B s) (s.size / 4)) ∧ (48 ≤ Sp.B s (4 * i + 3) ∧ Sp.B s (4 * i + 3) - 48 ≤ Sp.blocksTo (Sp.B s) (s.size / 4))) :
    Calls Tryd.prog 89 #[.string s, .int .i64 i] w fun e w' => ∃ v, e = .returned v ∧ IntsAt w' w.heap.size v (Sp.nextL (Sp.B s) (s.size / 4) i) ∧ Below w.heap.size w w' := by
  have hs' := hs
  unfold maxLen at hs
  have b1 := Sp.B_bd s (4 * i + 1)
  have b2 := Sp.B_bd s (4 * i + 2)
  have b3 := Sp.B_bd s (4 * i + 3)
  go_enter Tryd.func89, Tryd.ntmps89
  go_wp2_with fail
  refine (at_ex _ _ _ hs' (by omega) (by omega)).mono ?_
  rintro e w' ⟨x, rfl, hx, rfl⟩
  rw [Int.toNat_natCast] at hx
  have hxs := hx.size
  have hx0 := hx.get0 (by omega)
  have hx1 := hx.get 1 (by omega)
  have hx2 := hx.get 2 (by omega)
  have hx3 := hx.get 3 (by omega)
  by_cases h114 : Sp.B s (4 * i) = 114
  · have HN : Hid (Sp.nextL (Sp.B s) (s.size / 4) i = []) := (by simp [Sp.nextL, h114] : Sp.nextL (Sp.B s) (s.size / 4) i = [])
    go_wp2_with fail
    go_ret
    exact ⟨_, rfl, Or.inl ⟨HN.out, rfl⟩, Below.refl _ _⟩
  by_cases h106 : Sp.B s (4 * i) = 106
  · have HN : Hid (Sp.nextL (Sp.B s) (s.size / 4) i = [Sp.fst (Sp.B s) (s.size / 4) (Sp.B s (4 * i + 1) - 48).toNat]) := (by simp [Sp.nextL, h106] : Sp.nextL (Sp.B s) (s.size / 4) i = _)
    obtain ⟨j1, j2⟩ := hj h106
    clear hj hq h114
    go_wp2_with fail
    refine (first_any _ _ _ hs' (by omega) (by omega)).mono ?_
    rintro e w' ⟨rfl, rfl⟩
    generalize Sp.fst (Sp.B s) (s.size / 4) (Sp.B s (4 * i + 1) - 48).toNat = a at *
    go_wp2_with fail
    go_ret
    refine ⟨_, rfl, Or.inr ⟨w.heap.size, by rw [HN.out]; rfl, Nat.le_refl _, ?_⟩, (Below.refl _ _).alloc (Nat.le_refl _) _⟩
    rw [HN.out]
    refine World.rowIs_alloc w #[.int .i64 a] 3 _ ?_
    intro j hj
    have : j = 0 := by simp at hj; omega
    subst this; rfl
  by_cases h63 : Sp.B s (4 * i) = 63
  · have HN : Hid (Sp.nextL (Sp.B s) (s.size / 4) i = [Sp.fst (Sp.B s) (s.size / 4) (Sp.B s (4 * i + 2) - 48).toNat, Sp.fst (Sp.B s) (s.size / 4) (Sp.B s (4 * i + 3) - 48).toNat]) := (by simp [Sp.nextL, h63] : Sp.nextL (Sp.B s) (s.size / 4) i = _)
    obtain ⟨⟨j1, j2⟩, j3, j4⟩ := hq h63
    clear hj hq h114 h106
    have w2 : IntKind.u8.wrap (Sp.B s (4 * i + 2) - 48) = Sp.B s (4 * i + 2) - 48 := IntWalk.u8_in _ (by omega)
    have w3 : IntKind.u8.wrap (Sp.B s (4 * i + 3) - 48) = Sp.B s (4 * i + 3) - 48 := IntWalk.u8_in _ (by omega)
    have w4 : IntKind.i64.wrap (Sp.B s (4 * i + 2) - 48) = Sp.B s (4 * i + 2) - 48 := IntWalk.i64_in _ (by omega)
    have w5 : IntKind.i64.wrap (Sp.B s (4 * i + 3) - 48) = Sp.B s (4 * i + 3) - 48 := IntWalk.i64_in _ (by omega)
    go_wp2_with fail
    go_region_with (go_at_call 74; refine (first_any _ _ _ hs' (by omega) (by omega)).mono ?_; rintro e w' ⟨rfl, rfl⟩)
    all_goals
      go_wp2_with fail
      go_ret
      refine ⟨_, rfl, Or.inr ⟨w.heap.size, by rw [HN.out]; rfl, Nat.le_refl _, ?_⟩, ((Below.refl _ _).alloc (Nat.le_refl _) _).drew⟩
      rw [HN.out]
      refine (World.rowIs_alloc w #[.int .i64 (Sp.fst (Sp.B s) (s.size / 4) (Sp.B s (4 * i + 2) - 48).toNat : Nat), .int .i64 (Sp.fst (Sp.B s) (s.size / 4) (Sp.B s (4 * i + 3) - 48).toNat : Nat)] 3 _ ?_).drew
      intro j hj
      have hj2 : j = 0 ∨ j = 1 := by simp at hj; omega
      rcases hj2 with rfl | rfl <;> rfl
  · have HN : Hid (Sp.nextL (Sp.B s) (s.size / 4) i = [i + 1]) := (by simp [Sp.nextL, h114, h106, h63] : Sp.nextL (Sp.B s) (s.size / 4) i = _)
    go_wp2_with fail
    go_ret
    refine ⟨_, rfl, Or.inr ⟨w.heap.size, by rw [HN.out]; rfl, Nat.le_refl _, ?_⟩, (Below.refl _ _).alloc (Nat.le_refl _) _⟩
    rw [HN.out]
    refine World.rowIs_alloc w #[.int .i64 (i + 1)] 3 _ ?_
    intro j hj
    have : j = 0 := by simp at hj; omega
    subst this; rfl
end Go.Proofs.YtolhldbjfbkpiaaDoorR
