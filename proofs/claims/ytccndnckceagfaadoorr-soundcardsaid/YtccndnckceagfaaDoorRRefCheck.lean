/-
  The document's own Check: what it answers.
-/
import Derived.Test.YtccndnckceagfaaDoorRRefWant
namespace Go.Proofs.YtccndnckceagfaaDoorR
open Go.RowKit

theorem regs_at (k : Nat) (hk : k < 52) : Sp.B ⟨#[65, 66, 67, 68, 69, 70, 71, 72, 73, 74, 75, 76, 77, 78, 79, 80, 81, 82, 83, 84, 85, 86, 87, 88, 89, 90, 97, 98, 99, 100, 101, 102, 103, 104, 105, 106, 107, 108, 109, 110, 111, 112, 113, 114, 115, 116, 117, 118, 119, 120, 121, 122]⟩ k = Sp.reg k := by
  have : ∀ k : Fin 52, Sp.B ⟨#[65, 66, 67, 68, 69, 70, 71, 72, 73, 74, 75, 76, 77, 78, 79, 80, 81, 82, 83, 84, 85, 86, 87, 88, 89, 90, 97, 98, 99, 100, 101, 102, 103, 104, 105, 106, 107, 108, 109, 110, 111, 112, 113, 114, 115, 116, 117, 118, 119, 120, 121, 122]⟩ k.val = Sp.reg k.val := by decide +kernel
  exact this ⟨k, hk⟩
theorem regs_index (k : Nat) (hk : k < 52) (W : World) : (Instr.index 9 (.string ⟨#[65, 66, 67, 68, 69, 70, 71, 72, 73, 74, 75, 76, 77, 78, 79, 80, 81, 82, 83, 84, 85, 86, 87, 88, 89, 90, 97, 98, 99, 100, 101, 102, 103, 104, 105, 106, 107, 108, 109, 110, 111, 112, 113, 114, 115, 116, 117, 118, 119, 120, 121, 122]⟩) (.int .i64 (k : Int))).run Tryd.prog W = .ok (.int .u8 (Sp.reg k)) W := by
  have hsz : (⟨#[65, 66, 67, 68, 69, 70, 71, 72, 73, 74, 75, 76, 77, 78, 79, 80, 81, 82, 83, 84, 85, 86, 87, 88, 89, 90, 97, 98, 99, 100, 101, 102, 103, 104, 105, 106, 107, 108, 109, 110, 111, 112, 113, 114, 115, 116, 117, 118, 119, 120, 121, 122]⟩ : ByteArray).size = 52 := rfl
  rw [run_index_string W 9 _ .i64 _ Tryd.underlying9, dif_pos (by rw [hsz]; omega)]
  have h2 := Sp.B_get ⟨#[65, 66, 67, 68, 69, 70, 71, 72, 73, 74, 75, 76, 77, 78, 79, 80, 81, 82, 83, 84, 85, 86, 87, 88, 89, 90, 97, 98, 99, 100, 101, 102, 103, 104, 105, 106, 107, 108, 109, 110, 111, 112, 113, 114, 115, 116, 117, 118, 119, 120, 121, 122]⟩ k (by rw [hsz]; exact hk)
  rw [regs_at k hk] at h2
  exact congrArg (fun z => Result.ok (Value.int .u8 z) W) h2

set_option maxHeartbeats 1000000 in
theorem unset_any (s : ByteArray) (w : World) (hs : s.size ≤ 4096) (G : Sp.Good (Sp.B s) (s.size / 4)) :
    Calls Tryd.prog 61 #[.string s] w fun e w' => ∃ b, e = .returned (.bool b) ∧ (b = true ↔ Sp.Unset (Sp.B s) (s.size / 4)) ∧ Below w.heap.size w w' := by
  have hpos := G.pos
  go_enter Tryd.func61, Tryd.ntmps61
  go_wp2_with fail
  go_loopw [3] (fun kv wr => ∃ k : Nat, kv = .int .i64 k ∧ k ≤ 52 ∧ (∀ m, m < k → Sp.argB (Sp.reg m) = false → ¬ Sp.Want (Sp.B s) (s.size / 4) (Sp.reg m) 0) ∧ Below w.heap.size w wr) (fun kv _ => 52 - (intOf kv).toNat)
  case atStart => exact ⟨0, rfl, by omega, fun m hm => by omega, Below.refl _ _⟩
  case round =>
    obtain ⟨k, rfl, hk, hall, hb⟩ := hrel
    have HALL := hid hall
    have HB := hid hb
    clear hall hb
    by_cases hlt : k < 52
    · have hix := regs_index k hlt
      go_wp2_with fail
      refine (among_any _ _ _ (by decide)).mono ?_
      rintro e w' ⟨rfl, rfl⟩
      rw [Sp.amg_args, show (Sp.reg k == 97 || Sp.reg k == 98 || Sp.reg k == 65 || Sp.reg k == 66) = Sp.argB (Sp.reg k) from rfl]
      have HL := hid (Sp.reg_let k hlt)
      generalize hrk : Sp.reg k = v at *
      have HRK := hid hrk
      clear hrk
      cases harg : Sp.argB v
      · have HA := hid harg
        clear harg
        go_wp2_with fail
        refine (wanted_any s 0 v _ hs G hpos).mono ?_
        rintro e w1 ⟨b, rfl, hb, hbel⟩
        have HW := hid hb
        have HB1 := hid (HB.out.trans (hbel.mono HB.out.size))
        clear hb hbel
        cases b
        · go_wp2_with fail
          go_roundw
          case rel => exact ⟨k + 1, by go_num, by omega, (fun m hm ha hw => by
            by_cases e : m = k
            · rw [e, HRK.out] at hw
              have := HW.out.2 hw
              cases this
            · exact HALL.out m (by omega) ha hw), HB1.out⟩
          case measure => simp [intOf]; omega
        · go_wp2_with fail
          go_ret
          exact ⟨true, rfl, ⟨fun _ => ⟨v, HL.out, HA.out, HW.out.1 (by first | rfl | trivial)⟩, fun _ => rfl⟩, HB1.out⟩
      · have HA := hid harg
        clear harg
        go_wp2_with fail
        go_roundw
        case rel => exact ⟨k + 1, by go_num, by omega, (fun m hm ha hw => by
            by_cases e : m = k
            · rw [e, HRK.out, HA.out] at ha
              cases ha
            · exact HALL.out m (by omega) ha hw), HB.out⟩
        case measure => simp [intOf]; omega
    · have HK := hid (show k = 52 by omega)
      go_wp2_with fail
      go_ret
      refine ⟨false, rfl, ⟨(fun h => by cases h), fun h => ?_⟩, HB.out⟩
      obtain ⟨v, h1, h2, h3⟩ := h
      obtain ⟨m, hm, rfl⟩ := Sp.let_reg h1
      exact absurd h3 (HALL.out m (by rw [HK.out]; exact hm) h2)

set_option maxHeartbeats 1000000 in
theorem formed_any (s : ByteArray) (w : World) (hs : s.size ≤ maxLen) :
    Calls Tryd.prog 32 #[.string s] w fun e w' => ∃ f : Int, e = .returned (.int .i64 f) ∧ Sp.FormedR s f ∧ Below w.heap.size w w' := by
  by_cases h256 : 256 < s.size
  · have h' : (256 : Int) < s.size := by omega
    go_enter Tryd.func32, Tryd.ntmps32
    go_wp2_with fail
    go_ret
    exact ⟨_, rfl, Or.inl ⟨h256, rfl⟩, Below.refl _ _⟩
  · have h' : s.size ≤ 256 := by omega
    clear h256
    go_enter Tryd.func32, Tryd.ntmps32
    go_wp2_with fail
    refine (program_any s 0 _ hs).mono ?_
    rintro e w1 ⟨rfl, nd, rfl⟩
    cases hp : Sp.progB (Sp.B s) s.size 0
    · have HP := hid hp
      clear hp
      go_wp2_with fail
      go_ret
      exact ⟨_, rfl, Or.inr (Or.inl ⟨h', HP.out, rfl⟩), below_drewN (Below.refl _ _) _⟩
    · have HP := hid hp
      clear hp
      go_wp2_with fail
      refine (unset_any s _ (by omega) (Sp.good_of_progB HP.out)).mono ?_
      rintro e w1 ⟨b, rfl, hb, hbel⟩
      have HU := hid hb
      have HB := hid ((below_drewN (Below.refl w.heap.size w) nd).trans hbel)
      clear hb hbel
      cases b
      · go_wp2_with fail
        go_ret
        exact ⟨_, rfl, Or.inr (Or.inr (Or.inr ⟨h', HP.out, (fun h => by have := HU.out.2 h; cases this), rfl⟩)), HB.out⟩
      · go_wp2_with fail
        go_ret
        exact ⟨_, rfl, Or.inr (Or.inr (Or.inl ⟨h', HP.out, HU.out.1 (by first | rfl | trivial), rfl⟩)), HB.out⟩

set_option maxHeartbeats 1000000 in
theorem refCheck_any (s : ByteArray) (w : World) (hs : s.size ≤ maxLen) :
    Calls Tryd.prog 13 #[.string s] w fun e w' => ∃ n f : Int, e = .returned (.tuple #[.int .i64 n, .int .i64 f]) ∧ Sp.CheckR s n f ∧ Below w.heap.size w w' := by
  have hs' := hs
  unfold maxLen at hs
  go_enter Tryd.func13, Tryd.ntmps13
  go_wp2_with fail
  refine (formed_any s _ hs').mono ?_
  rintro e w1 ⟨f, rfl, hf, hbel⟩
  have HF := hid hf
  have HB := hid hbel
  clear hf hbel
  by_cases h0 : f = 0
  · subst h0
    go_wp2_with fail
    go_loopw [5] (fun kv wr => ∃ k : Nat, kv = .int .i64 k ∧ k ≤ s.size / 4 ∧ (∀ m, m < k → Sp.shwAt (Sp.B s) m = false) ∧ wr = w1) (fun kv _ => s.size / 4 - (intOf kv).toNat)
    case atStart => exact ⟨0, rfl, by omega, fun m hm => by omega, rfl⟩
    case round =>
      obtain ⟨k, rfl, hk, hall, rfl⟩ := hrel
      have HALL := hid hall
      clear hall
      by_cases hlt : k < s.size / 4
      · go_wp2_with (first | (go_at_call 33; refine (count_any _ _ hs').mono ?_; rintro e w' ⟨rfl, rfl⟩))
        refine (at_ex _ _ _ hs' (by omega) (by omega)).mono ?_
        rintro e w' ⟨x, rfl, hx, rfl⟩
        rw [Int.toNat_natCast] at hx
        go_wp2_with fail
        refine (shows_any _ _ hx.size).mono ?_
        rintro e w' ⟨rfl, rfl⟩
        rw [hx.B0, hx.B1, hx.B2, hx.B3]
        cases hsh : Sp.shwB (Sp.B s (4 * k)) (Sp.B s (4 * k + 1)) (Sp.B s (4 * k + 2)) (Sp.B s (4 * k + 3))
        · have HS := hid hsh
          clear hsh
          go_wp2_with fail
          go_roundw
          case rel => exact ⟨k + 1, by go_num, by omega, (fun m hm => by
            by_cases e : m = k
            · rw [e]; exact HS.out
            · exact HALL.out m (by omega)), (by first | rfl | trivial)⟩
          case measure => simp [intOf]; omega
        · have HS := hid hsh
          clear hsh
          go_wp2_with fail
          go_ret2
          exact ⟨_, _, rfl, Or.inr (Or.inl ⟨HF.out, ⟨k, hlt, HS.out⟩, rfl, rfl⟩), HB.out⟩
      · have HK := hid (show k = s.size / 4 by omega)
        go_wp2_with (first | (go_at_call 33; refine (count_any _ _ hs').mono ?_; rintro e w' ⟨rfl, rfl⟩))
        go_ret2
        exact ⟨_, _, rfl, Or.inr (Or.inr ⟨HF.out, (fun m hm => HALL.out m (by rw [HK.out]; exact hm)), by omega, rfl⟩), HB.out⟩
  · go_wp2_with fail
    have HN := hid h0
    go_ret2
    exact ⟨_, _, rfl, Or.inl ⟨HN.out, HF.out, rfl⟩, HB.out⟩
end Go.Proofs.YtccndnckceagfaaDoorR
