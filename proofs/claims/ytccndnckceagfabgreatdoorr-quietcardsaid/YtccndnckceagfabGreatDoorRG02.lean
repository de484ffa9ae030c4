/-
  Contracts of the program's small functions.
  The program's reading of one instruction, byte by byte.
-/
import Derived.Test.YtccndnckceagfabGreatDoorRG01
import Derived.Test.YtccndnckceagfabGreatDoorRHDSpecK
import Derived.Lib.SmallJoins
namespace Go.Proofs.YtccndnckceagfabGreatDoorR
open Go.RowKit

def insL (i : Sp.Ins) : List Value := [.int .u8 i.o, .int .i64 i.d, .int .i64 i.x, .int .i64 i.y, .int .i64 i.n, .int .i64 i.k, .int .i64 i.m]

set_option maxHeartbeats 400000 in
theorem digitOf_any (c : Int) (w : World) (h0 : 0 ≤ c) (h1 : c ≤ 255) :
    Calls Tryz.prog 89 #[.int .u8 c] w fun e w' => e = .returned (.int .i64 (Sp.dgO c)) ∧ w = w' := by
  by_cases a : 48 ≤ c <;> by_cases b : c ≤ 57
  all_goals
    go_enter Tryz.func89, Tryz.ntmps89
    go_wp2
    go_ret
    refine ⟨ret_int ?_, rfl⟩
    simp only [Sp.dgO, Sp.digB, decide_eq_true_eq]
    split
    all_goals omega

set_option maxHeartbeats 400000 in
theorem letterOf_any (c : Int) (w : World) (_h0 : 0 ≤ c) (_h1 : c ≤ 255) :
    Calls Tryz.prog 93 #[.int .u8 c] w fun e w' => e = .returned (.int .i64 (Sp.rgO c)) ∧ w = w' := by
  go_enter Tryz.func93, Tryz.ntmps93
  go_wp2_with fail
  go_loopw [3] (fun kv wr => ∃ n : Nat, n ≤ 52 ∧ kv = .int .i64 n ∧ (∀ m, m < n → Sp.B Sp.alpha m ≠ c) ∧ w = wr) (fun kv _ => 52 - (intOf kv).toNat)
  case atStart => exact ⟨0, by omega, rfl, fun m hm => by omega, rfl⟩
  case round =>
    obtain ⟨n, hn, rfl, hall, rfl⟩ := hrel
    have HALL := hid hall
    clear hall
    by_cases hlt : n < 52
    · have hix : ∀ W : World, (Instr.index 9 (.string ⟨#[97, 98, 99, 100, 101, 102, 103, 104, 105, 106, 107, 108, 109, 110, 111, 112, 113, 114, 115, 116, 117, 118, 119, 120, 121, 122, 65, 66, 67, 68, 69, 70, 71, 72, 73, 74, 75, 76, 77, 78, 79, 80, 81, 82, 83, 84, 85, 86, 87, 88, 89, 90]⟩) (.int .i64 (n : Int))).run Tryz.prog W = .ok (.int .u8 (Sp.B Sp.alpha n)) W := by
        intro W
        have hz : n < Sp.alpha.size := hlt
        show (Instr.index 9 (.string Sp.alpha) (.int .i64 (n : Int))).run Tryz.prog W = .ok (.int .u8 (Sp.B Sp.alpha n)) W
        rw [run_index_string W 9 Sp.alpha .i64 _ Tryz.underlying9, dif_pos (by omega)]
        exact congrArg (fun z => Result.ok (Value.int .u8 z) W) (Sp.B_get Sp.alpha n hz)
      by_cases he : Sp.B Sp.alpha n = c
      · have HE := hid (Sp.alpha_yes n c hlt he)
        go_wp2_with fail
        go_ret
        exact ⟨ret_int HE.out.symm, rfl⟩
      · have HE := hid he
        go_wp2_with fail
        go_roundw
        case rel => exact ⟨n + 1, by omega, by go_num, (fun m hm => by
          by_cases e : m = n
          · rw [e]; exact HE.out
          · exact HALL.out m (by omega)), by first | rfl | trivial⟩
        case measure => simp [intOf]; omega
    · have HN := hid (show n = 52 by omega)
      go_wp2_with fail
      go_ret
      exact ⟨ret_int (Sp.alpha_no c (fun m hm => HALL.out m (by rw [HN.out]; exact hm))).symm, rfl⟩

set_option maxHeartbeats 400000 in
theorem slotOf_any (c : Int) (w : World) (h0 : 0 ≤ c) (h1 : c ≤ 255) :
    Calls Tryz.prog 87 #[.int .u8 c] w fun e w' => e = .returned (.int .i64 (Sp.slO c)) ∧ w = w' := by
  have hb := Sp.rgO_bd c
  have HL := hid (letterOf_any c w h0 h1)
  by_cases h : Sp.rgO c = -1
  · have HS := hid (show Sp.slO c = -1 by simp [Sp.slO, h])
    go_enter Tryz.func87, Tryz.ntmps87
    go_wp2_with (go_at_call 93; refine HL.out.mono ?_; rintro e w' ⟨rfl, rfl⟩)
    go_ret
    exact ⟨ret_int HS.out.symm, rfl⟩
  · have HS := hid (show Sp.slO c = 10 + Sp.rgO c by simp [Sp.slO, h])
    generalize Sp.rgO c = r at *
    go_enter Tryz.func87, Tryz.ntmps87
    go_wp2_with (go_at_call 93; refine HL.out.mono ?_; rintro e w' ⟨rfl, rfl⟩)
    go_ret
    refine ⟨ret_int ?_, rfl⟩
    rw [HS.out]

set_option maxHeartbeats 400000 in
theorem isSecret_any (c : Int) (w : World) :
    Calls Tryz.prog 55 #[.int .i64 c] w fun e w' => e = .returned (.bool (Sp.secB c)) ∧ w = w' := by
  go_enter Tryz.func55, Tryz.ntmps55
  go_wp2
  go_ret
  exact ⟨rfl, rfl⟩

set_option maxHeartbeats 400000 in
theorem isTarget_any (b n : Int) (w : World) :
    Calls Tryz.prog 79 #[.int .i64 b, .int .i64 n] w fun e w' => e = .returned (.bool (Sp.isTgt b n)) ∧ w = w' := by
  by_cases h1 : b = -1
  · subst h1
    go_enter Tryz.func79, Tryz.ntmps79
    go_wp2
    go_ret
    exact ⟨rfl, rfl⟩
  · by_cases h2 : 1 ≤ b
    · go_enter Tryz.func79, Tryz.ntmps79
      go_wp2
      go_ret
      exact ⟨ret_bool (by simp [Sp.isTgt, h2]), rfl⟩
    · have HT := hid (show Sp.isTgt b n = false by simp [Sp.isTgt, h1]; omega)
      go_enter Tryz.func79, Tryz.ntmps79
      go_wp2
      go_ret
      exact ⟨ret_bool (by rw [HT.out]; simp [h1]), rfl⟩

set_option maxHeartbeats 400000 in
theorem commonShape_any (c : Int) (w : World) :
    Calls Tryz.prog 73 #[.int .u8 c] w fun e w' => e = .returned (.string (Sp.dshp c)) ∧ w = w' := by
  go_enter Tryz.func73, Tryz.ntmps73
  go_wp2
  all_goals
    go_ret
    refine ⟨ret_str ?_, rfl⟩
    simp_all [Sp.dshp, Sp.arithB]

set_option maxHeartbeats 400000 in
theorem gshape_any (k : Int) (g : Bool) (hg : g = decide (k ≠ 0)) (c : Int) (w : World) :
    Calls Tryz.prog 50 #[.agg #[.bool g, .int .i64 k], .int .u8 c] w fun e w' => e = .returned (.string (Sp.shpK k c)) ∧ Below w.heap.size w w' := by
  by_cases hk : k = 0
  · subst hk
    obtain rfl : g = false := hg
    go_enter Tryz.func50, Tryz.ntmps50
    go_wp2_with (go_at_call 73; refine (commonShape_any _ _).mono ?_; rintro e w' ⟨rfl, rfl⟩)
    go_ret
    exact ⟨rfl, (Below.refl _ _).alloc (Nat.le_refl _) _⟩
  · obtain rfl : g = true := by simp [hg, hk]
    clear hg
    have HK := hid hk
    clear hk
    go_enter Tryz.func50, Tryz.ntmps50
    go_wp2_with (go_at_call 73; refine (commonShape_any _ _).mono ?_; rintro e w' ⟨rfl, rfl⟩)
    all_goals
      go_ret
      refine ⟨ret_str ?_, (Below.refl _ _).alloc (Nat.le_refl _) _⟩
      have hk := HK.out
      simp_all [Sp.shpK]

set_option maxHeartbeats 400000 in
theorem register_any (k : Int) (g : Bool) (hg : g = decide (k ≠ 0)) (c : Int) (w : World) (h0 : 0 ≤ c) (h1 : c ≤ 255) :
    Calls Tryz.prog 88 #[.agg #[.bool g, .int .i64 k], .int .u8 c] w fun e w' => e = .returned (.int .i64 (Sp.rgK k c)) ∧ Below w.heap.size w w' := by
  by_cases hk : k = 0
  · subst hk
    obtain rfl : g = false := hg
    go_enter Tryz.func88, Tryz.ntmps88
    go_wp2_with (go_at_call 93; refine (letterOf_any _ _ h0 h1).mono ?_; rintro e w' ⟨rfl, rfl⟩)
    go_ret
    exact ⟨rfl, (Below.refl _ _).alloc (Nat.le_refl _) _⟩
  · obtain rfl : g = true := by simp [hg, hk]
    clear hg
    have hd := digitOf_any c (w.alloc (.cells #[.bool true, .int .i64 k] 78)) h0 h1
    have HR : Hid (Sp.rgK k c = if k ≤ Sp.dgO c then -1 else Sp.dgO c) := hid (by simp [Sp.rgK, hk])
    clear hk
    generalize Sp.dgO c = d at *
    have HD := hid hd
    clear hd
    by_cases hge : k ≤ d
    · go_enter Tryz.func88, Tryz.ntmps88
      go_wp2_with (go_at_call 89; refine HD.out.mono ?_; rintro e w' ⟨rfl, rfl⟩)
      go_ret
      refine ⟨ret_int ?_, (Below.refl _ _).alloc (Nat.le_refl _) _⟩
      rw [HR.out, if_pos hge]
    · go_enter Tryz.func88, Tryz.ntmps88
      go_wp2_with (go_at_call 89; refine HD.out.mono ?_; rintro e w' ⟨rfl, rfl⟩)
      go_ret
      refine ⟨ret_int ?_, (Below.refl _ _).alloc (Nat.le_refl _) _⟩
      rw [HR.out, if_neg (by omega)]

set_option maxHeartbeats 1000000 in
theorem place_any (k : Int) (g : Bool) (hg : g = decide (k ≠ 0)) (p c : Int) (w : World) (h0 : 0 ≤ c) (h1 : c ≤ 255) :
    Calls Tryz.prog 76 #[.agg #[.bool g, .int .i64 k], .int .u8 p, .int .u8 c] w fun e w' => e = .returned (.int .i64 (Sp.plO k p c)) ∧ Below w.heap.size w w' := by
  have HG := hid hg
  clear hg
  by_cases hp : p = 68 ∨ p = 88
  · have HP := hid (show Sp.plO k p c = Sp.slO c by simp [Sp.plO, hp])
    rcases hp with rfl | rfl
    all_goals
      go_enter Tryz.func76, Tryz.ntmps76
      go_wp2_with (go_at_call 87; refine (slotOf_any _ _ h0 h1).mono ?_; rintro e w' ⟨rfl, rfl⟩)
      go_ret
      exact ⟨ret_int HP.out.symm, (Below.refl _ _).alloc (Nat.le_refl _) _⟩
  · have p1 : p ≠ 68 := by omega
    have p2 : p ≠ 88 := by omega
    clear hp
    by_cases hq : p = 113
    · subst hq
      by_cases hs : Sp.slO c = -1
      · have HP := hid (show Sp.plO k 113 c = Sp.rgK k c by simp [Sp.plO, hs])
        go_enter Tryz.func76, Tryz.ntmps76
        go_wp2_with (first | (go_at_call 87; refine (slotOf_any _ _ h0 h1).mono ?_; rintro e w' ⟨rfl, rfl⟩) | (go_at_call 88; refine (register_any k g HG.out c _ h0 h1).mono ?_; rintro e w2 ⟨rfl, hb⟩))
        go_ret
        exact ⟨ret_int HP.out.symm, ((Below.refl _ _).alloc (Nat.le_refl _) _).trans (hb.mono (by simp))⟩
      · have HP := hid (show Sp.plO k 113 c = Sp.slO c by simp [Sp.plO, hs])
        have hs' : (Sp.slO c != -1) = true := by simp [hs]
        go_enter Tryz.func76, Tryz.ntmps76
        go_wp2_with (first | (go_at_call 87; refine (slotOf_any _ _ h0 h1).mono ?_; rintro e w' ⟨rfl, rfl⟩))
        go_ret
        exact ⟨ret_int HP.out.symm, (Below.refl _ _).alloc (Nat.le_refl _) _⟩
    · by_cases hz : p = 48
      · subst hz
        by_cases hc : c = 48
        · subst hc
          have HP := hid (show Sp.plO k 48 48 = Sp.rgK k 48 by simp [Sp.plO])
          go_enter Tryz.func76, Tryz.ntmps76
          go_wp2_with (first | (go_at_call 88; refine (register_any k g HG.out 48 _ (by omega) (by omega)).mono ?_; rintro e w2 ⟨rfl, hb⟩))
          go_ret
          exact ⟨ret_int HP.out.symm, ((Below.refl _ _).alloc (Nat.le_refl _) _).trans (hb.mono (by simp))⟩
        · have HP := hid (show Sp.plO k 48 c = -1 by simp [Sp.plO, hc])
          go_enter Tryz.func76, Tryz.ntmps76
          go_wp2_with fail
          go_ret
          exact ⟨ret_int HP.out.symm, (Below.refl _ _).alloc (Nat.le_refl _) _⟩
      · have HP := hid (Sp.plO_plain k p c p1 p2 hq hz)
        go_enter Tryz.func76, Tryz.ntmps76
        go_wp2_with (first | (go_at_call 88; refine (register_any k g HG.out c _ h0 h1).mono ?_; rintro e w2 ⟨rfl, hb⟩))
        go_ret
        exact ⟨ret_int HP.out.symm, ((Below.refl _ _).alloc (Nat.le_refl _) _).trans (hb.mono (by simp))⟩

set_option maxHeartbeats 400000 in
theorem endsBlock_any (o d x y n k m : Int) (w : World) :
    Calls Tryz.prog 78 #[.agg #[.int .u8 o, .int .i64 d, .int .i64 x, .int .i64 y, .int .i64 n, .int .i64 k, .int .i64 m]] w fun e w' => e = .returned (.bool (Sp.endB o)) ∧ Below w.heap.size w w' := by
  by_cases h1 : o = 106 <;> by_cases h2 : o = 63
  · omega
  all_goals
    go_enter Tryz.func78, Tryz.ntmps78
    go_wp2
    go_ret
    exact ⟨ret_bool (by simp [Sp.endB, h1, h2]), (Below.refl _ _).alloc (Nat.le_refl _) _⟩

set_option maxHeartbeats 2000000 in
theorem dshows_any (o d x y n k m : Int) (w : World) :
    Calls Tryz.prog 35 #[.agg #[.int .u8 o, .int .i64 d, .int .i64 x, .int .i64 y, .int .i64 n, .int .i64 k, .int .i64 m]] w fun e w' => e = .returned (.bool (Sp.showI ⟨o, d, x, y, n, k, m⟩)) ∧ Below w.heap.size w w' := by
  go_enter Tryz.func35, Tryz.ntmps35
  go_wp2_with (go_at_call 55; refine (isSecret_any _ _).mono ?_; rintro e w' ⟨rfl, rfl⟩)
  all_goals
    go_ret
    refine ⟨ret_bool ?_, (Below.refl _ _).alloc (Nat.le_refl _) _⟩
    simp_all [Sp.showI, Sp.arithB]
end Go.Proofs.YtccndnckceagfabGreatDoorR

namespace Go.Proofs.YtccndnckceagfabGreatDoorR
open Go.RowKit

/-- an instruction's cells -/
def insF (i : Sp.Ins) : Nat → Value
  | 0 => .int .u8 i.o
  | 1 => .int .i64 i.d
  | 2 => .int .i64 i.x
  | 3 => .int .i64 i.y
  | 4 => .int .i64 i.n
  | 5 => .int .i64 i.k
  | _ => .int .i64 i.m

/-- nothing but block b has turned -/
structure Only (b : Nat) (w w' : World) : Prop where
  os : w'.os = w.os
  tape : w'.tape = w.tape
  output : w'.output = w.output
  size : w'.heap.size = w.heap.size
  block : ∀ k, k ≠ b → w'.heap[k]? = w.heap[k]?
theorem Only.refl (b : Nat) (w : World) : Only b w w := ⟨rfl, rfl, rfl, rfl, fun _ _ => rfl⟩
theorem Only.trans {b : Nat} {u v w : World} (h : Only b u v) (k : Only b v w) : Only b u w :=
  ⟨k.os.trans h.os, k.tape.trans h.tape, k.output.trans h.output, k.size.trans h.size, fun i hi => (k.block i hi).trans (h.block i hi)⟩
theorem Only.set (b o : Nat) (w : World) (v : Value) : Only b w (w.setCell ⟨b, o, none⟩ v) :=
  ⟨rfl, rfl, rfl, by simp [World.setCell], fun k hk => Below.heap_setCell w ⟨b, o, none⟩ v k hk⟩
theorem Only.drew {b : Nat} {u w : World} (h : Only b u w) : Only b u w.drew := ⟨h.os, h.tape, h.output, h.size, h.block⟩
theorem Only.below {b B : Nat} {u w : World} (h : Only b u w) (hB : B ≤ b) : Below B u w :=
  ⟨h.os, h.tape, h.output, by rw [h.size]; exact Nat.le_refl _, fun k hk => h.block k (by omega)⟩

theorem row_ins {w : World} {b t : Nat} {i i' : Sp.Ins} (h : w.rowIs b t 7 (insF i)) (f : Nat) {v : Value} (e : ∀ j, (j = 0 ∨ j = 1 ∨ j = 2 ∨ j = 3 ∨ j = 4 ∨ j = 5 ∨ j = 6) → insF i' j = if j = f then v else insF i j) :
    (w.setCell ⟨b, f, none⟩ v).rowIs b t 7 (insF i') :=
  (h.set f v).congr fun j hj => (e j (by omega)).symm

set_option maxHeartbeats 4000000 in
theorem take_any (b : Nat) (i : Sp.Ins) (p c pl : Int) (w : World) (hr : w.rowIs b 74 7 (insF i)) (h0 : 0 ≤ c) (h1 : c ≤ 255) (n0 : -1000 ≤ i.n) (n1 : i.n ≤ 1000) :
    Calls Tryz.prog 77 #[.pointer (some ⟨b, 0, none⟩), .int .u8 p, .int .u8 c, .int .i64 pl] w fun e w' => e = .returned (.bool (Sp.tkBK p c pl)) ∧ w'.rowIs b 74 7 (insF (Sp.tkIK i p c pl)) ∧ Only b w w' := by
  have c1 : w.cell? ⟨b, 1, none⟩ = some (.int .i64 i.d) := hr.cell (i := 1) (by omega)
  have c2 : w.cell? ⟨b, 2, none⟩ = some (.int .i64 i.x) := hr.cell (i := 2) (by omega)
  have c3 : w.cell? ⟨b, 3, none⟩ = some (.int .i64 i.y) := hr.cell (i := 3) (by omega)
  have c4 : w.cell? ⟨b, 4, none⟩ = some (.int .i64 i.n) := hr.cell (i := 4) (by omega)
  have c5 : w.cell? ⟨b, 5, none⟩ = some (.int .i64 i.k) := hr.cell (i := 5) (by omega)
  have c6 : w.cell? ⟨b, 6, none⟩ = some (.int .i64 i.m) := hr.cell (i := 6) (by omega)
  have f1 := hr.frozen 1
  have f2 := hr.frozen 2
  have f3 := hr.frozen 3
  have f4 := hr.frozen 4
  have f5 := hr.frozen 5
  have f6 := hr.frozen 6
  have db := Sp.dgO_bd c
  have HR := hid hr
  clear hr
  by_cases hp : p = 100 ∨ p = 68 ∨ p = 113 ∨ p = 120 ∨ p = 88 ∨ p = 48 ∨ p = 121 ∨ p = 116 ∨ p = 110 ∨ p = 107 ∨ p = 109
  · rcases hp with rfl | rfl | rfl | rfl | rfl | rfl | rfl | rfl | rfl | rfl | rfl
    · go_enter Tryz.func77, Tryz.ntmps77
      go_wp2_with (go_at_call 89; refine (digitOf_any _ _ h0 h1).mono ?_; rintro e w' ⟨rfl, rfl⟩)
      go_ret
      exact ⟨rfl, row_ins HR.out 1 (fun j hj => by rcases hj with rfl | rfl | rfl | rfl | rfl | rfl | rfl <;> rfl), Only.set _ _ _ _⟩
    · go_enter Tryz.func77, Tryz.ntmps77
      go_wp2_with (go_at_call 89; refine (digitOf_any _ _ h0 h1).mono ?_; rintro e w' ⟨rfl, rfl⟩)
      go_ret
      exact ⟨rfl, row_ins HR.out 1 (fun j hj => by rcases hj with rfl | rfl | rfl | rfl | rfl | rfl | rfl <;> rfl), Only.set _ _ _ _⟩
    · go_enter Tryz.func77, Tryz.ntmps77
      go_wp2_with (go_at_call 89; refine (digitOf_any _ _ h0 h1).mono ?_; rintro e w' ⟨rfl, rfl⟩)
      go_ret
      exact ⟨rfl, row_ins HR.out 1 (fun j hj => by rcases hj with rfl | rfl | rfl | rfl | rfl | rfl | rfl <;> rfl), Only.set _ _ _ _⟩
    · go_enter Tryz.func77, Tryz.ntmps77
      go_wp2_with (go_at_call 89; refine (digitOf_any _ _ h0 h1).mono ?_; rintro e w' ⟨rfl, rfl⟩)
      go_ret
      exact ⟨rfl, row_ins HR.out 2 (fun j hj => by rcases hj with rfl | rfl | rfl | rfl | rfl | rfl | rfl <;> rfl), Only.set _ _ _ _⟩
    · go_enter Tryz.func77, Tryz.ntmps77
      go_wp2_with (go_at_call 89; refine (digitOf_any _ _ h0 h1).mono ?_; rintro e w' ⟨rfl, rfl⟩)
      go_ret
      exact ⟨rfl, row_ins HR.out 2 (fun j hj => by rcases hj with rfl | rfl | rfl | rfl | rfl | rfl | rfl <;> rfl), Only.set _ _ _ _⟩
    · go_enter Tryz.func77, Tryz.ntmps77
      go_wp2_with (go_at_call 89; refine (digitOf_any _ _ h0 h1).mono ?_; rintro e w' ⟨rfl, rfl⟩)
      go_ret
      exact ⟨rfl, row_ins HR.out 2 (fun j hj => by rcases hj with rfl | rfl | rfl | rfl | rfl | rfl | rfl <;> rfl), Only.set _ _ _ _⟩
    · go_enter Tryz.func77, Tryz.ntmps77
      go_wp2_with (go_at_call 89; refine (digitOf_any _ _ h0 h1).mono ?_; rintro e w' ⟨rfl, rfl⟩)
      go_ret
      exact ⟨rfl, row_ins HR.out 3 (fun j hj => by rcases hj with rfl | rfl | rfl | rfl | rfl | rfl | rfl <;> rfl), Only.set _ _ _ _⟩
    · go_enter Tryz.func77, Tryz.ntmps77
      go_wp2_with (go_at_call 89; refine (digitOf_any _ _ h0 h1).mono ?_; rintro e w' ⟨rfl, rfl⟩)
      go_ret
      exact ⟨rfl, row_ins HR.out 4 (fun j hj => by rcases hj with rfl | rfl | rfl | rfl | rfl | rfl | rfl <;> rfl), Only.set _ _ _ _⟩
    · go_enter Tryz.func77, Tryz.ntmps77
      go_wp2_with (go_at_call 89; refine (digitOf_any _ _ h0 h1).mono ?_; rintro e w' ⟨rfl, rfl⟩)
      go_ret
      exact ⟨rfl, row_ins HR.out 4 (fun j hj => by rcases hj with rfl | rfl | rfl | rfl | rfl | rfl | rfl <;> rfl), Only.set _ _ _ _⟩
    · go_enter Tryz.func77, Tryz.ntmps77
      go_wp2_with (go_at_call 89; refine (digitOf_any _ _ h0 h1).mono ?_; rintro e w' ⟨rfl, rfl⟩)
      go_ret
      exact ⟨rfl, row_ins HR.out 5 (fun j hj => by rcases hj with rfl | rfl | rfl | rfl | rfl | rfl | rfl <;> rfl), Only.set _ _ _ _⟩
    · go_enter Tryz.func77, Tryz.ntmps77
      go_wp2_with (go_at_call 89; refine (digitOf_any _ _ h0 h1).mono ?_; rintro e w' ⟨rfl, rfl⟩)
      go_ret
      exact ⟨rfl, row_ins HR.out 6 (fun j hj => by rcases hj with rfl | rfl | rfl | rfl | rfl | rfl | rfl <;> rfl), Only.set _ _ _ _⟩
  · have q1 : p ≠ 100 := by omega
    have q2 : p ≠ 120 := by omega
    have q3 : p ≠ 121 := by omega
    have q4 : p ≠ 110 := by omega
    have q4' : p ≠ 116 := by omega
    have q5 : p ≠ 107 := by omega
    have q6 : p ≠ 109 := by omega
    have q7 : p ≠ 68 := by omega
    have q8 : p ≠ 113 := by omega
    have q9 : p ≠ 88 := by omega
    have q0 : p ≠ 48 := by omega
    have HB := hid (show Sp.tkBK p c pl = (c == p) by simp [Sp.tkBK, q1, q2, q3, q4, q4', q5, q6, q7, q8, q9, q0])
    have HI := hid (show Sp.tkIK i p c pl = i by simp [Sp.tkIK, q1, q2, q3, q4, q4', q5, q6, q7, q8, q9, q0])
    clear hp
    go_enter Tryz.func77, Tryz.ntmps77
    go_wp2_with (go_at_call 89; refine (digitOf_any _ _ h0 h1).mono ?_; rintro e w' ⟨rfl, rfl⟩)
    go_ret
    exact ⟨ret_bool (by rw [HB.out]), by rw [HI.out]; exact HR.out, Only.refl _ _⟩
end Go.Proofs.YtccndnckceagfabGreatDoorR
