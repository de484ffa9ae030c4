/-
  Which registers lie in which places, as the program holds it: a word of bits for each place. The smallest functions.
  One instruction of a machine beside one of a source program: contracts of the program's functions.
-/
import Derived.Test.YtccndnckceagfabDoorHStart
import Derived.Laws.BitsAllLaws
namespace Go.Proofs.YtccndnckceagfabDoor.Sp

/-- the bit of a value: a register of a source program, or 52 for the number 0 -/
def bitN (v : Int) : Nat := if 0 ≤ v ∧ v ≤ 52 then 2 ^ v.toNat else 0
def isPl (p : Int) : Bool := decide (0 ≤ p) && decide (p < 62)
def hasP (E : Nat → Nat) (v p : Int) : Bool := isPl p && (E p.toNat &&& bitN v) != 0
def setP (E : Nat → Nat) (v p : Int) : Nat → Nat := if isPl p = true then fun x => if x = p.toNat then bitN v else E x else E
def copyPl (E : Nat → Nat) (to frm : Int) : Nat → Nat := if isPl to = true ∧ isPl frm = true then fun x => if x = to.toNat then E frm.toNat else E x else E
def loseP (E : Nat → Nat) (r : Int) : Nat → Nat := fun x => E x &&& (18446744073709551615 - bitN r)
def gainP (E : Nat → Nat) (d x : Int) : Nat → Nat := fun p => if hasP E x p = true then E p ||| bitN d else E p
def copyReg (E : Nat → Nat) (d x : Int) : Nat → Nat := if d = x then E else gainP (loseP E d) d x
def meetP (E F : Nat → Nat) : Nat → Nat := fun p => E p &&& F p
def clearedP (E : Nat → Nat) : Bool := (List.range 61).all fun p => hasP E 52 ((p : Int) + 1)

theorem bitN_lt (v : Int) : bitN v < 2 ^ 53 := by
  unfold bitN
  split
  · exact Nat.pow_lt_pow_right (by omega) (by omega)
  · exact Nat.two_pow_pos _
theorem and_lt (a b : Nat) (h : a < 2 ^ 53) : a &&& b < 2 ^ 53 := Nat.lt_of_le_of_lt Nat.and_le_left h
theorem or_lt (a b : Nat) (h : a < 2 ^ 53) (h' : b < 2 ^ 53) : a ||| b < 2 ^ 53 := Nat.or_lt_two_pow h h'
/-- all words small -/
def Small (E : Nat → Nat) : Prop := ∀ p, p < 62 → E p < 2 ^ 53
theorem setP_small {E : Nat → Nat} (h : Small E) (v p : Int) : Small (setP E v p) := by
  intro x hx
  unfold setP
  split
  · show (if x = p.toNat then bitN v else E x) < _
    split
    · exact bitN_lt v
    · exact h x hx
  · exact h x hx
theorem copyPl_small {E : Nat → Nat} (h : Small E) (t f : Int) : Small (copyPl E t f) := by
  intro x hx
  unfold copyPl
  split
  · rename_i hc
    have h2 : f.toNat < 62 := by
      have := hc.2; unfold isPl at this; simp only [Bool.and_eq_true, decide_eq_true_eq] at this; omega
    show (if x = t.toNat then E f.toNat else E x) < _
    split
    · exact h _ h2
    · exact h x hx
  · exact h x hx
theorem loseP_small {E : Nat → Nat} (h : Small E) (r : Int) : Small (loseP E r) := fun x hx => and_lt _ _ (h x hx)
theorem gainP_small {E : Nat → Nat} (h : Small E) (d x : Int) : Small (gainP E d x) := by
  intro p hp
  show (if hasP E x p = true then E p ||| bitN d else E p) < _
  split
  · exact or_lt _ _ (h p hp) (bitN_lt d)
  · exact h p hp
theorem copyReg_small {E : Nat → Nat} (h : Small E) (d x : Int) : Small (copyReg E d x) := by
  unfold copyReg
  split
  · exact h
  · exact gainP_small (loseP_small h d) d x
theorem meetP_small {E : Nat → Nat} (h : Small E) (F : Nat → Nat) : Small (meetP E F) := fun x hx => and_lt _ _ (h x hx)
end Go.Proofs.YtccndnckceagfabDoor.Sp

namespace Go.Proofs.YtccndnckceagfabDoor
open Go.RowKit

/-- at block b lie the pairs E -/
structure PrAt (w : World) (b : Nat) (E : Nat → Nat) : Prop where
  row : w.rowIs b 71 62 (fun p => .int .u64 (E p : Nat))
  small : Sp.Small E
theorem PrAt.of_block {w w' : World} {b : Nat} {E : Nat → Nat} (h : PrAt w b E) (e : w'.heap[b]? = w.heap[b]?) : PrAt w' b E := ⟨World.rowIs.of_block h.row e, h.small⟩
theorem PrAt.lt {w : World} {b : Nat} {E : Nat → Nat} (h : PrAt w b E) : b < w.heap.size := World.rowIs.lt h.row
theorem PrAt.congr {w : World} {b : Nat} {E F : Nat → Nat} (h : PrAt w b E) (e : ∀ j, j < 62 → E j = F j) : PrAt w b F :=
  ⟨World.rowIs.congr h.row (fun j hj => by rw [e j hj]), fun p hp => by rw [← e p hp]; exact h.small p hp⟩
theorem PrAt.put {w : World} {b : Nat} {E : Nat → Nat} (h : PrAt w b E) (j : Nat) (v : Nat) (hv : v < 2 ^ 53) : PrAt (w.setCell ⟨b, j, none⟩ (.int .u64 (v : Nat))) b (fun x => if x = j then v else E x) :=
  ⟨World.rowIs.congr (World.rowIs.set h.row j (.int .u64 (v : Nat))) (fun x _ => by
    show _ = Value.int .u64 ((if x = j then v else E x : Nat) : Int)
    by_cases e : x = j
    · rw [if_pos e, if_pos e]
    · rw [if_neg e, if_neg e]), fun x hx => by
      show (if x = j then v else E x) < _
      split
      · exact hv
      · exact h.small x hx⟩

theorem Only.drawn {b : Nat} {w w' : World} (h : Only b w w') : Only b w w'.drew := ⟨h.os, h.tape, h.output, h.size, h.block⟩

theorem isPlace_any (p : Int) (w : World) : Calls Tryd.prog 71 #[.int .i64 p] w fun e w' => e = .returned (.bool (Sp.isPl p)) ∧ w = w' := by
  by_cases h0 : 0 ≤ p
  · by_cases h1 : p < 62
    · have t : Sp.isPl p = true := by unfold Sp.isPl; simp [h0, h1]
      go_enter Tryd.func71, Tryd.ntmps71
      go_wp2
      go_ret
      first | exact ⟨rfl, rfl⟩ | (rw [t]; exact ⟨rfl, rfl⟩)
    · have t : Sp.isPl p = false := by unfold Sp.isPl; simp [h1]
      go_enter Tryd.func71, Tryd.ntmps71
      go_wp2
      go_ret
      first | exact ⟨rfl, rfl⟩ | (rw [t]; exact ⟨rfl, rfl⟩)
  · have t : Sp.isPl p = false := by unfold Sp.isPl; simp [h0]
    go_enter Tryd.func71, Tryd.ntmps71
    go_wp2
    go_ret
    first | exact ⟨rfl, rfl⟩ | (rw [t]; exact ⟨rfl, rfl⟩)

theorem bit_any (v : Int) (w : World) : Calls Tryd.prog 72 #[.int .i64 v] w fun e w' => e = .returned (.int .u64 (Sp.bitN v : Nat)) ∧ w = w' := by
  by_cases h0 : 0 ≤ v
  · by_cases h1 : v ≤ 52
    · obtain ⟨k, rfl⟩ := Int.eq_ofNat_of_zero_le h0
      have t : Sp.bitN (k : Int) = 2 ^ k := by unfold Sp.bitN; rw [if_pos ⟨h0, h1⟩, Int.toNat_natCast]
      go_enter Tryd.func72, Tryd.ntmps72
      go_wp2
      go_ret
      refine ⟨?_, rfl⟩
      have hl : 2 ^ k < 2 ^ 53 := Nat.pow_lt_pow_right (by omega) (by omega)
      have e : IntKind.u64.wrap (2 ^ k : Int) = ((2 ^ k : Nat) : Int) := by
        have e2 : (2 ^ k : Int) = ((2 ^ k : Nat) : Int) := by push_cast; rfl
        rw [e2, IntKind.wrap_u64]
        generalize 2 ^ k = z at hl ⊢
        omega
      rw [t, e]
      rfl
    · have t : Sp.bitN v = 0 := by unfold Sp.bitN; rw [if_neg (by omega)]
      go_enter Tryd.func72, Tryd.ntmps72
      go_wp2
      go_ret
      first | exact ⟨rfl, rfl⟩ | (rw [t]; exact ⟨rfl, rfl⟩)
  · have t : Sp.bitN v = 0 := by unfold Sp.bitN; rw [if_neg (by omega)]
    go_enter Tryd.func72, Tryd.ntmps72
    go_wp2
    go_ret
    first | exact ⟨rfl, rfl⟩ | (rw [t]; exact ⟨rfl, rfl⟩)

theorem has_test (a v : Nat) (ha : a < 2 ^ 53) (hv : v < 2 ^ 53) : (bits .and .u64 (a : Int) (v : Int) != 0) = ((a &&& v) != 0) := by
  rw [u64_and (a : Int) (v : Int) (by omega) (by omega) (by omega) (by omega), Int.toNat_natCast, Int.toNat_natCast, Bool.eq_iff_iff]
  simp only [bne_iff_ne, ne_eq]
  omega

set_option maxHeartbeats 400000 in
theorem hasP_any (b : Nat) (E : Nat → Nat) (v p : Int) (w : World) (h : PrAt w b E) :
    Calls Tryd.prog 100 #[.pointer (some ⟨b, 0, none⟩), .int .i64 v, .int .i64 p] w fun e w' => e = .returned (.bool (Sp.hasP E v p)) ∧ w = w' := by
  cases hp : Sp.isPl p
  · have t : Sp.hasP E v p = false := by unfold Sp.hasP; rw [hp]; rfl
    have H1 := hid (isPlace_any p w)
    rw [hp] at H1
    clear h hp
    go_enter Tryd.func100, Tryd.ntmps100
    go_wp2_with (go_at_call 71; refine H1.out.mono ?_; rintro e w' ⟨rfl, rfl⟩)
    go_ret
    first | exact ⟨rfl, rfl⟩ | (rw [t]; exact ⟨rfl, rfl⟩)
  · have h01 : 0 ≤ p ∧ p < 62 := by unfold Sp.isPl at hp; simpa using hp
    obtain ⟨k, rfl⟩ := Int.eq_ofNat_of_zero_le h01.1
    have hk : k < 62 := by omega
    have H1 := hid (isPlace_any (k : Int) w)
    have H2 := hid (bit_any v w)
    have t : Sp.hasP E v (k : Int) = ((E k &&& Sp.bitN v) != 0) := by unfold Sp.hasP; rw [hp, Bool.true_and, Int.toNat_natCast]
    rw [hp] at H1
    have c := World.rowIs.cell h.row hk
    have HS := hid (has_test (E k) (Sp.bitN v) (h.small k hk) (Sp.bitN_lt v))
    clear h hp
    generalize Sp.bitN v = B at *
    go_enter Tryd.func100, Tryd.ntmps100
    go_wp2_with (first | (go_at_call 71; refine H1.out.mono ?_; rintro e w' ⟨rfl, rfl⟩) | (go_at_call 72; refine H2.out.mono ?_; rintro e w' ⟨rfl, rfl⟩))
    go_ret
    rw [t, ← HS.out]
    exact ⟨rfl, rfl⟩

set_option maxHeartbeats 400000 in
theorem setP_any (b : Nat) (E : Nat → Nat) (v p : Int) (w : World) (h : PrAt w b E) :
    Calls Tryd.prog 49 #[.pointer (some ⟨b, 0, none⟩), .int .i64 v, .int .i64 p] w fun e w' => e = .returned (.tuple #[]) ∧ PrAt w' b (Sp.setP E v p) ∧ Only b w w' := by
  cases hp : Sp.isPl p
  · have t : Sp.setP E v p = E := by unfold Sp.setP; rw [hp]; rfl
    have H1 := hid (isPlace_any p w)
    have HP := hid h
    rw [hp] at H1
    clear h hp
    go_enter Tryd.func49, Tryd.ntmps49
    go_wp2_with (go_at_call 71; refine H1.out.mono ?_; rintro e w' ⟨rfl, rfl⟩)
    go_end0
    exact ⟨rfl, by rw [t]; exact HP.out, Only.refl _ _⟩
  · have h01 : 0 ≤ p ∧ p < 62 := by unfold Sp.isPl at hp; simpa using hp
    obtain ⟨k, rfl⟩ := Int.eq_ofNat_of_zero_le h01.1
    have hk : k < 62 := by omega
    have H1 := hid (isPlace_any (k : Int) w)
    have t : Sp.setP E v (k : Int) = (fun x => if x = k then Sp.bitN v else E x) := by unfold Sp.setP; rw [if_pos hp, Int.toNat_natCast]
    rw [hp] at H1
    have c := World.rowIs.cell h.row hk
    have z := World.rowIs.frozen h.row k
    have HP := hid h
    have HB := hid (Sp.bitN_lt v)
    clear h hp
    have H2 := hid (bit_any v)
    go_enter Tryd.func49, Tryd.ntmps49
    go_wp2_with (go_at_call 71; refine H1.out.mono ?_; rintro e w' ⟨rfl, rfl⟩)
    go_region_with (go_at_call 72; refine (H2.out _).mono ?_; rintro e w1 ⟨rfl, hw1⟩; subst hw1)
    all_goals
      go_end0
      exact ⟨rfl, by rw [t]; exact (HP.out.put k _ HB.out).of_block rfl, (Only.set b k w _).drawn⟩

set_option maxRecDepth 20000 in
set_option maxHeartbeats 400000 in
theorem copyPl_any (b : Nat) (E : Nat → Nat) (d x : Int) (w : World) (h : PrAt w b E) :
    Calls Tryd.prog 94 #[.pointer (some ⟨b, 0, none⟩), .int .i64 d, .int .i64 x] w fun e w' => e = .returned (.tuple #[]) ∧ PrAt w' b (Sp.copyPl E d x) ∧ Only b w w' := by
  have H1 := hid (isPlace_any d w)
  have H2 := hid (isPlace_any x w)
  have HP := hid h
  cases hd : Sp.isPl d
  · have t : Sp.copyPl E d x = E := by unfold Sp.copyPl; rw [if_neg (by rw [hd]; simp)]
    rw [hd] at H1
    clear h hd
    go_enter Tryd.func94, Tryd.ntmps94
    go_wp2_with (go_at_call 71; refine H1.out.mono ?_; rintro e w' ⟨rfl, rfl⟩)
    go_end0
    exact ⟨rfl, by rw [t]; exact HP.out, Only.refl _ _⟩
  · cases hx : Sp.isPl x
    · have t : Sp.copyPl E d x = E := by unfold Sp.copyPl; rw [if_neg (by rw [hx]; simp)]
      rw [hd] at H1
      rw [hx] at H2
      clear h hd hx
      go_enter Tryd.func94, Tryd.ntmps94
      go_wp2_with (first | (go_at_call_of 71 d; refine H1.out.mono ?_; rintro e w' ⟨rfl, rfl⟩) | (go_at_call_of 71 x; refine H2.out.mono ?_; rintro e w' ⟨rfl, rfl⟩))
      go_end0
      exact ⟨rfl, by rw [t]; exact HP.out, Only.refl _ _⟩
    · have h01 : 0 ≤ d ∧ d < 62 := by unfold Sp.isPl at hd; simpa using hd
      have h02 : 0 ≤ x ∧ x < 62 := by unfold Sp.isPl at hx; simpa using hx
      obtain ⟨k, rfl⟩ := Int.eq_ofNat_of_zero_le h01.1
      obtain ⟨m, rfl⟩ := Int.eq_ofNat_of_zero_le h02.1
      have hk : k < 62 := by omega
      have hm : m < 62 := by omega
      have t : Sp.copyPl E (k : Int) (m : Int) = (fun y => if y = k then E m else E y) := by unfold Sp.copyPl; rw [if_pos ⟨hd, hx⟩, Int.toNat_natCast, Int.toNat_natCast]
      rw [hd] at H1
      rw [hx] at H2
      have c := World.rowIs.cell h.row hm
      have z := World.rowIs.frozen h.row k
      have c2 := World.rowIs.cell h.row hk
      clear h hd hx
      go_enter Tryd.func94, Tryd.ntmps94
      go_wp2_with (first | (go_at_call_of 71 k; refine H1.out.mono ?_; rintro e w' ⟨rfl, rfl⟩) | (go_at_call_of 71 m; refine H2.out.mono ?_; rintro e w' ⟨rfl, rfl⟩))
      go_region
      all_goals
        go_wp2_with fail
        go_end0
        exact ⟨rfl, by rw [t]; exact (HP.out.put k _ (HP.out.small m hm)).of_block rfl, by first | exact Only.set _ _ _ _ | exact (Only.set b k w _).drawn⟩

theorem lose_num (a v : Nat) (ha : a < 2 ^ 53) (hv : v < 2 ^ 53) : bits .andNot .u64 (a : Int) (v : Int) = ((a &&& (18446744073709551615 - v) : Nat) : Int) := by
  rw [u64_andNot (a : Int) (v : Int) (by omega) (by omega) (by omega) (by omega), Int.toNat_natCast, Int.toNat_natCast]
theorem or_num (a v : Nat) (ha : a < 2 ^ 53) (hv : v < 2 ^ 53) : bits .or .u64 (a : Int) (v : Int) = ((a ||| v : Nat) : Int) := by
  rw [u64_or (a : Int) (v : Int) (by omega) (by omega) (by omega) (by omega), Int.toNat_natCast, Int.toNat_natCast]
theorem and_num (a v : Nat) (ha : a < 2 ^ 53) (hv : v < 2 ^ 53) : bits .and .u64 (a : Int) (v : Int) = ((a &&& v : Nat) : Int) := by
  rw [u64_and (a : Int) (v : Int) (by omega) (by omega) (by omega) (by omega), Int.toNat_natCast, Int.toNat_natCast]
/-- the first m words changed -/
def upTo (E F : Nat → Nat) (m : Nat) : Nat → Nat := fun p => if p < m then F p else E p
theorem upTo_zero (E F : Nat → Nat) : upTo E F 0 = E := by funext p; simp [upTo]
theorem upTo_at (E F : Nat → Nat) (m : Nat) : upTo E F m m = E m := by simp [upTo]
theorem upTo_succ (E F : Nat → Nat) (m : Nat) : upTo E F (m + 1) = fun x => if x = m then F m else upTo E F m x := by
  funext p
  unfold upTo
  by_cases h : p = m
  · subst h; simp
  · rw [if_neg h]
    by_cases h2 : p < m
    · rw [if_pos h2, if_pos (by omega)]
    · rw [if_neg h2, if_neg (by omega)]

set_option maxRecDepth 20000 in
set_option maxHeartbeats 1000000 in
theorem loseP_any (b : Nat) (E : Nat → Nat) (r : Int) (w : World) (h : PrAt w b E) :
    Calls Tryd.prog 96 #[.pointer (some ⟨b, 0, none⟩), .int .i64 r] w fun e w' => e = .returned (.tuple #[]) ∧ PrAt w' b (Sp.loseP E r) ∧ Only b w w' := by
  have HB := hid (Sp.bitN_lt r)
  have H2 := hid (bit_any r w)
  have HP := hid h
  clear h
  have HL := hid (show ∀ x, Sp.loseP E r x = E x &&& (18446744073709551615 - Sp.bitN r) from fun _ => rfl)
  generalize Sp.bitN r = B at *
  go_enter Tryd.func96, Tryd.ntmps96
  go_wp2_with (go_at_call 72; refine H2.out.mono ?_; rintro e w' ⟨rfl, rfl⟩)
  go_loopw [5] (fun mv wr => ∃ m : Nat, m ≤ 62 ∧ mv = .int .i64 m ∧ PrAt wr b (upTo E (Sp.loseP E r) m) ∧ Only b w wr) (fun mv _ => 62 - (intOf mv).toNat)
  case atStart => exact ⟨0, by omega, rfl, by rw [upTo_zero]; exact HP.out, Only.refl _ _⟩
  case round =>
    obtain ⟨m, hm, rfl, hg, ho⟩ := hrel
    by_cases hlt : m < 62
    · have c := World.rowIs.cell hg.row hlt
      have z := World.rowIs.frozen hg.row m
      rw [upTo_at] at c
      have hE : E m < 2 ^ 53 := HP.out.small m hlt
      have HN := hid (lose_num (E m) B hE HB.out)
      have HG := hid hg
      have HO := hid ho
      clear hg ho
      go_wp2_with fail
      go_region
      all_goals
        go_wp2_with fail
        go_roundw
        case rel => exact ⟨m + 1, by omega, by go_num, by rw [upTo_succ, HL.out m, HN.out]; exact (HG.out.put m _ (Sp.and_lt _ _ hE)).of_block rfl, by first | exact (HO.out.trans (Only.set b m wr _)).drawn | exact HO.out.trans (Only.set b m wr _)⟩
        case measure => simp [intOf]; omega
    · have HM := hid (show m = 62 by omega)
      have HG := hid hg
      have HO := hid ho
      clear hg ho
      go_wp2_with fail
      go_end0
      exact ⟨rfl, HG.out.congr (fun j hj => by unfold upTo; rw [if_pos (by have := HM.out; omega)]), HO.out⟩

set_option maxRecDepth 20000 in
set_option maxHeartbeats 1000000 in
theorem copyReg_any (b : Nat) (E : Nat → Nat) (d x : Int) (w : World) (h : PrAt w b E) :
    Calls Tryd.prog 93 #[.pointer (some ⟨b, 0, none⟩), .int .i64 d, .int .i64 x] w fun e w' => e = .returned (.tuple #[]) ∧ PrAt w' b (Sp.copyReg E d x) ∧ Only b w w' := by
  by_cases hdx : d = x
  · have t : Sp.copyReg E d x = E := by unfold Sp.copyReg; rw [if_pos hdx]
    have HP := hid h
    have ht : (d == x) = true := by simp [hdx]
    clear h hdx
    go_enter Tryd.func93, Tryd.ntmps93
    go_wp2_with fail
    refine bodyPost_ret (v := .tuple #[]) (by simp [results, Tryd.results93]) rfl ⟨rfl, by rw [t]; exact HP.out, Only.refl _ _⟩
  · have t : Sp.copyReg E d x = Sp.gainP (Sp.loseP E d) d x := by unfold Sp.copyReg; rw [if_neg hdx]
    have HL := hid (loseP_any b E d w h)
    have HB := hid (Sp.bitN_lt d)
    have H2 := hid (bit_any d)
    have HF := hid (Sp.loseP_small h.small d)
    have ht : (d == x) = false := by simp [hdx]
    clear h hdx
    generalize Sp.loseP E d = F at *
    have HL2 := hid (show ∀ p : Nat, Sp.gainP F d x p = if Sp.hasP F x p = true then F p ||| Sp.bitN d else F p from fun _ => rfl)
    generalize hB : Sp.bitN d = B at *
    clear hB
    go_enter Tryd.func93, Tryd.ntmps93
    go_wp2_with (first | (go_at_call 96; refine HL.out.mono ?_; rintro e w1 ⟨rfl, hp1, ho1⟩; have HP1 := hid hp1; have HO1 := hid ho1; clear hp1 ho1) | (go_at_call 72; refine (H2.out _).mono ?_; rintro e w' ⟨rfl, rfl⟩))
    go_loopw [7] (fun mv wr => ∃ m : Nat, m ≤ 62 ∧ mv = .int .i64 m ∧ PrAt wr b (upTo F (Sp.gainP F d x) m) ∧ Only b w wr) (fun mv _ => 62 - (intOf mv).toNat)
    case atStart => exact ⟨0, by omega, rfl, by rw [upTo_zero]; exact HP1.out, HO1.out⟩
    case round =>
      obtain ⟨m, hm, rfl, hg, ho⟩ := hrel
      by_cases hlt : m < 62
      · have HH := hid (hasP_any b _ x (m : Int) wr hg)
        have hcg : Sp.hasP (upTo F (Sp.gainP F d x) m) x (m : Int) = Sp.hasP F x (m : Int) := by unfold Sp.hasP; rw [Int.toNat_natCast, upTo_at]
        rw [hcg] at HH
        cases hh : Sp.hasP F x (m : Int)
        · have HN := hid (show Sp.gainP F d x m = F m by rw [HL2.out m, if_neg (by rw [hh]; simp)])
          rw [hh] at HH
          have HG := hid hg
          have HO := hid ho
          clear hg ho hcg hh
          go_wp2_with (go_at_call 100; refine HH.out.mono ?_; rintro e w' ⟨rfl, rfl⟩)
          go_roundw
          case rel => exact ⟨m + 1, by omega, by go_num, HG.out.congr (fun j hj => by rw [upTo_succ, HN.out]; show _ = if j = m then F m else _; by_cases hj2 : j = m; (rw [if_pos hj2, hj2, upTo_at]); (rw [if_neg hj2])), HO.out⟩
          case measure => simp [intOf]; omega
        · have c := World.rowIs.cell hg.row hlt
          have z := World.rowIs.frozen hg.row m
          rw [upTo_at] at c
          have hE : F m < 2 ^ 53 := HF.out m hlt
          have HN := hid (show Sp.gainP F d x m = F m ||| B by rw [HL2.out m, if_pos hh])
          have HM := hid (or_num (F m) B hE HB.out)
          rw [hh] at HH
          have HG := hid hg
          have HO := hid ho
          clear hg ho hcg hh
          go_wp2_with (go_at_call 100; refine HH.out.mono ?_; rintro e w' ⟨rfl, rfl⟩)
          go_region
          all_goals
            go_wp2_with fail
            go_roundw
            case rel => exact ⟨m + 1, by omega, by go_num, by rw [upTo_succ, HN.out, HM.out]; exact (HG.out.put m _ (Sp.or_lt _ _ hE HB.out)).of_block rfl, by first | exact (HO.out.trans (Only.set b m wr _)).drawn | exact HO.out.trans (Only.set b m wr _)⟩
            case measure => simp [intOf]; omega
      · have HM := hid (show m = 62 by omega)
        have HG := hid hg
        have HO := hid ho
        clear hg ho
        go_wp2_with fail
        go_end0
        exact ⟨rfl, by rw [t]; exact HG.out.congr (fun j hj => by unfold upTo; rw [if_pos (by have := HM.out; omega)]), HO.out⟩

set_option maxRecDepth 20000 in
set_option maxHeartbeats 1000000 in
theorem cleared_any (b : Nat) (E : Nat → Nat) (w : World) (h : PrAt w b E) :
    Calls Tryd.prog 97 #[.pointer (some ⟨b, 0, none⟩)] w fun e w' => e = .returned (.bool (Sp.clearedP E)) ∧ w = w' := by
  have HP := hid h
  have HH := hid (fun p => hasP_any b E 52 p w h)
  clear h
  go_enter Tryd.func97, Tryd.ntmps97
  go_wp2_with fail
  go_loopw [3, 2] (fun mv rv wr => ∃ m : Nat, 1 ≤ m ∧ m ≤ 62 ∧ mv = .int .i64 m ∧ rv = .bool false ∧ (∀ p : Nat, p + 1 < m → Sp.hasP E 52 ((p : Int) + 1) = true) ∧ w = wr) (fun mv _ _ => 62 - (intOf mv).toNat)
  case atStart => exact ⟨1, by omega, by omega, rfl, rfl, fun p hp => by omega, rfl⟩
  case round =>
    obtain ⟨m, hm0, hm, rfl, rfl, ha, rfl⟩ := hrel
    have HA := hid ha
    clear ha
    by_cases hlt : m < 62
    · cases hh : Sp.hasP E 52 (m : Int)
      · have HF := hid (show Sp.clearedP E = false by
          unfold Sp.clearedP
          rw [List.all_eq_false]
          exact ⟨m - 1, List.mem_range.mpr (by omega), by rw [show ((m - 1 : Nat) : Int) + 1 = (m : Int) by omega, hh]; simp⟩)
        have HH1 := hid (HH.out (m : Int))
        rw [hh] at HH1
        clear hh
        go_wp2_with (go_at_call 100; refine HH1.out.mono ?_; rintro e w' ⟨rfl, rfl⟩)
        go_ret
        rw [HF.out]
        exact ⟨rfl, rfl⟩
      · have HH1 := hid (HH.out (m : Int))
        rw [hh] at HH1
        have HS := hid hh
        clear hh
        go_wp2_with (go_at_call 100; refine HH1.out.mono ?_; rintro e w' ⟨rfl, rfl⟩)
        go_roundw
        case rel => exact ⟨m + 1, by omega, by omega, by go_num, rfl, fun p hp => by
          by_cases h2 : p + 1 < m
          · exact HA.out p h2
          · have h3 : ((p : Int) + 1) = (m : Int) := by omega
            rw [h3]; exact HS.out, trivial⟩
        case measure => simp [intOf]; omega
    · have HF := hid (show Sp.clearedP E = true by
        unfold Sp.clearedP
        rw [List.all_eq_true]
        intro p hp
        exact HA.out p (by have := List.mem_range.mp hp; omega))
      go_wp2_with fail
      go_ret
      rw [HF.out]
      exact ⟨rfl, rfl⟩

set_option maxRecDepth 20000 in
set_option maxHeartbeats 1000000 in
/-- pairs met with others that lie elsewhere, where they stand within a longer row -/
theorem meet_any (b o ob t n : Nat) (f : Nat → Value) (E F : Nat → Nat) (w : World) (h : w.rowIs b t n f) (ho : o + 62 ≤ n) (hf : ∀ p, p < 62 → f (o + p) = .int .u64 (E p : Nat)) (hE : Sp.Small E) (hF : PrAt w ob F) (hne : ob ≠ b) :
    Calls Tryd.prog 50 #[.pointer (some ⟨b, o, none⟩), .pointer (some ⟨ob, 0, none⟩)] w fun e w' => e = .returned (.tuple #[]) ∧ w'.rowIs b t n (fun j => if o ≤ j ∧ j < o + 62 then .int .u64 (Sp.meetP E F (j - o) : Nat) else f j) ∧ Only b w w' := by
  have HR := hid h
  have HF := hid hF
  have HFE := hid hf
  have HS := hid hE
  clear h hF hf hE
  go_enter Tryd.func50, Tryd.ntmps50
  go_wp2_with fail
  go_loopw [4] (fun mv wr => ∃ m : Nat, m ≤ 62 ∧ mv = .int .i64 m ∧ wr.rowIs b t n (fun j => if o ≤ j ∧ j < o + m then .int .u64 (Sp.meetP E F (j - o) : Nat) else f j) ∧ Only b w wr) (fun mv _ => 62 - (intOf mv).toNat)
  case atStart => exact ⟨0, by omega, rfl, World.rowIs.congr HR.out (fun j hj => by rw [if_neg (by omega)]), Only.refl _ _⟩
  case round =>
    obtain ⟨m, hm, rfl, hg, ho2⟩ := hrel
    by_cases hlt : m < 62
    · have c := World.rowIs.cell hg (i := o + m) (by omega)
      have z := World.rowIs.frozen hg (o + m)
      simp only [if_neg (show ¬ (o ≤ o + m ∧ o + m < o + m) by omega)] at c
      rw [HFE.out m hlt] at c
      have c2 := World.rowIs.cell (HF.out.of_block (ho2.block ob hne)).row hlt
      have hE : E m < 2 ^ 53 := HS.out m hlt
      have HM := hid (and_num (E m) (F m) hE (HF.out.small m hlt))
      have HG := hid hg
      have HO := hid ho2
      clear hg ho2
      go_wp2_with fail
      go_region
      all_goals
        go_wp2_with fail
        go_roundw
        case rel => exact ⟨m + 1, by omega, by go_num, by
          rw [HM.out]
          refine World.rowIs.congr (World.rowIs.of_block (World.rowIs.set HG.out (o + m) (.int .u64 ((E m &&& F m : Nat) : Int))) rfl) (fun j hj => ?_)
          by_cases hj2 : j = o + m
          · rw [if_pos hj2, hj2, if_pos ⟨by omega, by omega⟩, show o + m - o = m by omega]; rfl
          · rw [if_neg hj2]
            by_cases hj3 : o ≤ j ∧ j < o + m
            · rw [if_pos hj3, if_pos ⟨hj3.1, by omega⟩]
            · rw [if_neg hj3, if_neg (by omega)], by first | exact (HO.out.trans (Only.set b (o + m) wr _)).drawn | exact HO.out.trans (Only.set b (o + m) wr _)⟩
        case measure => simp [intOf]; omega
    · have HM := hid (show m = 62 by omega)
      have HG := hid hg
      have HO := hid ho2
      clear hg ho2
      go_wp2_with fail
      go_end0
      exact ⟨rfl, by have := HG.out; rw [HM.out] at this; exact this, HO.out⟩
end Go.Proofs.YtccndnckceagfabDoor

namespace Go.Proofs.YtccndnckceagfabDoor.Sp

def isMv (o : Int) : Bool := o == 61 || o == 62 || o == 60 || o == 126
def moveP (E : Nat → Nat) (i : Ins) : Nat → Nat := if i.o = 126 then setP E 52 i.d else copyPl E i.d i.x
def mayRd (E : Nat → Nat) (r p : Int) : Bool := if r = -1 then p == -1 else hasP E r p
def sameOp (j i : Ins) : Bool := i.o == j.o && i.n == j.n && i.k == j.k && i.m == j.m
def wroteP (E : Nat → Nat) (j i : Ins) : Nat → Nat := if j.d = -1 then E else setP (loseP E j.d) j.d i.d
def followP (E : Nat → Nat) (j i : Ins) : Bool := sameOp j i && mayRd E j.x i.x && mayRd E j.y i.y && (i.o != 114 || clearedP (wroteP E j i))
theorem moveP_small {E : Nat → Nat} (h : Small E) (i : Ins) : Small (moveP E i) := by
  unfold moveP
  split
  · exact setP_small h _ _
  · exact copyPl_small h _ _
end Go.Proofs.YtccndnckceagfabDoor.Sp

namespace Go.Proofs.YtccndnckceagfabDoor
open Go.RowKit

theorem Only.toBut {b B : Nat} {w w' : World} (h : Only b w w') : But B b w w' := ⟨h.os, h.tape, h.output, by rw [h.size]; exact Nat.le_refl _, fun k _ hk => h.block k hk⟩
theorem But.weaken {B B' b : Nat} {w w' : World} (h : But B b w w') (hB : B' ≤ B) : But B' b w w' := ⟨h.os, h.tape, h.output, h.size, fun k hk hne => h.block k (by omega) hne⟩
theorem But.toDrew {B p : Nat} {u v : World} (h : But B p u v) : But B p u v.drew := ⟨h.os, h.tape, h.output, h.size, h.block⟩
/-- the programs lie as they lay, where pairs alone have turned -/
theorem ProgAt.but {w w' : World} {B b p : Nat} {E : Nat → Nat} {C : List Sp.Ins} {L : List (Nat × Nat)} (h : ProgAt w B p C L) (hS : PrAt w b E) (f : But w.heap.size b w w') : ProgAt w' B p C L := by
  obtain ⟨vC, vB, h1, h2, h3, h4⟩ := h
  obtain ⟨c, hc, _⟩ := hS.row
  refine ⟨vC, vB, h1.of_block (f.block _ h1.lt ?_), own_move h2 (fun k hk => f.block k (h2.lt k hk).2 ?_), own_move h3 (fun k hk => f.block k (h3.lt k hk).2 ?_), h4⟩
  · rintro rfl
    obtain ⟨c', h5, _⟩ := h1
    rw [hc] at h5
    simp only [Option.some.injEq, Obj.cells.injEq] at h5
    exact absurd h5.2.1 (by decide)
  · rintro rfl
    obtain ⟨c', h5⟩ := own_block h2 hk
    rw [hc] at h5
    simp only [Option.some.injEq, Obj.cells.injEq] at h5
    exact absurd h5.2.1 (by decide)
  · rintro rfl
    obtain ⟨c', h5⟩ := own_block h3 hk
    rw [hc] at h5
    simp only [Option.some.injEq, Obj.cells.injEq] at h5
    exact absurd h5.2.1 (by decide)

theorem isMove_any (o d x y n k m : Int) (w : World) : Calls Tryd.prog 74 #[.agg #[.int .u8 o, .int .i64 d, .int .i64 x, .int .i64 y, .int .i64 n, .int .i64 k, .int .i64 m]] w fun e w' => e = .returned (.bool (Sp.isMv o)) ∧ Below w.heap.size w w' := by
  have HB0 := hid (show Below w.heap.size w (w.alloc (.cells #[.int .u8 o, .int .i64 d, .int .i64 x, .int .i64 y, .int .i64 n, .int .i64 k, .int .i64 m] 90)) from (Below.refl _ _).alloc (Nat.le_refl _) _)
  obtain ⟨c0, _⟩ := row_cells (row_new w o d x y n k m 90)
  by_cases h1 : o = 61
  · have t1 : (o == 61) = true := by simp [h1]
    have HT := hid (show Sp.isMv o = true by unfold Sp.isMv; rw [t1]; rfl)
    clear h1
    go_enter Tryd.func74, Tryd.ntmps74
    go_wp2_with fail
    go_ret
    exact ⟨by rw [HT.out]; rfl, HB0.out⟩
  · have t1 : (o == 61) = false := by simp [h1]
    clear h1
    by_cases h2 : o = 62
    · have t2 : (o == 62) = true := by simp [h2]
      have HT := hid (show Sp.isMv o = true by unfold Sp.isMv; rw [t1, t2]; rfl)
      clear h2
      go_enter Tryd.func74, Tryd.ntmps74
      go_wp2_with fail
      go_ret
      exact ⟨by rw [HT.out]; rfl, HB0.out⟩
    · have t2 : (o == 62) = false := by simp [h2]
      clear h2
      by_cases h3 : o = 60
      · have t3 : (o == 60) = true := by simp [h3]
        have HT := hid (show Sp.isMv o = true by unfold Sp.isMv; rw [t1, t2, t3]; rfl)
        clear h3
        go_enter Tryd.func74, Tryd.ntmps74
        go_wp2_with fail
        go_ret
        exact ⟨by rw [HT.out]; rfl, HB0.out⟩
      · have t3 : (o == 60) = false := by simp [h3]
        have HT := hid (show Sp.isMv o = (o == 126) by unfold Sp.isMv; rw [t1, t2, t3]; rfl)
        clear h3
        go_enter Tryd.func74, Tryd.ntmps74
        go_wp2_with fail
        go_ret
        exact ⟨by rw [HT.out]; rfl, HB0.out⟩

set_option maxRecDepth 20000 in
set_option maxHeartbeats 1000000 in
theorem move_any (b : Nat) (E : Nat → Nat) (o d x y n k m : Int) (w : World) (h : PrAt w b E) :
    Calls Tryd.prog 75 #[.pointer (some ⟨b, 0, none⟩), .agg #[.int .u8 o, .int .i64 d, .int .i64 x, .int .i64 y, .int .i64 n, .int .i64 k, .int .i64 m]] w fun e w' => e = .returned (.tuple #[]) ∧ PrAt w' b (Sp.moveP E ⟨o, d, x, y, n, k, m⟩) ∧ But w.heap.size b w w' := by
  have HB0 := hid (show Below w.heap.size w (w.alloc (.cells #[.int .u8 o, .int .i64 d, .int .i64 x, .int .i64 y, .int .i64 n, .int .i64 k, .int .i64 m] 90)) from (Below.refl _ _).alloc (Nat.le_refl _) _)
  have HP := hid (h.of_block (HB0.out.block b h.lt))
  obtain ⟨c0, c1, c2, _⟩ := row_cells (row_new w o d x y n k m 90)
  clear h
  by_cases h1 : o = 126
  · have t1 : (o == 126) = true := by simp [h1]
    have HT := hid (show Sp.moveP E ⟨o, d, x, y, n, k, m⟩ = Sp.setP E 52 d by unfold Sp.moveP; rw [if_pos h1])
    clear h1
    go_enter Tryd.func75, Tryd.ntmps75
    go_wp2_with (go_at_call 49; refine (setP_any b E 52 d _ HP.out).mono ?_; rintro e w1 ⟨rfl, hp1, ho1⟩; have HP1 := hid hp1; have HO1 := hid ho1; clear hp1 ho1)
    refine bodyPost_ret (v := .tuple #[]) (by simp [results, Tryd.results75]) rfl ⟨rfl, by rw [HT.out]; exact HP1.out, (But.of_below HB0.out).trans HO1.out.toBut⟩
  · have t1 : (o == 126) = false := by simp [h1]
    have HT := hid (show Sp.moveP E ⟨o, d, x, y, n, k, m⟩ = Sp.copyPl E d x by unfold Sp.moveP; rw [if_neg h1])
    clear h1
    go_enter Tryd.func75, Tryd.ntmps75
    go_wp2_with (go_at_call 94; refine (copyPl_any b E d x _ HP.out).mono ?_; rintro e w1 ⟨rfl, hp1, ho1⟩; have HP1 := hid hp1; have HO1 := hid ho1; clear hp1 ho1)
    go_end0
    exact ⟨rfl, by rw [HT.out]; exact HP1.out, (But.of_below HB0.out).trans HO1.out.toBut⟩

theorem mayRd_any (b : Nat) (E : Nat → Nat) (r p : Int) (w : World) (h : PrAt w b E) :
    Calls Tryd.prog 95 #[.pointer (some ⟨b, 0, none⟩), .int .i64 r, .int .i64 p] w fun e w' => e = .returned (.bool (Sp.mayRd E r p)) ∧ w = w' := by
  have HH := hid (hasP_any b E r p w h)
  clear h
  by_cases h1 : r = -1
  · have t1 : (r == -1) = true := by simp [h1]
    have HT := hid (show Sp.mayRd E r p = (p == -1) by unfold Sp.mayRd; rw [if_pos h1])
    clear h1
    go_enter Tryd.func95, Tryd.ntmps95
    go_wp2_with fail
    go_ret
    exact ⟨by rw [HT.out]; rfl, rfl⟩
  · have t1 : (r == -1) = false := by simp [h1]
    have HT := hid (show Sp.mayRd E r p = Sp.hasP E r p by unfold Sp.mayRd; rw [if_neg h1])
    clear h1
    go_enter Tryd.func95, Tryd.ntmps95
    go_wp2_with (go_at_call 100; refine HH.out.mono ?_; rintro e w' ⟨rfl, rfl⟩)
    go_ret
    exact ⟨by rw [HT.out]; rfl, rfl⟩

/-- what follow leaves -/
def FolPost (b : Nat) (E : Nat → Nat) (j i : Sp.Ins) (w : World) (e : Ending) (w' : World) : Prop :=
  e = .returned (.bool (Sp.followP E j i)) ∧ (Sp.followP E j i = true → PrAt w' b (Sp.wroteP E j i)) ∧ But w.heap.size b w w'
theorem folPost_no {b : Nat} {E : Nat → Nat} {j i : Sp.Ins} {w w' : World} {e : Ending} (h : Sp.followP E j i = false) (he : e = .returned (.bool false)) (hb : But w.heap.size b w w') : FolPost b E j i w e w' :=
  ⟨by rw [h]; exact he, fun h' => by rw [h] at h'; simp at h', hb⟩

set_option maxRecDepth 20000 in
set_option maxHeartbeats 4000000 in
theorem follow_any (b : Nat) (E : Nat → Nat) (jo jd jx jy jn jk jm io id ix iy iN ik im : Int) (w : World) (h : PrAt w b E) :
    Calls Tryd.prog 76 #[.pointer (some ⟨b, 0, none⟩), .agg #[.int .u8 jo, .int .i64 jd, .int .i64 jx, .int .i64 jy, .int .i64 jn, .int .i64 jk, .int .i64 jm], .agg #[.int .u8 io, .int .i64 id, .int .i64 ix, .int .i64 iy, .int .i64 iN, .int .i64 ik, .int .i64 im]] w fun e w' => FolPost b E ⟨jo, jd, jx, jy, jn, jk, jm⟩ ⟨io, id, ix, iy, iN, ik, im⟩ w e w' := by
  have hlt := h.lt
  have hsz1 : (w.alloc (.cells #[.int .u8 jo, .int .i64 jd, .int .i64 jx, .int .i64 jy, .int .i64 jn, .int .i64 jk, .int .i64 jm] 90)).heap.size = w.heap.size + 1 := by simp
  have r1 := row_new w jo jd jx jy jn jk jm 90
  have r2 := row_new (w.alloc (.cells #[.int .u8 jo, .int .i64 jd, .int .i64 jx, .int .i64 jy, .int .i64 jn, .int .i64 jk, .int .i64 jm] 90)) io id ix iy iN ik im 90
  rw [hsz1] at r2
  have hb0 : Below w.heap.size w (w.alloc (.cells #[.int .u8 jo, .int .i64 jd, .int .i64 jx, .int .i64 jy, .int .i64 jn, .int .i64 jk, .int .i64 jm] 90)) := (Below.refl _ _).alloc (Nat.le_refl _) _
  have hb1 : Below (w.alloc (.cells #[.int .u8 jo, .int .i64 jd, .int .i64 jx, .int .i64 jy, .int .i64 jn, .int .i64 jk, .int .i64 jm] 90)).heap.size (w.alloc (.cells #[.int .u8 jo, .int .i64 jd, .int .i64 jx, .int .i64 jy, .int .i64 jn, .int .i64 jk, .int .i64 jm] 90)) ((w.alloc (.cells #[.int .u8 jo, .int .i64 jd, .int .i64 jx, .int .i64 jy, .int .i64 jn, .int .i64 jk, .int .i64 jm] 90)).alloc (.cells #[.int .u8 io, .int .i64 id, .int .i64 ix, .int .i64 iy, .int .i64 iN, .int .i64 ik, .int .i64 im] 90)) := (Below.refl _ _).alloc (Nat.le_refl _) _
  replace r1 := r1.of_block (hb1.block _ (by rw [hsz1]; omega))
  have HB := hid (hb0.trans (hb1.mono (by rw [hsz1]; omega)))
  have HP := hid (h.of_block (HB.out.block b hlt))
  obtain ⟨a0, a1, a2, a3, a4, a5, a6⟩ := row_cells r1
  obtain ⟨b0, b1, b2, b3, b4, b5, b6⟩ := row_cells r2
  have HR1 := hid r1
  have HR2 := hid r2
  clear h hb0 hb1 r1 r2
  by_cases h1 : io = jo
  case neg =>
    have t1 : (io != jo) = true := by simp [h1]
    have HF := hid (show Sp.followP E ⟨jo, jd, jx, jy, jn, jk, jm⟩ ⟨io, id, ix, iy, iN, ik, im⟩ = false by unfold Sp.followP Sp.sameOp; simp [h1])
    clear h1
    go_enter Tryd.func76, Tryd.ntmps76
    go_wp2_with fail
    go_ret
    exact folPost_no HF.out rfl (But.of_below HB.out)
  case pos =>
  have t1 : (io != jo) = false := by simp [h1]
  by_cases h2 : iN = jn
  case neg =>
    have t2 : (iN != jn) = true := by simp [h2]
    have HF := hid (show Sp.followP E ⟨jo, jd, jx, jy, jn, jk, jm⟩ ⟨io, id, ix, iy, iN, ik, im⟩ = false by unfold Sp.followP Sp.sameOp; simp [h2])
    clear h1 h2
    go_enter Tryd.func76, Tryd.ntmps76
    go_wp2_with fail
    go_ret
    exact folPost_no HF.out rfl (But.of_below HB.out)
  case pos =>
  have t2 : (iN != jn) = false := by simp [h2]
  by_cases h3 : ik = jk
  case neg =>
    have t3 : (ik != jk) = true := by simp [h3]
    have HF := hid (show Sp.followP E ⟨jo, jd, jx, jy, jn, jk, jm⟩ ⟨io, id, ix, iy, iN, ik, im⟩ = false by unfold Sp.followP Sp.sameOp; simp [h3])
    clear h1 h2 h3
    go_enter Tryd.func76, Tryd.ntmps76
    go_wp2_with fail
    go_ret
    exact folPost_no HF.out rfl (But.of_below HB.out)
  case pos =>
  have t3 : (ik != jk) = false := by simp [h3]
  by_cases h4 : im = jm
  case neg =>
    have t4 : (im != jm) = true := by simp [h4]
    have HF := hid (show Sp.followP E ⟨jo, jd, jx, jy, jn, jk, jm⟩ ⟨io, id, ix, iy, iN, ik, im⟩ = false by unfold Sp.followP Sp.sameOp; simp [h4])
    clear h1 h2 h3 h4
    go_enter Tryd.func76, Tryd.ntmps76
    go_wp2_with fail
    go_ret
    exact folPost_no HF.out rfl (But.of_below HB.out)
  case pos =>
  have t4 : (im != jm) = false := by simp [h4]
  have HS := hid (show Sp.followP E ⟨jo, jd, jx, jy, jn, jk, jm⟩ ⟨io, id, ix, iy, iN, ik, im⟩ = (Sp.mayRd E jx ix && Sp.mayRd E jy iy && (io != 114 || Sp.clearedP (Sp.wroteP E ⟨jo, jd, jx, jy, jn, jk, jm⟩ ⟨io, id, ix, iy, iN, ik, im⟩))) by unfold Sp.followP Sp.sameOp; simp [h1, h2, h3, h4])
  clear h1 h2 h3 h4
  cases hx : Sp.mayRd E jx ix
  · rw [hx] at HS
    have HX := hid hx
    clear hx
    go_enter Tryd.func76, Tryd.ntmps76
    go_wp2_with (go_at_call_of 95 jx; refine (mayRd_any b E jx ix _ HP.out).mono ?_; rw [HX.out]; rintro e w' ⟨rfl, rfl⟩)
    go_ret
    exact folPost_no (by rw [HS.out]; rfl) rfl (But.of_below HB.out)
  cases hy : Sp.mayRd E jy iy
  · rw [hx, hy] at HS
    have HX := hid hx
    have HY := hid hy
    clear hx hy
    go_enter Tryd.func76, Tryd.ntmps76
    go_wp2_with (first | (go_at_call_of 95 jx; refine (mayRd_any b E jx ix _ HP.out).mono ?_; rw [HX.out]; rintro e w' ⟨rfl, rfl⟩) | (go_at_call_of 95 jy; refine (mayRd_any b E jy iy _ HP.out).mono ?_; rw [HY.out]; rintro e w' ⟨rfl, rfl⟩))
    go_ret
    exact folPost_no (by rw [HS.out]; rfl) rfl (But.of_below HB.out)
  rw [hx, hy] at HS
  have HX := hid hx
  have HY := hid hy
  clear hx hy
  by_cases hd : jd = -1
  · have td : (jd != -1) = false := by simp [hd]
    have HW := hid (show Sp.wroteP E ⟨jo, jd, jx, jy, jn, jk, jm⟩ ⟨io, id, ix, iy, iN, ik, im⟩ = E by unfold Sp.wroteP; rw [if_pos hd])
    rw [HW.out] at HS
    clear hd
    by_cases hr : io = 114
    · have tr : (io != 114) = false := by simp [hr]
      have HS2 := hid (show Sp.followP E ⟨jo, jd, jx, jy, jn, jk, jm⟩ ⟨io, id, ix, iy, iN, ik, im⟩ = Sp.clearedP E by rw [HS.out, tr]; simp)
      clear hr HS
      go_enter Tryd.func76, Tryd.ntmps76
      go_wp2_with (first | (go_at_call_of 95 jx; refine (mayRd_any b E jx ix _ HP.out).mono ?_; rw [HX.out]; rintro e w' ⟨rfl, rfl⟩) | (go_at_call_of 95 jy; refine (mayRd_any b E jy iy _ HP.out).mono ?_; rw [HY.out]; rintro e w' ⟨rfl, rfl⟩) | (go_at_call 97; refine (cleared_any b E _ HP.out).mono ?_; rintro e w' ⟨rfl, rfl⟩))
      go_ret
      exact ⟨by rw [HS2.out]; rfl, fun _ => by rw [HW.out]; exact HP.out, But.of_below HB.out⟩
    · have tr : (io != 114) = true := by simp [hr]
      have HS2 := hid (show Sp.followP E ⟨jo, jd, jx, jy, jn, jk, jm⟩ ⟨io, id, ix, iy, iN, ik, im⟩ = true by rw [HS.out, tr]; simp)
      clear hr HS
      go_enter Tryd.func76, Tryd.ntmps76
      go_wp2_with (first | (go_at_call_of 95 jx; refine (mayRd_any b E jx ix _ HP.out).mono ?_; rw [HX.out]; rintro e w' ⟨rfl, rfl⟩) | (go_at_call_of 95 jy; refine (mayRd_any b E jy iy _ HP.out).mono ?_; rw [HY.out]; rintro e w' ⟨rfl, rfl⟩))
      go_ret
      exact ⟨by rw [HS2.out]; rfl, fun _ => by rw [HW.out]; exact HP.out, But.of_below HB.out⟩
  · have td : (jd != -1) = true := by simp [hd]
    have HW := hid (show Sp.wroteP E ⟨jo, jd, jx, jy, jn, jk, jm⟩ ⟨io, id, ix, iy, iN, ik, im⟩ = Sp.setP (Sp.loseP E jd) jd id by unfold Sp.wroteP; rw [if_neg hd])
    rw [HW.out] at HS
    clear hd
    go_enter Tryd.func76, Tryd.ntmps76
    go_upto_region 7 with (first | (go_at_call_of 95 jx; refine (mayRd_any b E jx ix _ HP.out).mono ?_; rw [HX.out]; rintro e w' ⟨rfl, rfl⟩) | (go_at_call_of 95 jy; refine (mayRd_any b E jy iy _ HP.out).mono ?_; rw [HY.out]; rintro e w' ⟨rfl, rfl⟩) | (go_at_call 96; refine (loseP_any b E jd _ HP.out).mono ?_; rintro e w1 ⟨rfl, hp1, ho1⟩; have HP1 := hid hp1; have HO1 := hid ho1; clear hp1 ho1))
    have hne1 : w.heap.size ≠ b := by omega
    have hne2 : w.heap.size + 1 ≠ b := by omega
    clear a0 a1 a2 a3 a4 a5 a6 b0 b1 b2 b3 b4 b5 b6
    obtain ⟨a0, a1, a2, a3, a4, a5, a6⟩ := row_cells (HR1.out.of_block (HO1.out.block _ hne1))
    obtain ⟨b0, b1, b2, b3, b4, b5, b6⟩ := row_cells (HR2.out.of_block (HO1.out.block _ hne2))
    have HR3 := hid (HR1.out.of_block (HO1.out.block _ hne1))
    have HR4 := hid (HR2.out.of_block (HO1.out.block _ hne2))
    go_upto_region 8 with (go_at_call 49; refine (setP_any b _ jd id _ HP1.out).mono ?_; rintro e w2 ⟨rfl, hp2, ho2⟩; have HP2 := hid hp2; have HO2 := hid ho2; clear hp2 ho2)
    clear a0 a1 a2 a3 a4 a5 a6 b0 b1 b2 b3 b4 b5 b6
    obtain ⟨b0, b1, b2, b3, b4, b5, b6⟩ := row_cells (HR4.out.of_block (HO2.out.block _ hne2))
    have HBB := hid (((But.of_below (p := b) HB.out).trans HO1.out.toBut).trans HO2.out.toBut)
    by_cases hr : io = 114
    · have tr : (io != 114) = false := by simp [hr]
      have HS2 := hid (show Sp.followP E ⟨jo, jd, jx, jy, jn, jk, jm⟩ ⟨io, id, ix, iy, iN, ik, im⟩ = Sp.clearedP (Sp.setP (Sp.loseP E jd) jd id) by rw [HS.out, tr]; simp)
      clear hr HS
      go_wp2_with (go_at_call 97; refine (cleared_any b _ _ HP2.out).mono ?_; rintro e w' ⟨rfl, rfl⟩)
      go_ret
      exact ⟨by rw [HS2.out]; rfl, fun _ => by rw [HW.out]; exact HP2.out, HBB.out⟩
    · have tr : (io != 114) = true := by simp [hr]
      have HS2 := hid (show Sp.followP E ⟨jo, jd, jx, jy, jn, jk, jm⟩ ⟨io, id, ix, iy, iN, ik, im⟩ = true by rw [HS.out, tr]; simp)
      clear hr HS
      go_wp2_with fail
      go_ret
      exact ⟨by rw [HS2.out]; rfl, fun _ => by rw [HW.out]; exact HP2.out, HBB.out⟩
end Go.Proofs.YtccndnckceagfabDoor
