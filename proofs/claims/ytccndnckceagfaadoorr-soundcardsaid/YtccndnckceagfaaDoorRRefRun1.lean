/-
  The document's own small functions of a run: values, digits, what an instruction makes of two values.
-/
import Derived.Test.YtccndnckceagfaaDoorRRefNext
import Derived.Lib.ItoaNum
namespace Go.Proofs.YtccndnckceagfaaDoorR
open Go.RowKit

theorem hidd {p : Prop} (h : p) : Hid p := h

namespace Sp
def valB (n : Int) : Bool := decide (0 ≤ n ∧ n ≤ 65535)
/-- bit by bit: the first k bits -/
def bitsTo (x y : Int) (only : Bool) : Nat → Int
  | 0 => 0
  | k + 1 => bitsTo x y only k + (if (!only && (x / 2 ^ k % 2 == 1) && (y / 2 ^ k % 2 == 1)) || (only && ((x / 2 ^ k % 2 == 1) != (y / 2 ^ k % 2 == 1))) then 2 ^ k else 0)
def cntS (o x y : Int) : Int :=
  if o = 43 then (x + y) % 65536
  else if o = 45 then (x - y + 65536) % 65536
  else if o = 42 then x * y % 65536
  else if o = 38 then bitsTo x y false 16
  else bitsTo x y true 16
end Sp

set_option maxHeartbeats 400000 in
theorem value_any (n : Int) (w : World) :
    Calls Tryd.prog 69 #[.int .i64 n] w fun e w' => e = .returned (.bool (Sp.valB n)) ∧ w = w' := by
  by_cases h1 : 0 ≤ n <;> by_cases h2 : n ≤ 65535
  all_goals
    go_enter Tryd.func69, Tryd.ntmps69
    go_wp2
    go_ret
    exact ⟨ret_bool (by simp [Sp.valB, h1, h2]), rfl⟩

theorem u8_of (v : Int) (h0 : 0 ≤ v) (h1 : v ≤ 255) : ((UInt8.ofNat v.toNat).toNat : Int) = v := by
  rw [UInt8.toNat_ofNat']
  omega
/-- 'string([]byte{v})', the byte's cell known -/
theorem conv_at (v : Int) (h0 : 0 ≤ v) (h1 : v ≤ 255) (W : World) (b : Nat) (hc : W.cell? ⟨b, 0, none⟩ = some (.int .u8 v)) : (convert 95 9 (.slice (some ⟨b, 0, none⟩) 1 1)).run Tryd.prog W = .ok (.string ⟨#[UInt8.ofNat v.toNat]⟩) W := by
  have := run_convert_bytes_back (P := Tryd.prog) W 95 9 5 ⟨b, 0, none⟩ 1 [UInt8.ofNat v.toNat] Tryd.underlying95 Tryd.underlying5 Tryd.underlying9 (fun j hj => by
    have hj0 : j = 0 := by simp at hj; exact hj
    subst hj0
    rw [show ((⟨b, 0, none⟩ : Addr).add 0) = ⟨b, 0, none⟩ from rfl, hc]
    exact congrArg (fun z => some (Value.int .u8 z)) (u8_of v h0 h1).symm)
  exact this
theorem below_of_drew {B : Nat} {w w' : World} (h : Below B w.drew w') : Below B w w' := ⟨h.os, h.tape, h.output, h.size, h.block⟩
theorem below_of_drew' {w w' : World} {X : Obj} (h : Below ((w.alloc X).drew).heap.size ((w.alloc X).drew) w') : Below w.heap.size (w.alloc X) w' := (below_of_drew h).mono (by simp)
theorem bcell {W w1 : World} (hb : Below W.heap.size W w1) : (∀ b o, b < W.heap.size → w1.cell? ⟨b, o, none⟩ = W.cell? ⟨b, o, none⟩) ∧ (∀ b o, b < W.heap.size → w1.frozen? ⟨b, o, none⟩ = W.frozen? ⟨b, o, none⟩) :=
  ⟨fun b o h => hb.cell (p := ⟨b, o, none⟩) h, fun b o h => hb.frozen (p := ⟨b, o, none⟩) h⟩

theorem dec_len (k : Nat) : ∀ n, n < 10 ^ (k + 1) → (Lib.decDigits n).length ≤ k + 1 := by
  induction k with
  | zero => intro n h; rw [Lib.decDigits_one (by simpa using h)]; simp
  | succ k ih =>
    intro n h
    by_cases h10 : n < 10
    · rw [Lib.decDigits_one h10]; simp
    · rw [Lib.decDigits, dif_neg h10, List.length_append]
      have := ih (n / 10) (by rw [Nat.pow_succ] at h; omega)
      simp
      omega
theorem dec_len7 (n : Nat) (h : n ≤ 1000000) : (Lib.decDigits n).length ≤ 7 := dec_len 6 n (by omega)

set_option maxRecDepth 20000 in
set_option maxHeartbeats 1000000 in
theorem decimal_small (n : Nat) (w : World) (h : n < 10) :
    Calls Tryd.prog 118 #[.int .i64 n] w fun e w' => e = .returned (.string ⟨(Lib.decDigits n).toArray⟩) ∧ Below w.heap.size w w' := by
  have HD := hidd (Lib.decDigits_one h)
  have hcv := conv_at (48 + n) (by omega) (by omega)
  go_enter Tryd.func118, Tryd.ntmps118
  go_wp2_with fail
  go_ret
  refine ⟨ret_str ?_, (Below.refl _ _).alloc (Nat.le_refl _) _⟩
  rw [HD.out]

set_option maxRecDepth 20000 in
set_option maxHeartbeats 1000000 in
theorem decimal_any (k : Nat) : ∀ (n : Nat) (w : World), n ≤ k → n ≤ 1000000 →
    Calls Tryd.prog 118 #[.int .i64 n] w fun e w' => e = .returned (.string ⟨(Lib.decDigits n).toArray⟩) ∧ Below w.heap.size w w' := by
  induction k with
  | zero => exact fun n w h _ => decimal_small n w (by omega)
  | succ k ih =>
    intro n w hk hn
    by_cases h10 : n < 10
    · exact decimal_small n w h10
    · obtain ⟨m, hm⟩ : ∃ m, n / 10 = m := ⟨_, rfl⟩
      obtain ⟨d, hd⟩ : ∃ d, n % 10 = d := ⟨_, rfl⟩
      have HD := hidd (show Lib.decDigits n = Lib.decDigits m ++ [UInt8.ofNat (48 + d)] by rw [Lib.decDigits, dif_neg h10, hm, hd])
      have IH := hidd (fun (w : World) => ih m w (by omega) (by omega))
      have hl7 := dec_len7 m (by omega)
      have hd9 : d ≤ 9 := by omega
      have hge : ¬ (n : Int) < 10 := by omega
      have e1 : (n : Int) / 10 = m := by omega
      have e2 : (n : Int).tmod 10 = d := by rw [Int.tmod_eq_emod_of_nonneg (by omega)]; omega
      have e3 : IntKind.i64.wrap (m : Int) = m := IntWalk.i64_in _ (by omega)
      have e4 : IntKind.i64.wrap (48 + (d : Int)) = 48 + d := IntWalk.i64_in _ (by omega)
      have e5 : IntKind.u8.wrap (48 + (d : Int)) = 48 + d := IntWalk.u8_in _ (by omega)
      have hcv := conv_at (48 + d) (by omega) (by omega)
      clear ih hm hd hk hn h10
      go_enter Tryd.func118, Tryd.ntmps118
      go_wp2_with fail
      go_region_with (go_at_call 118; refine (IH.out _).mono ?_; rintro e w1 ⟨rfl, hb1⟩; have hc1 := (bcell hb1).1; have hs1 := hb1.size; have HB1 := hidd hb1; clear hb1)
      all_goals
        go_wp2_with fail
        go_ret
        refine ⟨ret_str ?_, ?_⟩
        · rw [HD.out]
          apply ByteArray.ext
          simp
        · first | exact (below_of_drew HB1.out).alloc HB1.out.size _ | exact ((Below.refl _ _).alloc (Nat.le_refl _) _).trans (below_of_drew' HB1.out) | trace_state

theorem bits_bd (x y : Int) (only : Bool) (k : Nat) : 0 ≤ Sp.bitsTo x y only k ∧ Sp.bitsTo x y only k < 2 ^ k := by
  induction k with
  | zero => simp [Sp.bitsTo]
  | succ k ih =>
    simp only [Sp.bitsTo]
    have h2 : (2 : Int) ^ (k + 1) = 2 * 2 ^ k := by rw [Int.pow_succ]; omega
    rw [h2]
    split <;> omega
theorem pow_le16 (k : Nat) (h : k ≤ 16) : (1 : Int) ≤ 2 ^ k ∧ (2 : Int) ^ k ≤ 65536 := by
  have : k = 0 ∨ k = 1 ∨ k = 2 ∨ k = 3 ∨ k = 4 ∨ k = 5 ∨ k = 6 ∨ k = 7 ∨ k = 8 ∨ k = 9 ∨ k = 10 ∨ k = 11 ∨ k = 12 ∨ k = 13 ∨ k = 14 ∨ k = 15 ∨ k = 16 := by omega
  rcases this with rfl | rfl | rfl | rfl | rfl | rfl | rfl | rfl | rfl | rfl | rfl | rfl | rfl | rfl | rfl | rfl | rfl <;> decide
theorem pow_16 (k : Nat) (h : k ≤ 16) : ((2 : Int) ^ k ≤ 65535 ↔ k < 16) := by
  have : k = 0 ∨ k = 1 ∨ k = 2 ∨ k = 3 ∨ k = 4 ∨ k = 5 ∨ k = 6 ∨ k = 7 ∨ k = 8 ∨ k = 9 ∨ k = 10 ∨ k = 11 ∨ k = 12 ∨ k = 13 ∨ k = 14 ∨ k = 15 ∨ k = 16 := by omega
  rcases this with rfl | rfl | rfl | rfl | rfl | rfl | rfl | rfl | rfl | rfl | rfl | rfl | rfl | rfl | rfl | rfl | rfl <;> decide

set_option maxHeartbeats 2000000 in
theorem both_any (x y : Int) (only : Bool) (w : World) (x0 : 0 ≤ x) (x1 : x ≤ 65535) (y0 : 0 ≤ y) (y1 : y ≤ 65535) :
    Calls Tryd.prog 119 #[.int .i64 x, .int .i64 y, .bool only] w fun e w' => e = .returned (.int .i64 (Sp.bitsTo x y only 16)) ∧ w = w' := by
  cases only
  all_goals
    go_enter Tryd.func119, Tryd.ntmps119
    go_wp2_with fail
  · go_loop [7, 8] (fun nv bv => ∃ (k : Nat) (b n : Int), k ≤ 16 ∧ bv = .int .i64 b ∧ nv = .int .i64 n ∧ b = 2 ^ k ∧ n = Sp.bitsTo x y false k) (fun _ bv => (65536 - intOf bv).toNat)
    case atStart => exact ⟨0, 1, 0, by omega, rfl, rfl, rfl, rfl⟩
    case round =>
      obtain ⟨k, b, n, hk, rfl, rfl, hb, hn⟩ := hrel
      obtain ⟨p1, p2⟩ := pow_le16 k hk
      have p3 := pow_16 k hk
      obtain ⟨q1, q2⟩ := bits_bd x y false k
      rw [← hb] at p1 p2 p3 q2
      rw [← hn] at q1 q2
      have HN := hidd (show Sp.bitsTo x y false (k + 1) = n + (if (x / b % 2 == 1) && (y / b % 2 == 1) then b else 0) by simp only [Sp.bitsTo]; rw [← hb, ← hn]; simp)
      have HP := hidd (show (2 : Int) ^ (k + 1) = 2 * b by rw [Int.pow_succ, hb]; omega)
      have HH := hidd (And.intro hb hn)
      clear hb hn
      have t1 : (x / b).tmod 2 = x / b % 2 := Int.tmod_eq_emod_of_nonneg (Int.ediv_nonneg x0 (by omega))
      have t2 : (y / b).tmod 2 = y / b % 2 := Int.tmod_eq_emod_of_nonneg (Int.ediv_nonneg y0 (by omega))
      by_cases hlt : k < 16
      · have hle := p3.2 hlt
        clear p3
        cases ha : (x / b % 2 == 1) <;> cases hc : (y / b % 2 == 1)
        all_goals
          have HV := hidd (And.intro ha hc)
          go_wp2_with fail
          go_round
          case rel => exact ⟨k + 1, _, _, by omega, rfl, rfl, HP.out.symm, by rw [HN.out, HV.out.1, HV.out.2]; simp⟩
          case measure => simp [intOf]; omega
      · have hgt : ¬ b ≤ 65535 := fun h => hlt (p3.1 h)
        have HK := hidd (show k = 16 by omega)
        clear p3
        go_wp2_with fail
        go_ret
        exact ⟨ret_int (by rw [HH.out.2, HK.out]), rfl⟩
  · go_loop [7, 8] (fun nv bv => ∃ (k : Nat) (b n : Int), k ≤ 16 ∧ bv = .int .i64 b ∧ nv = .int .i64 n ∧ b = 2 ^ k ∧ n = Sp.bitsTo x y true k) (fun _ bv => (65536 - intOf bv).toNat)
    case atStart => exact ⟨0, 1, 0, by omega, rfl, rfl, rfl, rfl⟩
    case round =>
      obtain ⟨k, b, n, hk, rfl, rfl, hb, hn⟩ := hrel
      obtain ⟨p1, p2⟩ := pow_le16 k hk
      have p3 := pow_16 k hk
      obtain ⟨q1, q2⟩ := bits_bd x y true k
      rw [← hb] at p1 p2 p3 q2
      rw [← hn] at q1 q2
      have HN := hidd (show Sp.bitsTo x y true (k + 1) = n + (if (x / b % 2 == 1) != (y / b % 2 == 1) then b else 0) by simp only [Sp.bitsTo]; rw [← hb, ← hn]; simp)
      have HP := hidd (show (2 : Int) ^ (k + 1) = 2 * b by rw [Int.pow_succ, hb]; omega)
      have HH := hidd (And.intro hb hn)
      clear hb hn
      have t1 : (x / b).tmod 2 = x / b % 2 := Int.tmod_eq_emod_of_nonneg (Int.ediv_nonneg x0 (by omega))
      have t2 : (y / b).tmod 2 = y / b % 2 := Int.tmod_eq_emod_of_nonneg (Int.ediv_nonneg y0 (by omega))
      by_cases hlt : k < 16
      · have hle := p3.2 hlt
        clear p3
        cases ha : (x / b % 2 == 1) <;> cases hc : (y / b % 2 == 1)
        all_goals
          have HV := hidd (And.intro ha hc)
          go_wp2_with fail
          go_round
          case rel => exact ⟨k + 1, _, _, by omega, rfl, rfl, HP.out.symm, by rw [HN.out, HV.out.1, HV.out.2]; simp⟩
          case measure => simp [intOf]; omega
      · have hgt : ¬ b ≤ 65535 := fun h => hlt (p3.1 h)
        have HK := hidd (show k = 16 by omega)
        clear p3
        go_wp2_with fail
        go_ret
        exact ⟨ret_int (by rw [HH.out.2, HK.out]), rfl⟩

set_option maxHeartbeats 2000000 in
theorem counted_any (o x y : Int) (w : World) (x0 : 0 ≤ x) (x1 : x ≤ 65535) (y0 : 0 ≤ y) (y1 : y ≤ 65535) :
    Calls Tryd.prog 98 #[.int .u8 o, .int .i64 x, .int .i64 y] w fun e w' => e = .returned (.int .i64 (Sp.cntS o x y)) ∧ w = w' := by
  have hm : 0 ≤ x * y ∧ x * y ≤ 65535 * 65535 := ⟨Int.mul_nonneg x0 y0, Int.mul_le_mul x1 y1 y0 (by omega)⟩
  go_enter Tryd.func98, Tryd.ntmps98
  go_wp2_with (go_at_call 119; refine (both_any _ _ _ _ x0 x1 y0 y1).mono ?_; rintro e w' ⟨rfl, rfl⟩)
  all_goals
    go_ret
    refine ⟨ret_int ?_, rfl⟩
    simp_all [Sp.cntS] <;> omega
end Go.Proofs.YtccndnckceagfaaDoorR
