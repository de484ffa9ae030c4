/-
  The document's own memory instructions.
-/
import Derived.Test.YtolhldbjfbkpiaaDoorRRefRun2
namespace Go.Proofs.YtolhldbjfbkpiaaDoorR
open Go.RowKit

namespace Sp
/-- what a memory instruction with the bytes o, a, b leaves of a state, its place being n, its trace T -/
def memS (st : St) (o a b n : Int) (T : ByteArray) : St :=
  if 8 ≤ n then { st with trace := T ++ ⟨#[33]⟩ }
  else if o = 108 then { st with trace := T, hold := upd st.hold a.toNat (st.pub n.toNat) }
  else if o = 76 then { st with trace := T, hold := upd st.hold a.toNat (st.sec n.toNat) }
  else if o = 115 then { st with trace := T, pub := upd st.pub n.toNat (st.hold b.toNat) }
  else { st with trace := T, sec := upd st.sec n.toNat (st.hold b.toNat) }
end Sp

theorem but_of_below {w w1 : World} {p : Nat} (h : Below w.drew.heap.size w.drew w1) : But w.heap.size p w w1 := ⟨h.os, h.tape, h.output, h.size, fun k hk _ => h.block k hk⟩

theorem dec_size (t y : ByteArray) (n : Nat) (ht : t.size ≤ 100000000) (hy : y.size ≤ 4) (hl : (Lib.decDigits n).length ≤ 7) : (t ++ y ++ (⟨(Lib.decDigits n).toArray⟩ : ByteArray)).size ≤ 200000000 := by
  rw [ByteArray.size_append, ByteArray.size_append]
  have : (⟨(Lib.decDigits n).toArray⟩ : ByteArray).size = (Lib.decDigits n).length := by simp [ByteArray.size]
  omega

theorem But.drew {B p : Nat} {u v : World} (h : But B p u v) : But B p u v.drew := ⟨h.os, h.tape, h.output, h.size, h.block⟩

set_option maxRecDepth 20000 in
set_option maxHeartbeats 2000000 in
theorem memory_l (b : Nat) (s : ByteArray) (st : Sp.St) (x : ByteArray) (w : World) (hS : StAt w b s st) (hok : st.ok 100000000) (hx : x.size = 4) (ho : Sp.B x 0 = 108) (h1 : Sp.B x 1 < 128) (h2 : Sp.B x 2 < 128) :
    Calls Tryd.prog 75 #[.pointer (some ⟨b, 0, none⟩), .string x] w fun e w' => e = .returned (.bool (decide (st.hold (Sp.B x 2).toNat < 8))) ∧ StAt w' b s (Sp.memS st 108 (Sp.B x 1) (Sp.B x 2) (st.hold (Sp.B x 2).toNat) (st.trace ++ x.extract 0 1 ++ ⟨(Lib.decDigits (st.hold (Sp.B x 2).toNat).toNat).toArray⟩)) ∧ But w.heap.size b w w' := by
  obtain ⟨p1, q1⟩ := Sp.B_bd x 1
  obtain ⟨p2, q2⟩ := Sp.B_bd x 2
  have g0 := Sp.B_get x 0 (by omega)
  have g1 := Sp.B_get x 1 (by omega)
  have g2 := Sp.B_get x 2 (by omega)
  rw [ho] at g0
  obtain ⟨k1, e1⟩ := Int.eq_ofNat_of_zero_le p1
  obtain ⟨k2, e2⟩ := Int.eq_ofNat_of_zero_le p2
  rw [e1] at g1 h1 ⊢
  rw [e2] at g2 h2 ⊢
  rw [Int.toNat_natCast]
  have hk1 : k1 < 128 := by omega
  have hk2 : k2 < 128 := by omega
  obtain ⟨n0, n1⟩ := hok.hold k2
  have c2 := hS.hold k2 hk2
  have ct := hS.trace
  have ft := hS.free 148
  have htr := hok.trace
  obtain ⟨n, hn⟩ := Int.eq_ofNat_of_zero_le n0
  rw [hn] at c2 n1 ⊢
  rw [Int.toNat_natCast]
  have hl7 := dec_len7 n (by omega)
  have hbl := hS.lt
  have HT := hidd (dec_size st.trace (x.extract 0 1) n htr (by simp [ByteArray.size_extract]; omega) hl7)
  have HS := hidd hS
  clear hS hok p1 q1 p2 q2 ho e1 e2 n0
  go_enter Tryd.func75, Tryd.ntmps75
  go_wp2_with fail
  go_region_with (go_at_call 96; refine (decimal_any n n _ (Nat.le_refl _) (by omega)).mono ?_; rintro e w1 ⟨rfl, hb1⟩; have ct1 : w1.cell? ⟨b, 148, none⟩ = some (.string st.trace) := ((bcell hb1).1 b 148 hbl).trans ct; have ft1 : w1.frozen? ⟨b, 148, none⟩ = false := ((bcell hb1).2 b 148 hbl).trans ft; have HB1 := hidd hb1; clear hb1)
  all_goals
    have HS0 := hidd (HS.out.of_block (HB1.out.block b hbl))
    have HS1 := hidd (HS0.out.setTrace (st.trace ++ x.extract 0 1 ++ ⟨(Lib.decDigits n).toArray⟩))
    have HBT := hidd (but_of_below (p := b) HB1.out)
    by_cases h8 : 8 ≤ n
    · have hsz := HT.out
      go_wp2_with fail
      go_ret
      exact ⟨ret_bool (by simp; omega), by unfold Sp.memS; rw [if_pos (by omega)]; exact HS1.out.setTrace _, (HBT.out.trans (But.set _ _)).trans (But.set _ _)⟩
    · have hn8 : n < 8 := by omega
      have cp : w1.cell? ⟨b, 132 + n, none⟩ = some (.int .i64 (st.pub n)) := HS0.out.pub n hn8
      have ch : w1.cell? ⟨b, 1 + k1, none⟩ = some (.int .i64 (st.hold k1)) := HS0.out.hold k1 hk1
      have fh : w1.frozen? ⟨b, 1 + k1, none⟩ = false := HS0.out.free (1 + k1)
      go_wp2_with fail
      go_region
      all_goals
        go_wp2_with fail
        go_ret
        refine ⟨ret_bool (by simp; omega), ?_, ((HBT.out.trans (But.set _ _)).trans (But.set _ _)).drew⟩
        unfold Sp.memS
        rw [if_neg (by omega), if_pos rfl]
        exact HS1.out.setHold k1 hk1 _

set_option maxRecDepth 20000 in
set_option maxHeartbeats 2000000 in
theorem memory_L (b : Nat) (s : ByteArray) (st : Sp.St) (x : ByteArray) (w : World) (hS : StAt w b s st) (hok : st.ok 100000000) (hx : x.size = 4) (ho : Sp.B x 0 = 76) (h1 : Sp.B x 1 < 128) (h2 : Sp.B x 2 < 128) :
    Calls Tryd.prog 75 #[.pointer (some ⟨b, 0, none⟩), .string x] w fun e w' => e = .returned (.bool (decide (st.hold (Sp.B x 2).toNat < 8))) ∧ StAt w' b s (Sp.memS st 76 (Sp.B x 1) (Sp.B x 2) (st.hold (Sp.B x 2).toNat) (st.trace ++ x.extract 0 1 ++ ⟨(Lib.decDigits (st.hold (Sp.B x 2).toNat).toNat).toArray⟩)) ∧ But w.heap.size b w w' := by
  obtain ⟨p1, q1⟩ := Sp.B_bd x 1
  obtain ⟨p2, q2⟩ := Sp.B_bd x 2
  have g0 := Sp.B_get x 0 (by omega)
  have g1 := Sp.B_get x 1 (by omega)
  have g2 := Sp.B_get x 2 (by omega)
  rw [ho] at g0
  obtain ⟨k1, e1⟩ := Int.eq_ofNat_of_zero_le p1
  obtain ⟨k2, e2⟩ := Int.eq_ofNat_of_zero_le p2
  rw [e1] at g1 h1 ⊢
  rw [e2] at g2 h2 ⊢
  rw [Int.toNat_natCast]
  have hk1 : k1 < 128 := by omega
  have hk2 : k2 < 128 := by omega
  obtain ⟨n0, n1⟩ := hok.hold k2
  have c2 := hS.hold k2 hk2
  have ct := hS.trace
  have ft := hS.free 148
  have htr := hok.trace
  obtain ⟨n, hn⟩ := Int.eq_ofNat_of_zero_le n0
  rw [hn] at c2 n1 ⊢
  rw [Int.toNat_natCast]
  have hl7 := dec_len7 n (by omega)
  have hbl := hS.lt
  have HT := hidd (dec_size st.trace (x.extract 0 1) n htr (by simp [ByteArray.size_extract]; omega) hl7)
  have HS := hidd hS
  clear hS hok p1 q1 p2 q2 ho e1 e2 n0
  go_enter Tryd.func75, Tryd.ntmps75
  go_wp2_with fail
  go_region_with (go_at_call 96; refine (decimal_any n n _ (Nat.le_refl _) (by omega)).mono ?_; rintro e w1 ⟨rfl, hb1⟩; have ct1 : w1.cell? ⟨b, 148, none⟩ = some (.string st.trace) := ((bcell hb1).1 b 148 hbl).trans ct; have ft1 : w1.frozen? ⟨b, 148, none⟩ = false := ((bcell hb1).2 b 148 hbl).trans ft; have HB1 := hidd hb1; clear hb1)
  all_goals
    have HS0 := hidd (HS.out.of_block (HB1.out.block b hbl))
    have HS1 := hidd (HS0.out.setTrace (st.trace ++ x.extract 0 1 ++ ⟨(Lib.decDigits n).toArray⟩))
    have HBT := hidd (but_of_below (p := b) HB1.out)
    by_cases h8 : 8 ≤ n
    · have hsz := HT.out
      go_wp2_with fail
      go_ret
      exact ⟨ret_bool (by simp; omega), by unfold Sp.memS; rw [if_pos (by omega)]; exact HS1.out.setTrace _, (HBT.out.trans (But.set _ _)).trans (But.set _ _)⟩
    · have hn8 : n < 8 := by omega
      have cp : w1.cell? ⟨b, 140 + n, none⟩ = some (.int .i64 (st.sec n)) := HS0.out.sec n hn8
      have ch : w1.cell? ⟨b, 1 + k1, none⟩ = some (.int .i64 (st.hold k1)) := HS0.out.hold k1 hk1
      have fh : w1.frozen? ⟨b, 1 + k1, none⟩ = false := HS0.out.free (1 + k1)
      go_wp2_with fail
      go_region
      all_goals
        go_wp2_with fail
        go_ret
        refine ⟨ret_bool (by simp; omega), ?_, ((HBT.out.trans (But.set _ _)).trans (But.set _ _)).drew⟩
        unfold Sp.memS
        rw [if_neg (by omega), if_neg (by omega), if_pos rfl]
        exact HS1.out.setHold k1 hk1 _

set_option maxRecDepth 20000 in
set_option maxHeartbeats 2000000 in
theorem memory_s (b : Nat) (s : ByteArray) (st : Sp.St) (x : ByteArray) (w : World) (hS : StAt w b s st) (hok : st.ok 100000000) (hx : x.size = 4) (ho : Sp.B x 0 = 115) (h1 : Sp.B x 1 < 128) (h2 : Sp.B x 2 < 128) :
    Calls Tryd.prog 75 #[.pointer (some ⟨b, 0, none⟩), .string x] w fun e w' => e = .returned (.bool (decide (st.hold (Sp.B x 1).toNat < 8))) ∧ StAt w' b s (Sp.memS st 115 (Sp.B x 1) (Sp.B x 2) (st.hold (Sp.B x 1).toNat) (st.trace ++ x.extract 0 1 ++ ⟨(Lib.decDigits (st.hold (Sp.B x 1).toNat).toNat).toArray⟩)) ∧ But w.heap.size b w w' := by
  obtain ⟨p1, q1⟩ := Sp.B_bd x 1
  obtain ⟨p2, q2⟩ := Sp.B_bd x 2
  have g0 := Sp.B_get x 0 (by omega)
  have g1 := Sp.B_get x 1 (by omega)
  have g2 := Sp.B_get x 2 (by omega)
  rw [ho] at g0
  obtain ⟨k1, e1⟩ := Int.eq_ofNat_of_zero_le p1
  obtain ⟨k2, e2⟩ := Int.eq_ofNat_of_zero_le p2
  rw [e1] at g1 h1 ⊢
  rw [e2] at g2 h2 ⊢
  rw [Int.toNat_natCast]
  have hk1 : k1 < 128 := by omega
  have hk2 : k2 < 128 := by omega
  obtain ⟨n0, n1⟩ := hok.hold k1
  have c2 := hS.hold k1 hk1
  have ct := hS.trace
  have ft := hS.free 148
  have htr := hok.trace
  obtain ⟨n, hn⟩ := Int.eq_ofNat_of_zero_le n0
  rw [hn] at c2 n1 ⊢
  rw [Int.toNat_natCast]
  have hl7 := dec_len7 n (by omega)
  have hbl := hS.lt
  have HT := hidd (dec_size st.trace (x.extract 0 1) n htr (by simp [ByteArray.size_extract]; omega) hl7)
  have HS := hidd hS
  clear hS hok p1 q1 p2 q2 ho e1 e2 n0
  go_enter Tryd.func75, Tryd.ntmps75
  go_wp2_with fail
  go_region_with (go_at_call 96; refine (decimal_any n n _ (Nat.le_refl _) (by omega)).mono ?_; rintro e w1 ⟨rfl, hb1⟩; have ct1 : w1.cell? ⟨b, 148, none⟩ = some (.string st.trace) := ((bcell hb1).1 b 148 hbl).trans ct; have ft1 : w1.frozen? ⟨b, 148, none⟩ = false := ((bcell hb1).2 b 148 hbl).trans ft; have HB1 := hidd hb1; clear hb1)
  all_goals
    have HS0 := hidd (HS.out.of_block (HB1.out.block b hbl))
    have HS1 := hidd (HS0.out.setTrace (st.trace ++ x.extract 0 1 ++ ⟨(Lib.decDigits n).toArray⟩))
    have HBT := hidd (but_of_below (p := b) HB1.out)
    by_cases h8 : 8 ≤ n
    · have hsz := HT.out
      go_wp2_with fail
      go_ret
      exact ⟨ret_bool (by simp; omega), by unfold Sp.memS; rw [if_pos (by omega)]; exact HS1.out.setTrace _, (HBT.out.trans (But.set _ _)).trans (But.set _ _)⟩
    · have hn8 : n < 8 := by omega
      have cp : w1.cell? ⟨b, 132 + n, none⟩ = some (.int .i64 (st.pub n)) := HS0.out.pub n hn8
      have ch : w1.cell? ⟨b, 1 + k2, none⟩ = some (.int .i64 (st.hold k2)) := HS0.out.hold k2 hk2
      have fh : w1.frozen? ⟨b, 132 + n, none⟩ = false := HS0.out.free (132 + n)
      go_wp2_with fail
      go_region
      all_goals
        go_wp2_with fail
        go_ret
        refine ⟨ret_bool (by simp; omega), ?_, ((HBT.out.trans (But.set _ _)).trans (But.set _ _)).drew⟩
        unfold Sp.memS
        rw [if_neg (by omega), if_neg (by omega), if_neg (by omega), if_pos rfl]
        exact HS1.out.setPub n hn8 _

set_option maxRecDepth 20000 in
set_option maxHeartbeats 2000000 in
theorem memory_S (b : Nat) (s : ByteArray) (st : Sp.St) (x : ByteArray) (w : World) (hS : StAt w b s st) (hok : st.ok 100000000) (hx : x.size = 4) (ho : Sp.B x 0 = 83) (h1 : Sp.B x 1 < 128) (h2 : Sp.B x 2 < 128) :
    Calls Tryd.prog 75 #[.pointer (some ⟨b, 0, none⟩), .string x] w fun e w' => e = .returned (.bool (decide (st.hold (Sp.B x 1).toNat < 8))) ∧ StAt w' b s (Sp.memS st 83 (Sp.B x 1) (Sp.B x 2) (st.hold (Sp.B x 1).toNat) (st.trace ++ x.extract 0 1 ++ ⟨(Lib.decDigits (st.hold (Sp.B x 1).toNat).toNat).toArray⟩)) ∧ But w.heap.size b w w' := by
  obtain ⟨p1, q1⟩ := Sp.B_bd x 1
  obtain ⟨p2, q2⟩ := Sp.B_bd x 2
  have g0 := Sp.B_get x 0 (by omega)
  have g1 := Sp.B_get x 1 (by omega)
  have g2 := Sp.B_get x 2 (by omega)
  rw [ho] at g0
  obtain ⟨k1, e1⟩ := Int.eq_ofNat_of_zero_le p1
  obtain ⟨k2, e2⟩ := Int.eq_ofNat_of_zero_le p2
  rw [e1] at g1 h1 ⊢
  rw [e2] at g2 h2 ⊢
  rw [Int.toNat_natCast]
  have hk1 : k1 < 128 := by omega
  have hk2 : k2 < 128 := by omega
  obtain ⟨n0, n1⟩ := hok.hold k1
  have c2 := hS.hold k1 hk1
  have ct := hS.trace
  have ft := hS.free 148
  have htr := hok.trace
  obtain ⟨n, hn⟩ := Int.eq_ofNat_of_zero_le n0
  rw [hn] at c2 n1 ⊢
  rw [Int.toNat_natCast]
  have hl7 := dec_len7 n (by omega)
  have hbl := hS.lt
  have HT := hidd (dec_size st.trace (x.extract 0 1) n htr (by simp [ByteArray.size_extract]; omega) hl7)
  have HS := hidd hS
  clear hS hok p1 q1 p2 q2 ho e1 e2 n0
  go_enter Tryd.func75, Tryd.ntmps75
  go_wp2_with fail
  go_region_with (go_at_call 96; refine (decimal_any n n _ (Nat.le_refl _) (by omega)).mono ?_; rintro e w1 ⟨rfl, hb1⟩; have ct1 : w1.cell? ⟨b, 148, none⟩ = some (.string st.trace) := ((bcell hb1).1 b 148 hbl).trans ct; have ft1 : w1.frozen? ⟨b, 148, none⟩ = false := ((bcell hb1).2 b 148 hbl).trans ft; have HB1 := hidd hb1; clear hb1)
  all_goals
    have HS0 := hidd (HS.out.of_block (HB1.out.block b hbl))
    have HS1 := hidd (HS0.out.setTrace (st.trace ++ x.extract 0 1 ++ ⟨(Lib.decDigits n).toArray⟩))
    have HBT := hidd (but_of_below (p := b) HB1.out)
    by_cases h8 : 8 ≤ n
    · have hsz := HT.out
      go_wp2_with fail
      go_ret
      exact ⟨ret_bool (by simp; omega), by unfold Sp.memS; rw [if_pos (by omega)]; exact HS1.out.setTrace _, (HBT.out.trans (But.set _ _)).trans (But.set _ _)⟩
    · have hn8 : n < 8 := by omega
      have cp : w1.cell? ⟨b, 140 + n, none⟩ = some (.int .i64 (st.sec n)) := HS0.out.sec n hn8
      have ch : w1.cell? ⟨b, 1 + k2, none⟩ = some (.int .i64 (st.hold k2)) := HS0.out.hold k2 hk2
      have fh : w1.frozen? ⟨b, 140 + n, none⟩ = false := HS0.out.free (140 + n)
      go_wp2_with fail
      go_region
      all_goals
        go_wp2_with fail
        go_ret
        refine ⟨ret_bool (by simp; omega), ?_, ((HBT.out.trans (But.set _ _)).trans (But.set _ _)).drew⟩
        unfold Sp.memS
        rw [if_neg (by omega), if_neg (by omega), if_neg (by omega), if_neg (by omega)]
        exact HS1.out.setSec n hn8 _

end Go.Proofs.YtolhldbjfbkpiaaDoorR
