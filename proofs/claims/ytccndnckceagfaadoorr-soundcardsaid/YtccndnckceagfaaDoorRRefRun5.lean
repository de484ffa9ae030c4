/-
  The document's own memory instructions.
  One step of the document's own run.
  One step of the document's own run, further.
-/
import Derived.Test.YtccndnckceagfaaDoorRRefRun2
import Derived.Test.YtccndnckceagfaaDoorRWant
namespace Go.Proofs.YtccndnckceagfaaDoorR
open Go.RowKit

namespace Sp
/-- what a memory instruction with the bytes o, a, b leaves of a state, its place being n, its trace T -/
def memS (st : St) (o a b n : Int) (T : ByteArray) : St :=
  if 8 ≤ n then { st with trace := T ++ ⟨#[33]⟩ }
  else if o = 108 then { st with trace := T, hold := upd st.hold a.toNat (st.pub n.toNat) }
  else if o = 76 then { st with trace := T, hold := upd st.hold a.toNat (st.sec n.toNat) }
  else if o = 115 then { st with trace := T, pub := upd st.pub n.toNat (st.hold b.toNat) }
  else { st with trace := T, sec := upd st.sec n.toNat (st.hold b.toNat) }
end Sp

theorem but_of_below {w w1 : World} {p : Nat} (h : Below w.drew.heap.size w.drew w1) : But w.heap.size p w w1 := ⟨h.os, h.tape, h.output, h.size, fun k hk _ => h.block k hk⟩

theorem dec_size (t y : ByteArray) (n : Nat) (ht : t.size ≤ 100000000) (hy : y.size ≤ 4) (hl : (Lib.decDigits n).length ≤ 7) : (t ++ y ++ (⟨(Lib.decDigits n).toArray⟩ : ByteArray)).size ≤ 200000000 := by
  rw [ByteArray.size_append, ByteArray.size_append]
  have : (⟨(Lib.decDigits n).toArray⟩ : ByteArray).size = (Lib.decDigits n).length := by simp [ByteArray.size]
  omega

theorem But.drew {B p : Nat} {u v : World} (h : But B p u v) : But B p u v.drew := ⟨h.os, h.tape, h.output, h.size, h.block⟩

set_option maxRecDepth 20000 in
set_option maxHeartbeats 2000000 in
theorem memory_l (b : Nat) (s : ByteArray) (st : Sp.St) (x : ByteArray) (w : World) (hS : StAt w b s st) (hok : st.ok 100000000) (hx : x.size = 4) (ho : Sp.B x 0 = 108) (h1 : Sp.B x 1 < 128) (h2 : Sp.B x 2 < 128) :
    Calls Tryd.prog 96 #[.pointer (some ⟨b, 0, none⟩), .string x] w fun e w' => e = .returned (.bool (decide (st.hold (Sp.B x 2).toNat < 8))) ∧ StAt w' b s (Sp.memS st 108 (Sp.B x 1) (Sp.B x 2) (st.hold (Sp.B x 2).toNat) (st.trace ++ x.extract 0 1 ++ ⟨(Lib.decDigits (st.hold (Sp.B x 2).toNat).toNat).toArray⟩)) ∧ But w.heap.size b w w' := by
  obtain ⟨p1, q1⟩ := Sp.B_bd x 1
  obtain ⟨p2, q2⟩ := Sp.B_bd x 2
  have g0 := Sp.B_get x 0 (by omega)
  have g1 := Sp.B_get x 1 (by omega)
  have g2 := Sp.B_get x 2 (by omega)
  rw [ho] at g0
  obtain ⟨k1, e1⟩ := Int.eq_ofNat_of_zero_le p1
  obtain ⟨k2, e2⟩ := Int.eq_ofNat_of_zero_le p2
  rw [e1] at g1 h1 ⊢
  rw [e2] at g2 h2 ⊢
  rw [Int.toNat_natCast]
  have hk1 : k1 < 128 := by omega
  have hk2 : k2 < 128 := by omega
  obtain ⟨n0, n1⟩ := hok.hold k2
  have c2 := hS.hold k2 hk2
  have ct := hS.trace
  have ft := hS.free 148
  have htr := hok.trace
  obtain ⟨n, hn⟩ := Int.eq_ofNat_of_zero_le n0
  rw [hn] at c2 n1 ⊢
  rw [Int.toNat_natCast]
  have hl7 := dec_len7 n (by omega)
  have hbl := hS.lt
  have HT := hidd (dec_size st.trace (x.extract 0 1) n htr (by simp [ByteArray.size_extract]; omega) hl7)
  have HS := hidd hS
  clear hS hok p1 q1 p2 q2 ho e1 e2 n0
  go_enter Tryd.func96, Tryd.ntmps96
  go_wp2_with fail
  go_region_with (go_at_call 118; refine (decimal_any n n _ (Nat.le_refl _) (by omega)).mono ?_; rintro e w1 ⟨rfl, hb1⟩; have ct1 : w1.cell? ⟨b, 148, none⟩ = some (.string st.trace) := ((bcell hb1).1 b 148 hbl).trans ct; have ft1 : w1.frozen? ⟨b, 148, none⟩ = false := ((bcell hb1).2 b 148 hbl).trans ft; have HB1 := hidd hb1; clear hb1)
  all_goals
    have HS0 := hidd (HS.out.of_block (HB1.out.block b hbl))
    have HS1 := hidd (HS0.out.setTrace (st.trace ++ x.extract 0 1 ++ ⟨(Lib.decDigits n).toArray⟩))
    have HBT := hidd (but_of_below (p := b) HB1.out)
    by_cases h8 : 8 ≤ n
    · have hsz := HT.out
      go_wp2_with fail
      go_ret
      exact ⟨ret_bool (by simp; omega), by unfold Sp.memS; rw [if_pos (by omega)]; exact HS1.out.setTrace _, (HBT.out.trans (But.set _ _)).trans (But.set _ _)⟩
    · have hn8 : n < 8 := by omega
      have cp : w1.cell? ⟨b, 132 + n, none⟩ = some (.int .i64 (st.pub n)) := HS0.out.pub n hn8
      have ch : w1.cell? ⟨b, 1 + k1, none⟩ = some (.int .i64 (st.hold k1)) := HS0.out.hold k1 hk1
      have fh : w1.frozen? ⟨b, 1 + k1, none⟩ = false := HS0.out.free (1 + k1)
      go_wp2_with fail
      go_region
      all_goals
        go_wp2_with fail
        go_ret
        refine ⟨ret_bool (by simp; omega), ?_, ((HBT.out.trans (But.set _ _)).trans (But.set _ _)).drew⟩
        unfold Sp.memS
        rw [if_neg (by omega), if_pos rfl]
        exact HS1.out.setHold k1 hk1 _

set_option maxRecDepth 20000 in
set_option maxHeartbeats 2000000 in
theorem memory_L (b : Nat) (s : ByteArray) (st : Sp.St) (x : ByteArray) (w : World) (hS : StAt w b s st) (hok : st.ok 100000000) (hx : x.size = 4) (ho : Sp.B x 0 = 76) (h1 : Sp.B x 1 < 128) (h2 : Sp.B x 2 < 128) :
    Calls Tryd.prog 96 #[.pointer (some ⟨b, 0, none⟩), .string x] w fun e w' => e = .returned (.bool (decide (st.hold (Sp.B x 2).toNat < 8))) ∧ StAt w' b s (Sp.memS st 76 (Sp.B x 1) (Sp.B x 2) (st.hold (Sp.B x 2).toNat) (st.trace ++ x.extract 0 1 ++ ⟨(Lib.decDigits (st.hold (Sp.B x 2).toNat).toNat).toArray⟩)) ∧ But w.heap.size b w w' := by
  obtain ⟨p1, q1⟩ := Sp.B_bd x 1
  obtain ⟨p2, q2⟩ := Sp.B_bd x 2
  have g0 := Sp.B_get x 0 (by omega)
  have g1 := Sp.B_get x 1 (by omega)
  have g2 := Sp.B_get x 2 (by omega)
  rw [ho] at g0
  obtain ⟨k1, e1⟩ := Int.eq_ofNat_of_zero_le p1
  obtain ⟨k2, e2⟩ := Int.eq_ofNat_of_zero_le p2
  rw [e1] at g1 h1 ⊢
  rw [e2] at g2 h2 ⊢
  rw [Int.toNat_natCast]
  have hk1 : k1 < 128 := by omega
  have hk2 : k2 < 128 := by omega
  obtain ⟨n0, n1⟩ := hok.hold k2
  have c2 := hS.hold k2 hk2
  have ct := hS.trace
  have ft := hS.free 148
  have htr := hok.trace
  obtain ⟨n, hn⟩ := Int.eq_ofNat_of_zero_le n0
  rw [hn] at c2 n1 ⊢
  rw [Int.toNat_natCast]
  have hl7 := dec_len7 n (by omega)
  have hbl := hS.lt
  have HT := hidd (dec_size st.trace (x.extract 0 1) n htr (by simp [ByteArray.size_extract]; omega) hl7)
  have HS := hidd hS
  clear hS hok p1 q1 p2 q2 ho e1 e2 n0
  go_enter Tryd.func96, Tryd.ntmps96
  go_wp2_with fail
  go_region_with (go_at_call 118; refine (decimal_any n n _ (Nat.le_refl _) (by omega)).mono ?_; rintro e w1 ⟨rfl, hb1⟩; have ct1 : w1.cell? ⟨b, 148, none⟩ = some (.string st.trace) := ((bcell hb1).1 b 148 hbl).trans ct; have ft1 : w1.frozen? ⟨b, 148, none⟩ = false := ((bcell hb1).2 b 148 hbl).trans ft; have HB1 := hidd hb1; clear hb1)
  all_goals
    have HS0 := hidd (HS.out.of_block (HB1.out.block b hbl))
    have HS1 := hidd (HS0.out.setTrace (st.trace ++ x.extract 0 1 ++ ⟨(Lib.decDigits n).toArray⟩))
    have HBT := hidd (but_of_below (p := b) HB1.out)
    by_cases h8 : 8 ≤ n
    · have hsz := HT.out
      go_wp2_with fail
      go_ret
      exact ⟨ret_bool (by simp; omega), by unfold Sp.memS; rw [if_pos (by omega)]; exact HS1.out.setTrace _, (HBT.out.trans (But.set _ _)).trans (But.set _ _)⟩
    · have hn8 : n < 8 := by omega
      have cp : w1.cell? ⟨b, 140 + n, none⟩ = some (.int .i64 (st.sec n)) := HS0.out.sec n hn8
      have ch : w1.cell? ⟨b, 1 + k1, none⟩ = some (.int .i64 (st.hold k1)) := HS0.out.hold k1 hk1
      have fh : w1.frozen? ⟨b, 1 + k1, none⟩ = false := HS0.out.free (1 + k1)
      go_wp2_with fail
      go_region
      all_goals
        go_wp2_with fail
        go_ret
        refine ⟨ret_bool (by simp; omega), ?_, ((HBT.out.trans (But.set _ _)).trans (But.set _ _)).drew⟩
        unfold Sp.memS
        rw [if_neg (by omega), if_neg (by omega), if_pos rfl]
        exact HS1.out.setHold k1 hk1 _

set_option maxRecDepth 20000 in
set_option maxHeartbeats 2000000 in
theorem memory_s (b : Nat) (s : ByteArray) (st : Sp.St) (x : ByteArray) (w : World) (hS : StAt w b s st) (hok : st.ok 100000000) (hx : x.size = 4) (ho : Sp.B x 0 = 115) (h1 : Sp.B x 1 < 128) (h2 : Sp.B x 2 < 128) :
    Calls Tryd.prog 96 #[.pointer (some ⟨b, 0, none⟩), .string x] w fun e w' => e = .returned (.bool (decide (st.hold (Sp.B x 1).toNat < 8))) ∧ StAt w' b s (Sp.memS st 115 (Sp.B x 1) (Sp.B x 2) (st.hold (Sp.B x 1).toNat) (st.trace ++ x.extract 0 1 ++ ⟨(Lib.decDigits (st.hold (Sp.B x 1).toNat).toNat).toArray⟩)) ∧ But w.heap.size b w w' := by
  obtain ⟨p1, q1⟩ := Sp.B_bd x 1
  obtain ⟨p2, q2⟩ := Sp.B_bd x 2
  have g0 := Sp.B_get x 0 (by omega)
  have g1 := Sp.B_get x 1 (by omega)
  have g2 := Sp.B_get x 2 (by omega)
  rw [ho] at g0
  obtain ⟨k1, e1⟩ := Int.eq_ofNat_of_zero_le p1
  obtain ⟨k2, e2⟩ := Int.eq_ofNat_of_zero_le p2
  rw [e1] at g1 h1 ⊢
  rw [e2] at g2 h2 ⊢
  rw [Int.toNat_natCast]
  have hk1 : k1 < 128 := by omega
  have hk2 : k2 < 128 := by omega
  obtain ⟨n0, n1⟩ := hok.hold k1
  have c2 := hS.hold k1 hk1
  have ct := hS.trace
  have ft := hS.free 148
  have htr := hok.trace
  obtain ⟨n, hn⟩ := Int.eq_ofNat_of_zero_le n0
  rw [hn] at c2 n1 ⊢
  rw [Int.toNat_natCast]
  have hl7 := dec_len7 n (by omega)
  have hbl := hS.lt
  have HT := hidd (dec_size st.trace (x.extract 0 1) n htr (by simp [ByteArray.size_extract]; omega) hl7)
  have HS := hidd hS
  clear hS hok p1 q1 p2 q2 ho e1 e2 n0
  go_enter Tryd.func96, Tryd.ntmps96
  go_wp2_with fail
  go_region_with (go_at_call 118; refine (decimal_any n n _ (Nat.le_refl _) (by omega)).mono ?_; rintro e w1 ⟨rfl, hb1⟩; have ct1 : w1.cell? ⟨b, 148, none⟩ = some (.string st.trace) := ((bcell hb1).1 b 148 hbl).trans ct; have ft1 : w1.frozen? ⟨b, 148, none⟩ = false := ((bcell hb1).2 b 148 hbl).trans ft; have HB1 := hidd hb1; clear hb1)
  all_goals
    have HS0 := hidd (HS.out.of_block (HB1.out.block b hbl))
    have HS1 := hidd (HS0.out.setTrace (st.trace ++ x.extract 0 1 ++ ⟨(Lib.decDigits n).toArray⟩))
    have HBT := hidd (but_of_below (p := b) HB1.out)
    by_cases h8 : 8 ≤ n
    · have hsz := HT.out
      go_wp2_with fail
      go_ret
      exact ⟨ret_bool (by simp; omega), by unfold Sp.memS; rw [if_pos (by omega)]; exact HS1.out.setTrace _, (HBT.out.trans (But.set _ _)).trans (But.set _ _)⟩
    · have hn8 : n < 8 := by omega
      have cp : w1.cell? ⟨b, 132 + n, none⟩ = some (.int .i64 (st.pub n)) := HS0.out.pub n hn8
      have ch : w1.cell? ⟨b, 1 + k2, none⟩ = some (.int .i64 (st.hold k2)) := HS0.out.hold k2 hk2
      have fh : w1.frozen? ⟨b, 132 + n, none⟩ = false := HS0.out.free (132 + n)
      go_wp2_with fail
      go_region
      all_goals
        go_wp2_with fail
        go_ret
        refine ⟨ret_bool (by simp; omega), ?_, ((HBT.out.trans (But.set _ _)).trans (But.set _ _)).drew⟩
        unfold Sp.memS
        rw [if_neg (by omega), if_neg (by omega), if_neg (by omega), if_pos rfl]
        exact HS1.out.setPub n hn8 _

set_option maxRecDepth 20000 in
set_option maxHeartbeats 2000000 in
theorem memory_S (b : Nat) (s : ByteArray) (st : Sp.St) (x : ByteArray) (w : World) (hS : StAt w b s st) (hok : st.ok 100000000) (hx : x.size = 4) (ho : Sp.B x 0 = 83) (h1 : Sp.B x 1 < 128) (h2 : Sp.B x 2 < 128) :
    Calls Tryd.prog 96 #[.pointer (some ⟨b, 0, none⟩), .string x] w fun e w' => e = .returned (.bool (decide (st.hold (Sp.B x 1).toNat < 8))) ∧ StAt w' b s (Sp.memS st 83 (Sp.B x 1) (Sp.B x 2) (st.hold (Sp.B x 1).toNat) (st.trace ++ x.extract 0 1 ++ ⟨(Lib.decDigits (st.hold (Sp.B x 1).toNat).toNat).toArray⟩)) ∧ But w.heap.size b w w' := by
  obtain ⟨p1, q1⟩ := Sp.B_bd x 1
  obtain ⟨p2, q2⟩ := Sp.B_bd x 2
  have g0 := Sp.B_get x 0 (by omega)
  have g1 := Sp.B_get x 1 (by omega)
  have g2 := Sp.B_get x 2 (by omega)
  rw [ho] at g0
  obtain ⟨k1, e1⟩ := Int.eq_ofNat_of_zero_le p1
  obtain ⟨k2, e2⟩ := Int.eq_ofNat_of_zero_le p2
  rw [e1] at g1 h1 ⊢
  rw [e2] at g2 h2 ⊢
  rw [Int.toNat_natCast]
  have hk1 : k1 < 128 := by omega
  have hk2 : k2 < 128 := by omega
  obtain ⟨n0, n1⟩ := hok.hold k1
  have c2 := hS.hold k1 hk1
  have ct := hS.trace
  have ft := hS.free 148
  have htr := hok.trace
  obtain ⟨n, hn⟩ := Int.eq_ofNat_of_zero_le n0
  rw [hn] at c2 n1 ⊢
  rw [Int.toNat_natCast]
  have hl7 := dec_len7 n (by omega)
  have hbl := hS.lt
  have HT := hidd (dec_size st.trace (x.extract 0 1) n htr (by simp [ByteArray.size_extract]; omega) hl7)
  have HS := hidd hS
  clear hS hok p1 q1 p2 q2 ho e1 e2 n0
  go_enter Tryd.func96, Tryd.ntmps96
  go_wp2_with fail
  go_region_with (go_at_call 118; refine (decimal_any n n _ (Nat.le_refl _) (by omega)).mono ?_; rintro e w1 ⟨rfl, hb1⟩; have ct1 : w1.cell? ⟨b, 148, none⟩ = some (.string st.trace) := ((bcell hb1).1 b 148 hbl).trans ct; have ft1 : w1.frozen? ⟨b, 148, none⟩ = false := ((bcell hb1).2 b 148 hbl).trans ft; have HB1 := hidd hb1; clear hb1)
  all_goals
    have HS0 := hidd (HS.out.of_block (HB1.out.block b hbl))
    have HS1 := hidd (HS0.out.setTrace (st.trace ++ x.extract 0 1 ++ ⟨(Lib.decDigits n).toArray⟩))
    have HBT := hidd (but_of_below (p := b) HB1.out)
    by_cases h8 : 8 ≤ n
    · have hsz := HT.out
      go_wp2_with fail
      go_ret
      exact ⟨ret_bool (by simp; omega), by unfold Sp.memS; rw [if_pos (by omega)]; exact HS1.out.setTrace _, (HBT.out.trans (But.set _ _)).trans (But.set _ _)⟩
    · have hn8 : n < 8 := by omega
      have cp : w1.cell? ⟨b, 140 + n, none⟩ = some (.int .i64 (st.sec n)) := HS0.out.sec n hn8
      have ch : w1.cell? ⟨b, 1 + k2, none⟩ = some (.int .i64 (st.hold k2)) := HS0.out.hold k2 hk2
      have fh : w1.frozen? ⟨b, 140 + n, none⟩ = false := HS0.out.free (140 + n)
      go_wp2_with fail
      go_region
      all_goals
        go_wp2_with fail
        go_ret
        refine ⟨ret_bool (by simp; omega), ?_, ((HBT.out.trans (But.set _ _)).trans (But.set _ _)).drew⟩
        unfold Sp.memS
        rw [if_neg (by omega), if_neg (by omega), if_neg (by omega), if_neg (by omega)]
        exact HS1.out.setSec n hn8 _

end Go.Proofs.YtccndnckceagfaaDoorR

namespace Go.Proofs.YtccndnckceagfaaDoorR
open Go.RowKit

theorem StAt.drewN {w : World} {b : Nat} {s : ByteArray} {st : Sp.St} (h : StAt w b s st) (n : Nat) : StAt (w.drewN n) b s st := h
theorem StAt.drew {w : World} {b : Nat} {s : ByteArray} {st : Sp.St} (h : StAt w b s st) : StAt w.drew b s st := h
theorem But.drewN {B p : Nat} {u v : World} (h : But B p u v) (n : Nat) : But B p u (v.drewN n) := ⟨h.os, h.tape, h.output, h.size, h.block⟩

namespace Sp
/-- one step of a run at instruction i: the state behind it, and whether the run goes on -/
def stepS (c : Nat → Int) (n : Nat) (st : St) (i : Nat) (x0 : ByteArray) : St × Bool :=
  if c (4 * i) = 114 then ({ st with next := i + 1, status := 0, value := st.hold (c (4 * i + 1)).toNat }, false)
  else if c (4 * i) = 106 then ({ st with next := fst c n (c (4 * i + 1) - 48).toNat }, true)
  else if c (4 * i) = 63 then
    (if st.hold (c (4 * i + 1)).toNat ≠ 0 then ({ st with trace := st.trace ++ ⟨#[63, 49]⟩, next := fst c n (c (4 * i + 2) - 48).toNat }, true)
     else ({ st with trace := st.trace ++ ⟨#[63, 48]⟩, next := fst c n (c (4 * i + 3) - 48).toNat }, true))
  else if c (4 * i) = 108 ∨ c (4 * i) = 76 ∨ c (4 * i) = 115 ∨ c (4 * i) = 83 then
    (let v := st.hold (if c (4 * i) = 115 ∨ c (4 * i) = 83 then c (4 * i + 1) else c (4 * i + 2)).toNat
     let r := memS { st with next := i + 1 } (c (4 * i)) (c (4 * i + 1)) (c (4 * i + 2)) v (st.trace ++ x0 ++ ⟨(Lib.decDigits v.toNat).toArray⟩)
     if v < 8 then (r, true) else ({ r with status := 1 }, false))
  else if c (4 * i) = 35 then ({ st with next := i + 1, hold := upd st.hold (c (4 * i + 1)).toNat (10 * (c (4 * i + 2) - 48) + (c (4 * i + 3) - 48)) }, true)
  else if c (4 * i) = 61 then ({ st with next := i + 1, hold := upd st.hold (c (4 * i + 1)).toNat (st.hold (c (4 * i + 2)).toNat) }, true)
  else ({ st with next := i + 1, hold := upd st.hold (c (4 * i + 1)).toNat (cntS (c (4 * i)) (st.hold (c (4 * i + 2)).toNat) (st.hold (c (4 * i + 3)).toNat)) }, true)
end Sp

set_option maxRecDepth 20000 in
set_option maxHeartbeats 2000000 in
theorem step_r (b : Nat) (s : ByteArray) (st : Sp.St) (i : Nat) (w : World) (hS : StAt w b s st) (hok : st.ok 100000000) (hs : s.size ≤ 4096) (hi : st.next = i) (hin : i < s.size / 4) (ho : Sp.B s (4 * i) = 114) (h1 : Sp.B s (4 * i + 1) < 128) :
    Calls Tryd.prog 70 #[.pointer (some ⟨b, 0, none⟩)] w fun e w' => e = .returned (.bool false) ∧ StAt w' b s { st with next := i + 1, status := 0, value := st.hold (Sp.B s (4 * i + 1)).toNat } ∧ But w.heap.size b w w' := by
  have hs' : s.size ≤ maxLen := by unfold maxLen; omega
  have cs := hS.s
  have cn := hS.next
  rw [hi] at cn
  have fn := hS.free 129
  have HS := hidd hS
  have HX := hidd (Sp.insAt_ext s i (by omega))
  have HO := hidd ho
  have HOK := hidd hok
  have hbl := hS.lt
  have htr := hok.trace
  obtain ⟨p1, q1⟩ := Sp.B_bd s (4 * i + 1)
  obtain ⟨k1, e1⟩ := Int.eq_ofNat_of_zero_le p1
  have hk1 : k1 < 128 := by omega
  rw [e1, Int.toNat_natCast]
  have HE := hidd e1
  have ch := hS.hold k1 hk1
  have c0 := hS.status
  have f0 := hS.free 130
  have cv := hS.value
  have fv := hS.free 131
  clear e1 h1 p1 q1
  clear hS hi ho hok
  go_enter Tryd.func70, Tryd.ntmps70
  go_wp2_with fail
  go_quiet ((go_at_call 35; exact quiet_eq (at_any _ _ _ hs' (by omega) (by omega))))
  simp only [Int.toNat_natCast]
  obtain ⟨x, hxe⟩ : ∃ x, s.extract (4 * i) (4 * i + 4) = x := ⟨_, rfl⟩
  rw [hxe]
  have hx := HX.out
  rw [hxe] at hx
  have hxs := hx.size
  have g0 := hx.get0 (by omega)
  have g1 := hx.get 1 (by omega)
  have g2 := hx.get 2 (by omega)
  have g3 := hx.get 3 (by omega)
  rw [HO.out] at g0
  rw [HE.out] at g1
  clear hxe hx HX g2 g3
  go_wp2_with fail
  go_region
  all_goals
    go_wp2_with fail
    go_ret
    exact ⟨rfl, ((((HS.out.drewN nq).setNext _).setStatus _).setValue _).drew, (((((But.refl _ _ _).drewN nq).trans (But.set _ _)).trans (But.set _ _)).trans (But.set _ _)).drew⟩

set_option maxRecDepth 20000 in
set_option maxHeartbeats 2000000 in
theorem step_j (b : Nat) (s : ByteArray) (st : Sp.St) (i : Nat) (w : World) (hS : StAt w b s st) (hok : st.ok 100000000) (hs : s.size ≤ 4096) (hi : st.next = i) (hin : i < s.size / 4) (ho : Sp.B s (4 * i) = 106) (h1 : 48 ≤ Sp.B s (4 * i + 1)) (h2 : Sp.B s (4 * i + 1) - 48 ≤ Sp.blocksTo (Sp.B s) (s.size / 4)) :
    Calls Tryd.prog 70 #[.pointer (some ⟨b, 0, none⟩)] w fun e w' => e = .returned (.bool true) ∧ StAt w' b s { st with next := Sp.fst (Sp.B s) (s.size / 4) (Sp.B s (4 * i + 1) - 48).toNat } ∧ But w.heap.size b w w' := by
  have hs' : s.size ≤ maxLen := by unfold maxLen; omega
  have cs := hS.s
  have cn := hS.next
  rw [hi] at cn
  have fn := hS.free 129
  have HS := hidd hS
  have HX := hidd (Sp.insAt_ext s i (by omega))
  have HO := hidd ho
  have HOK := hidd hok
  have hbl := hS.lt
  have htr := hok.trace
  obtain ⟨p1, q1⟩ := Sp.B_bd s (4 * i + 1)
  have w1 : IntKind.u8.wrap (Sp.B s (4 * i + 1) - 48) = Sp.B s (4 * i + 1) - 48 := IntWalk.u8_in _ (by omega)
  have w2 : IntKind.i64.wrap (Sp.B s (4 * i + 1) - 48) = Sp.B s (4 * i + 1) - 48 := IntWalk.i64_in _ (by omega)
  clear hS hi ho hok
  go_enter Tryd.func70, Tryd.ntmps70
  go_wp2_with fail
  go_quiet ((go_at_call 35; exact quiet_eq (at_any _ _ _ hs' (by omega) (by omega))))
  simp only [Int.toNat_natCast]
  obtain ⟨x, hxe⟩ : ∃ x, s.extract (4 * i) (4 * i + 4) = x := ⟨_, rfl⟩
  rw [hxe]
  have hx := HX.out
  rw [hxe] at hx
  have hxs := hx.size
  have g0 := hx.get0 (by omega)
  have g1 := hx.get 1 (by omega)
  have g2 := hx.get 2 (by omega)
  have g3 := hx.get 3 (by omega)
  rw [HO.out] at g0
  clear hxe hx HX g2 g3
  go_wp2_with fail
  go_region_with (go_at_call 95; refine (first_any _ _ _ hs' (by omega) (by omega)).mono ?_; rintro e w' ⟨rfl, rfl⟩)
  all_goals
    go_wp2_with fail
    go_ret
    refine ⟨rfl, ?_, ?_⟩
    · exact (((HS.out.drewN nq).setNext _).setNext _).drew
    · exact ((((But.refl _ _ _).drewN nq).trans (But.set _ _)).trans (But.set _ _)).drew

end Go.Proofs.YtccndnckceagfaaDoorR

namespace Go.Proofs.YtccndnckceagfaaDoorR
open Go.RowKit

set_option maxRecDepth 20000 in
set_option maxHeartbeats 2000000 in
theorem step_q1 (b : Nat) (s : ByteArray) (st : Sp.St) (i : Nat) (w : World) (hS : StAt w b s st) (hok : st.ok 100000000) (hs : s.size ≤ 4096) (hi : st.next = i) (hin : i < s.size / 4) (ho : Sp.B s (4 * i) = 63) (h1 : Sp.B s (4 * i + 1) < 128) (h2 : 48 ≤ Sp.B s (4 * i + 2)) (h3 : Sp.B s (4 * i + 2) - 48 ≤ Sp.blocksTo (Sp.B s) (s.size / 4)) (hv : st.hold (Sp.B s (4 * i + 1)).toNat ≠ 0) :
    Calls Tryd.prog 70 #[.pointer (some ⟨b, 0, none⟩)] w fun e w' => e = .returned (.bool true) ∧ StAt w' b s { st with trace := st.trace ++ ⟨#[63, 49]⟩, next := Sp.fst (Sp.B s) (s.size / 4) (Sp.B s (4 * i + 2) - 48).toNat } ∧ But w.heap.size b w w' := by
  have hs' : s.size ≤ maxLen := by unfold maxLen; omega
  have cs := hS.s
  have cn := hS.next
  rw [hi] at cn
  have fn := hS.free 129
  have HS := hidd hS
  have HX := hidd (Sp.insAt_ext s i (by omega))
  have HO := hidd ho
  have HOK := hidd hok
  have hbl := hS.lt
  have htr := hok.trace
  obtain ⟨p1, q1⟩ := Sp.B_bd s (4 * i + 1)
  obtain ⟨k1, e1⟩ := Int.eq_ofNat_of_zero_le p1
  have hk1 : k1 < 128 := by omega
  have HE1 := hidd e1
  have ch1 := hS.hold k1 hk1
  obtain ⟨p2, q2⟩ := Sp.B_bd s (4 * i + 2)
  have w2 : IntKind.u8.wrap (Sp.B s (4 * i + 2) - 48) = Sp.B s (4 * i + 2) - 48 := IntWalk.u8_in _ (by omega)
  have v2 : IntKind.i64.wrap (Sp.B s (4 * i + 2) - 48) = Sp.B s (4 * i + 2) - 48 := IntWalk.i64_in _ (by omega)
  rw [e1, Int.toNat_natCast] at hv
  have ct := hS.trace
  have ft := hS.free 148
  have hb : (st.hold k1 != 0) = true := by rw [bne_iff_ne]; exact hv
  have HV := hidd hv
  clear e1 h1 p1 q1 hv
  clear hS hi ho hok
  go_enter Tryd.func70, Tryd.ntmps70
  go_wp2_with fail
  go_quiet ((go_at_call 35; exact quiet_eq (at_any _ _ _ hs' (by omega) (by omega))))
  simp only [Int.toNat_natCast]
  obtain ⟨x, hxe⟩ : ∃ x, s.extract (4 * i) (4 * i + 4) = x := ⟨_, rfl⟩
  rw [hxe]
  have hx := HX.out
  rw [hxe] at hx
  have hxs := hx.size
  have g0 := hx.get0 (by omega)
  have g1 := hx.get 1 (by omega)
  have g2 := hx.get 2 (by omega)
  have g3 := hx.get 3 (by omega)
  rw [HO.out] at g0
  rw [HE1.out] at g1
  clear hxe hx HX
  go_wp2_with fail
  go_quiet (fail)
  go_wp2_with fail
  go_region_with (go_at_call 95; refine (first_any _ _ _ hs' (by omega) (by omega)).mono ?_; rintro e w' ⟨rfl, rfl⟩)
  all_goals
    go_wp2_with fail
    go_ret
    refine ⟨rfl, ?_, ?_⟩
    · exact ((((HS.out.drewN _).setNext _).setTrace _).setNext _)
    · exact ((((((But.refl _ _ _).drewN _).trans (But.set _ _)).drewN _).trans (But.set _ _)).trans (But.set _ _)).drew

set_option maxRecDepth 20000 in
set_option maxHeartbeats 2000000 in
theorem step_q0 (b : Nat) (s : ByteArray) (st : Sp.St) (i : Nat) (w : World) (hS : StAt w b s st) (hok : st.ok 100000000) (hs : s.size ≤ 4096) (hi : st.next = i) (hin : i < s.size / 4) (ho : Sp.B s (4 * i) = 63) (h1 : Sp.B s (4 * i + 1) < 128) (h2 : 48 ≤ Sp.B s (4 * i + 3)) (h3 : Sp.B s (4 * i + 3) - 48 ≤ Sp.blocksTo (Sp.B s) (s.size / 4)) (hv : st.hold (Sp.B s (4 * i + 1)).toNat = 0) :
    Calls Tryd.prog 70 #[.pointer (some ⟨b, 0, none⟩)] w fun e w' => e = .returned (.bool true) ∧ StAt w' b s { st with trace := st.trace ++ ⟨#[63, 48]⟩, next := Sp.fst (Sp.B s) (s.size / 4) (Sp.B s (4 * i + 3) - 48).toNat } ∧ But w.heap.size b w w' := by
  have hs' : s.size ≤ maxLen := by unfold maxLen; omega
  have cs := hS.s
  have cn := hS.next
  rw [hi] at cn
  have fn := hS.free 129
  have HS := hidd hS
  have HX := hidd (Sp.insAt_ext s i (by omega))
  have HO := hidd ho
  have HOK := hidd hok
  have hbl := hS.lt
  have htr := hok.trace
  obtain ⟨p1, q1⟩ := Sp.B_bd s (4 * i + 1)
  obtain ⟨k1, e1⟩ := Int.eq_ofNat_of_zero_le p1
  have hk1 : k1 < 128 := by omega
  have HE1 := hidd e1
  have ch1 := hS.hold k1 hk1
  obtain ⟨p3, q3⟩ := Sp.B_bd s (4 * i + 3)
  have w3 : IntKind.u8.wrap (Sp.B s (4 * i + 3) - 48) = Sp.B s (4 * i + 3) - 48 := IntWalk.u8_in _ (by omega)
  have v3 : IntKind.i64.wrap (Sp.B s (4 * i + 3) - 48) = Sp.B s (4 * i + 3) - 48 := IntWalk.i64_in _ (by omega)
  rw [e1, Int.toNat_natCast] at hv
  have ct := hS.trace
  have ft := hS.free 148
  have hb : (st.hold k1 != 0) = false := by rw [hv]; rfl
  have HV := hidd hv
  clear e1 h1 p1 q1 hv
  clear hS hi ho hok
  go_enter Tryd.func70, Tryd.ntmps70
  go_wp2_with fail
  go_quiet ((go_at_call 35; exact quiet_eq (at_any _ _ _ hs' (by omega) (by omega))))
  simp only [Int.toNat_natCast]
  obtain ⟨x, hxe⟩ : ∃ x, s.extract (4 * i) (4 * i + 4) = x := ⟨_, rfl⟩
  rw [hxe]
  have hx := HX.out
  rw [hxe] at hx
  have hxs := hx.size
  have g0 := hx.get0 (by omega)
  have g1 := hx.get 1 (by omega)
  have g2 := hx.get 2 (by omega)
  have g3 := hx.get 3 (by omega)
  rw [HO.out] at g0
  rw [HE1.out] at g1
  clear hxe hx HX
  go_wp2_with fail
  go_quiet (fail)
  go_wp2_with fail
  go_region_with (go_at_call 95; refine (first_any _ _ _ hs' (by omega) (by omega)).mono ?_; rintro e w' ⟨rfl, rfl⟩)
  all_goals
    go_wp2_with fail
    go_ret
    refine ⟨rfl, ?_, ?_⟩
    · exact ((((HS.out.drewN _).setNext _).setTrace _).setNext _)
    · exact ((((((But.refl _ _ _).drewN _).trans (But.set _ _)).drewN _).trans (But.set _ _)).trans (But.set _ _)).drew

set_option maxRecDepth 20000 in
set_option maxHeartbeats 2000000 in
theorem step_n (b : Nat) (s : ByteArray) (st : Sp.St) (i : Nat) (w : World) (hS : StAt w b s st) (hok : st.ok 100000000) (hs : s.size ≤ 4096) (hi : st.next = i) (hin : i < s.size / 4) (ho : Sp.B s (4 * i) = 35) (h1 : Sp.B s (4 * i + 1) < 128) (h2 : 48 ≤ Sp.B s (4 * i + 2) ∧ Sp.B s (4 * i + 2) ≤ 57) (h3 : 48 ≤ Sp.B s (4 * i + 3) ∧ Sp.B s (4 * i + 3) ≤ 57) :
    Calls Tryd.prog 70 #[.pointer (some ⟨b, 0, none⟩)] w fun e w' => e = .returned (.bool true) ∧ StAt w' b s { st with next := i + 1, hold := Sp.upd st.hold (Sp.B s (4 * i + 1)).toNat (10 * (Sp.B s (4 * i + 2) - 48) + (Sp.B s (4 * i + 3) - 48)) } ∧ But w.heap.size b w w' := by
  have hs' : s.size ≤ maxLen := by unfold maxLen; omega
  have cs := hS.s
  have cn := hS.next
  rw [hi] at cn
  have fn := hS.free 129
  have HS := hidd hS
  have HX := hidd (Sp.insAt_ext s i (by omega))
  have HO := hidd ho
  have HOK := hidd hok
  have hbl := hS.lt
  have htr := hok.trace
  obtain ⟨p1, q1⟩ := Sp.B_bd s (4 * i + 1)
  obtain ⟨k1, e1⟩ := Int.eq_ofNat_of_zero_le p1
  have hk1 : k1 < 128 := by omega
  have HE1 := hidd e1
  have ch1 := hS.hold k1 hk1
  obtain ⟨p2, q2⟩ := Sp.B_bd s (4 * i + 2)
  have w2 : IntKind.u8.wrap (Sp.B s (4 * i + 2) - 48) = Sp.B s (4 * i + 2) - 48 := IntWalk.u8_in _ (by omega)
  have v2 : IntKind.i64.wrap (Sp.B s (4 * i + 2) - 48) = Sp.B s (4 * i + 2) - 48 := IntWalk.i64_in _ (by omega)
  obtain ⟨p3, q3⟩ := Sp.B_bd s (4 * i + 3)
  have w3 : IntKind.u8.wrap (Sp.B s (4 * i + 3) - 48) = Sp.B s (4 * i + 3) - 48 := IntWalk.u8_in _ (by omega)
  have v3 : IntKind.i64.wrap (Sp.B s (4 * i + 3) - 48) = Sp.B s (4 * i + 3) - 48 := IntWalk.i64_in _ (by omega)
  have m1 : IntKind.i64.wrap (10 * (Sp.B s (4 * i + 2) - 48)) = 10 * (Sp.B s (4 * i + 2) - 48) := IntWalk.i64_in _ (by omega)
  have m2 : IntKind.i64.wrap (10 * (Sp.B s (4 * i + 2) - 48) + (Sp.B s (4 * i + 3) - 48)) = 10 * (Sp.B s (4 * i + 2) - 48) + (Sp.B s (4 * i + 3) - 48) := IntWalk.i64_in _ (by omega)
  have fh := hS.free (1 + k1)
  rw [e1, Int.toNat_natCast]
  clear e1 h1 p1 q1
  clear hS hi ho hok
  go_enter Tryd.func70, Tryd.ntmps70
  go_wp2_with fail
  go_quiet ((go_at_call 35; exact quiet_eq (at_any _ _ _ hs' (by omega) (by omega))))
  simp only [Int.toNat_natCast]
  obtain ⟨x, hxe⟩ : ∃ x, s.extract (4 * i) (4 * i + 4) = x := ⟨_, rfl⟩
  rw [hxe]
  have hx := HX.out
  rw [hxe] at hx
  have hxs := hx.size
  have g0 := hx.get0 (by omega)
  have g1 := hx.get 1 (by omega)
  have g2 := hx.get 2 (by omega)
  have g3 := hx.get 3 (by omega)
  rw [HO.out] at g0
  rw [HE1.out] at g1
  clear hxe hx HX
  go_wp2_with fail
  go_region
  all_goals
    go_wp2_with fail
    go_ret
    refine ⟨rfl, ?_, ?_⟩
    · exact (((HS.out.drewN _).setNext _).setHold k1 hk1 _)
    · exact ⟨rfl, rfl, rfl, by simp [World.setCell], fun k _ hk => by rw [heap_drew, set_other hk, set_other hk]; rfl⟩

set_option maxRecDepth 20000 in
set_option maxHeartbeats 2000000 in
theorem step_eq (b : Nat) (s : ByteArray) (st : Sp.St) (i : Nat) (w : World) (hS : StAt w b s st) (hok : st.ok 100000000) (hs : s.size ≤ 4096) (hi : st.next = i) (hin : i < s.size / 4) (ho : Sp.B s (4 * i) = 61) (h1 : Sp.B s (4 * i + 1) < 128) (h2 : Sp.B s (4 * i + 2) < 128) :
    Calls Tryd.prog 70 #[.pointer (some ⟨b, 0, none⟩)] w fun e w' => e = .returned (.bool true) ∧ StAt w' b s { st with next := i + 1, hold := Sp.upd st.hold (Sp.B s (4 * i + 1)).toNat (st.hold (Sp.B s (4 * i + 2)).toNat) } ∧ But w.heap.size b w w' := by
  have hs' : s.size ≤ maxLen := by unfold maxLen; omega
  have cs := hS.s
  have cn := hS.next
  rw [hi] at cn
  have fn := hS.free 129
  have HS := hidd hS
  have HX := hidd (Sp.insAt_ext s i (by omega))
  have HO := hidd ho
  have HOK := hidd hok
  have hbl := hS.lt
  have htr := hok.trace
  obtain ⟨p1, q1⟩ := Sp.B_bd s (4 * i + 1)
  obtain ⟨k1, e1⟩ := Int.eq_ofNat_of_zero_le p1
  have hk1 : k1 < 128 := by omega
  have HE1 := hidd e1
  have ch1 := hS.hold k1 hk1
  obtain ⟨p2, q2⟩ := Sp.B_bd s (4 * i + 2)
  obtain ⟨k2, e2⟩ := Int.eq_ofNat_of_zero_le p2
  have hk2 : k2 < 128 := by omega
  have HE2 := hidd e2
  have ch2 := hS.hold k2 hk2
  have fh := hS.free (1 + k1)
  rw [e1, e2, Int.toNat_natCast, Int.toNat_natCast]
  clear e1 h1 p1 q1 e2 h2 p2 q2
  clear hS hi ho hok
  go_enter Tryd.func70, Tryd.ntmps70
  go_wp2_with fail
  go_quiet ((go_at_call 35; exact quiet_eq (at_any _ _ _ hs' (by omega) (by omega))))
  simp only [Int.toNat_natCast]
  obtain ⟨x, hxe⟩ : ∃ x, s.extract (4 * i) (4 * i + 4) = x := ⟨_, rfl⟩
  rw [hxe]
  have hx := HX.out
  rw [hxe] at hx
  have hxs := hx.size
  have g0 := hx.get0 (by omega)
  have g1 := hx.get 1 (by omega)
  have g2 := hx.get 2 (by omega)
  have g3 := hx.get 3 (by omega)
  rw [HO.out] at g0
  rw [HE1.out] at g1
  rw [HE2.out] at g2
  clear hxe hx HX
  go_wp2_with fail
  go_region
  all_goals
    go_wp2_with fail
    go_ret
    refine ⟨rfl, ?_, ?_⟩
    · exact (((HS.out.drewN _).setNext _).setHold k1 hk1 _)
    · exact ⟨rfl, rfl, rfl, by simp [World.setCell], fun k _ hk => by rw [heap_drew, set_other hk, set_other hk]; rfl⟩

end Go.Proofs.YtccndnckceagfaaDoorR
