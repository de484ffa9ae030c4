/-
  The document's own small functions of a run: values, digits, what an instruction makes of two values.
  The state of the document's own run, in memory; its memory instructions.
  The document's own test of an input; an input as a value.
-/
import Derived.Test.YtccndnckceagfabGreatDoorRG01
import Derived.Lib.ItoaNum
import Derived.Test.YtccndnckceagfabGreatDoorRHDev4
namespace Go.Proofs.YtccndnckceagfabGreatDoorR
open Go.RowKit

theorem hidd {p : Prop} (h : p) : Hid p := h

namespace Sp
def valB (n : Int) : Bool := decide (0 ≤ n ∧ n ≤ 65535)
/-- bit by bit: the first k bits -/
def bitsTo (x y : Int) (only : Bool) : Nat → Int
  | 0 => 0
  | k + 1 => bitsTo x y only k + (if (!only && (x / 2 ^ k % 2 == 1) && (y / 2 ^ k % 2 == 1)) || (only && ((x / 2 ^ k % 2 == 1) != (y / 2 ^ k % 2 == 1))) then 2 ^ k else 0)
def cntS (o x y : Int) : Int :=
  if o = 43 then (x + y) % 65536
  else if o = 45 then (x - y + 65536) % 65536
  else if o = 42 then x * y % 65536
  else if o = 38 then bitsTo x y false 16
  else bitsTo x y true 16
end Sp

theorem u8_of (v : Int) (h0 : 0 ≤ v) (h1 : v ≤ 255) : ((UInt8.ofNat v.toNat).toNat : Int) = v := by
  rw [UInt8.toNat_ofNat']
  omega
/-- 'string([]byte{v})', the byte's cell known -/
theorem conv_at (v : Int) (h0 : 0 ≤ v) (h1 : v ≤ 255) (W : World) (b : Nat) (hc : W.cell? ⟨b, 0, none⟩ = some (.int .u8 v)) : (convert 60 9 (.slice (some ⟨b, 0, none⟩) 1 1)).run Tryz.prog W = .ok (.string ⟨#[UInt8.ofNat v.toNat]⟩) W := by
  have := run_convert_bytes_back (P := Tryz.prog) W 60 9 5 ⟨b, 0, none⟩ 1 [UInt8.ofNat v.toNat] Tryz.underlying60 Tryz.underlying5 Tryz.underlying9 (fun j hj => by
    have hj0 : j = 0 := by simp at hj; exact hj
    subst hj0
    rw [show ((⟨b, 0, none⟩ : Addr).add 0) = ⟨b, 0, none⟩ from rfl, hc]
    exact congrArg (fun z => some (Value.int .u8 z)) (u8_of v h0 h1).symm)
  exact this
theorem below_of_drew {B : Nat} {w w' : World} (h : Below B w.drew w') : Below B w w' := ⟨h.os, h.tape, h.output, h.size, h.block⟩
theorem below_of_drew' {w w' : World} {X : Obj} (h : Below ((w.alloc X).drew).heap.size ((w.alloc X).drew) w') : Below w.heap.size (w.alloc X) w' := (below_of_drew h).mono (by simp)
theorem bcell {W w1 : World} (hb : Below W.heap.size W w1) : (∀ b o, b < W.heap.size → w1.cell? ⟨b, o, none⟩ = W.cell? ⟨b, o, none⟩) ∧ (∀ b o, b < W.heap.size → w1.frozen? ⟨b, o, none⟩ = W.frozen? ⟨b, o, none⟩) :=
  ⟨fun b o h => hb.cell (p := ⟨b, o, none⟩) h, fun b o h => hb.frozen (p := ⟨b, o, none⟩) h⟩

theorem dec_len (k : Nat) : ∀ n, n < 10 ^ (k + 1) → (Lib.decDigits n).length ≤ k + 1 := by
  induction k with
  | zero => intro n h; rw [Lib.decDigits_one (by simpa using h)]; simp
  | succ k ih =>
    intro n h
    by_cases h10 : n < 10
    · rw [Lib.decDigits_one h10]; simp
    · rw [Lib.decDigits, dif_neg h10, List.length_append]
      have := ih (n / 10) (by rw [Nat.pow_succ] at h; omega)
      simp
      omega
theorem dec_len7 (n : Nat) (h : n ≤ 1000000) : (Lib.decDigits n).length ≤ 7 := dec_len 6 n (by omega)

theorem bits_bd (x y : Int) (only : Bool) (k : Nat) : 0 ≤ Sp.bitsTo x y only k ∧ Sp.bitsTo x y only k < 2 ^ k := by
  induction k with
  | zero => simp [Sp.bitsTo]
  | succ k ih =>
    simp only [Sp.bitsTo]
    have h2 : (2 : Int) ^ (k + 1) = 2 * 2 ^ k := by rw [Int.pow_succ]; omega
    rw [h2]
    split <;> omega
theorem pow_le16 (k : Nat) (h : k ≤ 16) : (1 : Int) ≤ 2 ^ k ∧ (2 : Int) ^ k ≤ 65536 := by
  have : k = 0 ∨ k = 1 ∨ k = 2 ∨ k = 3 ∨ k = 4 ∨ k = 5 ∨ k = 6 ∨ k = 7 ∨ k = 8 ∨ k = 9 ∨ k = 10 ∨ k = 11 ∨ k = 12 ∨ k = 13 ∨ k = 14 ∨ k = 15 ∨ k = 16 := by omega
  rcases this with rfl | rfl | rfl | rfl | rfl | rfl | rfl | rfl | rfl | rfl | rfl | rfl | rfl | rfl | rfl | rfl | rfl <;> decide
theorem pow_16 (k : Nat) (h : k ≤ 16) : ((2 : Int) ^ k ≤ 65535 ↔ k < 16) := by
  have : k = 0 ∨ k = 1 ∨ k = 2 ∨ k = 3 ∨ k = 4 ∨ k = 5 ∨ k = 6 ∨ k = 7 ∨ k = 8 ∨ k = 9 ∨ k = 10 ∨ k = 11 ∨ k = 12 ∨ k = 13 ∨ k = 14 ∨ k = 15 ∨ k = 16 := by omega
  rcases this with rfl | rfl | rfl | rfl | rfl | rfl | rfl | rfl | rfl | rfl | rfl | rfl | rfl | rfl | rfl | rfl | rfl <;> decide

end Go.Proofs.YtccndnckceagfabGreatDoorR

namespace Go.Proofs.YtccndnckceagfabGreatDoorR
open Go.RowKit

namespace Sp
structure St where
  hold : Nat → Int
  next : Int
  status : Int
  value : Int
  pub : Nat → Int
  sec : Nat → Int
  trace : ByteArray
  regs : Nat → Int
  slots : Nat → Int
/-- all numbers are values, the trace is not too long -/
structure St.ok (st : St) (n : Nat) : Prop where
  hold : ∀ k, 0 ≤ st.hold k ∧ st.hold k ≤ 65535
  pub : ∀ k, 0 ≤ st.pub k ∧ st.pub k ≤ 65535
  sec : ∀ k, 0 ≤ st.sec k ∧ st.sec k ≤ 65535
  trace : st.trace.size ≤ n
def upd (f : Nat → Int) (k : Nat) (v : Int) : Nat → Int := fun j => if j = k then v else f j
end Sp

def stF (s : ByteArray) (st : Sp.St) (j : Nat) : Value :=
  if j = 0 then .string s
  else if j ≤ 128 then .int .i64 (st.hold (j - 1))
  else if j = 129 then .int .i64 st.next
  else if j = 130 then .int .i64 st.status
  else if j = 131 then .int .i64 st.value
  else if j ≤ 139 then .int .i64 (st.pub (j - 132))
  else if j ≤ 147 then .int .i64 (st.sec (j - 140))
  else if j = 148 then .string st.trace
  else if j ≤ 158 then .int .i64 (st.regs (j - 149))
  else .int .i64 (st.slots (j - 159))
end Go.Proofs.YtccndnckceagfabGreatDoorR

namespace Go.Proofs.YtccndnckceagfabGreatDoorR
open Go.RowKit

namespace Sp
structure Inp where
  args : Nat → Int
  pub : Nat → Int
  sec : Nat → Int
def Inp.at' (I : Inp) (j : Nat) : Int := if j < 4 then I.args j else if j < 12 then I.pub (j - 4) else I.sec (j - 12)
/-- may a run begin so? -/
def mayB (I : Inp) (fuel : Int) : Bool := ((List.range 20).all fun j => valB (I.at' j)) && decide (0 ≤ fuel ∧ fuel ≤ 20000)
end Sp
def inF (I : Sp.Inp) (j : Nat) : Value := .int .i64 (I.at' j)
def inA (I : Sp.Inp) : Array Value := ((List.range 20).map (inF I)).toArray
theorem inA_size (I : Sp.Inp) : (inA I).size = 20 := by simp [inA]
theorem inA_at (I : Sp.Inp) (j : Nat) (h : j < 20) : (inA I)[j]? = some (.int .i64 (I.at' j)) := by simp [inA, h, inF]
theorem in_row (w : World) (I : Sp.Inp) (t : Nat) : (w.alloc (.cells (inA I) t)).rowIs w.heap.size t 20 (inF I) := by
  have h := World.rowIs_alloc w (inA I) t (inF I) (fun j hj => by rw [inA_size] at hj; exact inA_at I j hj)
  rw [inA_size] at h
  exact h

theorem may_no (I : Sp.Inp) (fuel : Int) (j : Nat) (hj : j < 20) (h : Sp.valB (I.at' j) = false) : Sp.mayB I fuel = false := by
  unfold Sp.mayB
  have : ((List.range 20).all fun j => Sp.valB (I.at' j)) = false := List.all_eq_false.2 ⟨j, List.mem_range.2 hj, by simp [h]⟩
  rw [this, Bool.false_and]
theorem may_yes (I : Sp.Inp) (fuel : Int) (h1 : ∀ j, j < 4 → Sp.valB (I.at' j) = true) (h2 : ∀ j, j < 8 → Sp.valB (I.at' (4 + j)) = true ∧ Sp.valB (I.at' (12 + j)) = true) : Sp.mayB I fuel = decide (0 ≤ fuel ∧ fuel ≤ 20000) := by
  unfold Sp.mayB
  have : ((List.range 20).all fun j => Sp.valB (I.at' j)) = true := List.all_eq_true.2 fun j hj => by
    have hj' := List.mem_range.1 hj
    by_cases c1 : j < 4
    · exact h1 j c1
    · by_cases c2 : j < 12
      · have := (h2 (j - 4) (by omega)).1
        rwa [show 4 + (j - 4) = j from by omega] at this
      · have := (h2 (j - 12) (by omega)).2
        rwa [show 12 + (j - 12) = j from by omega] at this
  rw [this, Bool.true_and]

end Go.Proofs.YtccndnckceagfabGreatDoorR
