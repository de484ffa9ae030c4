/-
  What the machine's and, xor of whole numbers are, bit by bit.
  The state of the program's own run, in memory; its smallest functions.
  The program's run: what is laid behind the trace; what is reckoned.
  The program's run: a branch, a piece of the frame, where a block begins.
  No number is written here.
  The program's run: the instructions that go to a memory.
  The program's run: the instructions that go to a memory, walked.
  The program's run: moves between places; where a block begins.
  The program's run: one step.
  The program's run: step after step.
-/
import Derived.Test.YtccndnckceagfabDoorG03
import Derived.Laws.Bits128
import Derived.Test.YtccndnckceagfabDoorHPSim
import Derived.Test.YtccndnckceagfabDoorHDev8
import Derived.Lib.AppendStr
import Derived.Test.YtccndnckceagfabDoorProg
namespace Go.Proofs.YtccndnckceagfabDoor
open Go
namespace Sp

theorem bit_at (a k : Nat) : ((a : Int) / 2 ^ k % 2 == 1) = a.testBit k := by
  rw [Nat.testBit_eq_decide_div_mod_eq]
  have e : ((a : Int) / 2 ^ k % 2) = ((a / 2 ^ k % 2 : Nat) : Int) := by push_cast; rfl
  rw [e, Bool.eq_iff_iff]
  simp only [beq_iff_eq, decide_eq_true_eq]
  omega
theorem mod_step (n k : Nat) : n % 2 ^ (k + 1) = n % 2 ^ k + if n.testBit k = true then 2 ^ k else 0 := by
  rw [Nat.mod_pow_succ, Nat.testBit_eq_decide_div_mod_eq]
  have : n / 2 ^ k % 2 = 0 ∨ n / 2 ^ k % 2 = 1 := by omega
  rcases this with h | h <;> rw [h] <;> simp
theorem bitsTo_and (a b k : Nat) : bitsTo a b false k = (((a &&& b) % 2 ^ k : Nat) : Int) := by
  induction k with
  | zero => simp [bitsTo, Nat.mod_one]
  | succ k ih =>
    simp only [bitsTo]
    rw [ih, mod_step, Nat.testBit_and, bit_at, bit_at]
    cases a.testBit k <;> cases b.testBit k <;> simp
theorem bitsTo_xor (a b k : Nat) : bitsTo a b true k = (((a ^^^ b) % 2 ^ k : Nat) : Int) := by
  induction k with
  | zero => simp [bitsTo, Nat.mod_one]
  | succ k ih =>
    simp only [bitsTo]
    rw [ih, mod_step, Nat.testBit_xor, bit_at, bit_at]
    cases a.testBit k <;> cases b.testBit k <;> simp
theorem and_top (n : Int) : bits .and .i64 n 65535 = n % 65536 := by
  have h127 : (BitVec.ofInt 64 65535).toNat = 2 ^ 16 - 1 := by decide
  have key : (BitVec.ofInt 64 n &&& BitVec.ofInt 64 65535).toNat = (n % ((2 ^ 64 : Nat) : Int)).toNat % 2 ^ 16 := by
    rw [BitVec.toNat_and, BitVec.toNat_ofInt, h127, Nat.and_two_pow_sub_one_eq_mod]
  show IntKind.i64.wrap ((BitVec.ofInt 64 n &&& BitVec.ofInt 64 65535).toNat : Nat) = n % 65536
  rw [key, IntKind.wrap_i64]
  omega
theorem and_small (x y : Int) (x0 : 0 ≤ x) (x1 : x ≤ 65535) (y0 : 0 ≤ y) (y1 : y ≤ 65535) : bits .and .i64 x y = bitsTo x y false 16 := by
  obtain ⟨a, rfl⟩ := Int.eq_ofNat_of_zero_le x0
  obtain ⟨b, rfl⟩ := Int.eq_ofNat_of_zero_le y0
  have ha : (BitVec.ofInt 64 (a : Int)).toNat = a := by
    rw [BitVec.ofInt_natCast, BitVec.toNat_ofNat]; exact Nat.mod_eq_of_lt (by omega)
  have hb : (BitVec.ofInt 64 (b : Int)).toNat = b := by
    rw [BitVec.ofInt_natCast, BitVec.toNat_ofNat]; exact Nat.mod_eq_of_lt (by omega)
  have hl : a &&& b < 2 ^ 16 := Nat.and_lt_two_pow _ (by omega)
  rw [bitsTo_and, Nat.mod_eq_of_lt hl]
  show IntKind.i64.wrap ((BitVec.ofInt 64 (a : Int) &&& BitVec.ofInt 64 (b : Int)).toNat : Nat) = _
  rw [BitVec.toNat_and, ha, hb, IntKind.wrap_i64]
  omega
theorem xor_small (x y : Int) (x0 : 0 ≤ x) (x1 : x ≤ 65535) (y0 : 0 ≤ y) (y1 : y ≤ 65535) : bits .xor .i64 x y = bitsTo x y true 16 := by
  obtain ⟨a, rfl⟩ := Int.eq_ofNat_of_zero_le x0
  obtain ⟨b, rfl⟩ := Int.eq_ofNat_of_zero_le y0
  have ha : (BitVec.ofInt 64 (a : Int)).toNat = a := by
    rw [BitVec.ofInt_natCast, BitVec.toNat_ofNat]; exact Nat.mod_eq_of_lt (by omega)
  have hb : (BitVec.ofInt 64 (b : Int)).toNat = b := by
    rw [BitVec.ofInt_natCast, BitVec.toNat_ofNat]; exact Nat.mod_eq_of_lt (by omega)
  have hl : a ^^^ b < 2 ^ 16 := Nat.xor_lt_two_pow (by omega) (by omega)
  rw [bitsTo_xor, Nat.mod_eq_of_lt hl]
  show IntKind.i64.wrap ((BitVec.ofInt 64 (a : Int) ^^^ BitVec.ofInt 64 (b : Int)).toNat : Nat) = _
  rw [BitVec.toNat_xor, ha, hb, IntKind.wrap_i64]
  omega
end Sp
end Go.Proofs.YtccndnckceagfabDoor

namespace Go.Proofs.YtccndnckceagfabDoor
open Go.RowKit

/-- the cells of a run's state, v being its trace -/
def pF (m : Sp.PSt) (v : Value) (j : Nat) : Value :=
  if j < 62 then .int .i64 (m.pl j)
  else if j < 70 then .int .i64 (m.pub (j - 62))
  else if j < 78 then .int .i64 (m.sec (j - 70))
  else if j = 78 then v
  else if j = 79 then .bool m.ended
  else if j = 80 then .int .i64 m.status
  else .int .i64 m.value
theorem Only.but {b B : Nat} {w w' : World} (h : Only b w w') : But B b w w' := ⟨h.os, h.tape, h.output, by rw [h.size]; exact Nat.le_refl _, fun k _ hk => h.block k hk⟩
/-- a row of the run's own stays where nothing but block b has turned -/
theorem own_only {w w' : World} {B b e size n : Nat} {v : Value} {xs : List Value} (h : w.ownsRow B e size v n xs) (ho : Only b w w') (hb : b < B) : w'.ownsRow B e size v n xs :=
  own_move h fun k hk => ho.block k (by have := (h.lt k hk).1; omega)

theorem info_u8 : ∃ i, Tryd.prog.info? 5 = some i ∧ i.zero = some (.int .u8 0) ∧ i.size = 1 ∧ i.bytes = 1 := by
  cases h : Tryd.prog.info? 5 with
  | none => exact absurd h (by intro h; have : (Tryd.prog.info? 5).isSome = true := by kernel_rfl
                               rw [h] at this; cases this)
  | some i =>
    refine ⟨i, rfl, ?_, ?_, ?_⟩
    · have : (Tryd.prog.info? 5).bind (·.zero) = some (.int .u8 0) := by kernel_rfl
      rw [h] at this; exact this
    · have : (Tryd.prog.info? 5).map (·.size) = some 1 := by kernel_rfl
      rw [h] at this; simpa using this
    · have : (Tryd.prog.info? 5).map (·.bytes) = some 1 := by kernel_rfl
      rw [h] at this; simpa using this
theorem strCells_append (t s : ByteArray) : Lib.strCells (t ++ s) = Lib.strCells t ++ Lib.strCells s := by
  unfold Lib.strCells
  rw [ByteArray.data_append, Array.toList_append, List.map_append]

/-- what a part of a run leaves: all but block b, what lies from B on, and rows of bytes -/
structure Fr (B b : Nat) (w w' : World) : Prop where
  but : But B b w w'
  row : ∀ k c t, k ≠ b → t ≠ 5 → w.heap[k]? = some (.cells c t (0, 0)) → w'.heap[k]? = w.heap[k]?
theorem Fr.refl (B b : Nat) (w : World) : Fr B b w w := ⟨But.refl _ _ _, fun _ _ _ _ _ _ => rfl⟩
theorem Fr.trans {B b : Nat} {u v w : World} (h : Fr B b u v) (k : Fr B b v w) : Fr B b u w :=
  ⟨h.but.trans k.but, fun j c t hj ht hc => (k.row j c t hj ht ((h.row j c t hj ht hc).trans hc)).trans (h.row j c t hj ht hc)⟩
theorem lt_of_block {w : World} {k : Nat} {o : Obj} (h : w.heap[k]? = some o) : k < w.heap.size := (Array.getElem?_eq_some_iff.1 h).1
theorem Fr.of_below {B b : Nat} {w w' : World} (h : Below w.heap.size w w') (hB : B ≤ w.heap.size) : Fr B b w w' :=
  ⟨But.of_below (h.mono hB), fun k _ _ _ _ hc => h.block k (lt_of_block hc)⟩
theorem Fr.of_only {B b : Nat} {w w' : World} (h : Only b w w') : Fr B b w w' := ⟨h.but, fun k _ _ hk _ _ => h.block k hk⟩
theorem Fr.rows {B b k t n : Nat} {w w' : World} {f : Nat → Value} (h : Fr B b w w') (hr : w.rowIs k t n f) (hk : k ≠ b) (ht : t ≠ 5) : w'.rowIs k t n f := by
  obtain ⟨c, hc, h1, h2⟩ := hr
  exact ⟨c, (h.row k c t hk ht hc).trans hc, h1, h2⟩
theorem Fr.size {B b : Nat} {w w' : World} (h : Fr B b w w') : w.heap.size ≤ w'.heap.size := h.but.size
theorem Fr.owns {B b B' e size n : Nat} {w w' : World} {v : Value} {xs : List Value} (h : Fr B b w w') (ho : w.ownsRow B' e size v n xs) (hb : ∀ k, v.ownBlock = some k → k ≠ b) (he : e ≠ 5) : w'.ownsRow B' e size v n xs :=
  own_move ho fun k hk => by
    obtain ⟨cur, hc⟩ := own_block ho hk
    exact h.row k cur e (hb k hk) he hc

end Go.Proofs.YtccndnckceagfabDoor

namespace Go.Proofs.YtccndnckceagfabDoor
open Go.RowKit

set_option maxHeartbeats 400000 in
theorem lettr_any (n : Int) (w : World) :
    Calls Tryd.prog 45 #[.int .i64 n] w fun e w' => e = .returned (.int .u8 (Sp.letP n)) ∧ w = w' := by
  by_cases h : 0 ≤ n ∧ n < 52
  · obtain ⟨h1, h2⟩ := h
    have HP := hid (show Sp.letP n = Sp.B Sp.alpha n.toNat by unfold Sp.letP; rw [if_pos ⟨h1, h2⟩])
    obtain ⟨k, rfl⟩ := Int.eq_ofNat_of_zero_le h1
    have hk : k < 52 := by omega
    have hix : ∀ W : World, (Instr.index 9 (.string ⟨#[97, 98, 99, 100, 101, 102, 103, 104, 105, 106, 107, 108, 109, 110, 111, 112, 113, 114, 115, 116, 117, 118, 119, 120, 121, 122, 65, 66, 67, 68, 69, 70, 71, 72, 73, 74, 75, 76, 77, 78, 79, 80, 81, 82, 83, 84, 85, 86, 87, 88, 89, 90]⟩) (.int .i64 (k : Int))).run Tryd.prog W = .ok (.int .u8 (Sp.B Sp.alpha k)) W := by
      intro W
      have hz : k < Sp.alpha.size := hk
      show (Instr.index 9 (.string Sp.alpha) (.int .i64 (k : Int))).run Tryd.prog W = .ok (.int .u8 (Sp.B Sp.alpha k)) W
      rw [run_index_string W 9 Sp.alpha .i64 _ Tryd.underlying9, dif_pos (by omega)]
      exact congrArg (fun z => Result.ok (Value.int .u8 z) W) (Sp.B_get Sp.alpha k hz)
    go_enter Tryd.func45, Tryd.ntmps45
    go_wp2_with fail
    go_ret
    refine ⟨?_, rfl⟩
    rw [HP.out]
    rfl
  · have HP := hid (show Sp.letP n = 46 by unfold Sp.letP; rw [if_neg h])
    by_cases h1 : n < 0
    · clear h
      go_enter Tryd.func45, Tryd.ntmps45
      go_wp2_with fail
      go_ret
      refine ⟨?_, rfl⟩
      rw [HP.out]
      rfl
    · have h2 : 52 ≤ n := by omega
      clear h
      go_enter Tryd.func45, Tryd.ntmps45
      go_wp2_with fail
      go_ret
      refine ⟨?_, rfl⟩
      rw [HP.out]
      rfl

end Go.Proofs.YtccndnckceagfabDoor

namespace Go.Proofs.YtccndnckceagfabDoor
open Go.RowKit

theorem below_box (w : World) (X : Obj) : Below w.heap.size w (w.alloc X) := (Below.refl _ _).alloc (Nat.le_refl _) X

theorem fr_box {B b : Nat} (w : World) (X : Obj) (hB : B ≤ w.heap.size) : Fr B b w (w.alloc X) := Fr.of_below (below_box w X) hB
theorem wrP_trace (m : Sp.PSt) (p x : Int) : (Sp.wrP m p x).trace = m.trace := by unfold Sp.wrP; split <;> rfl
end Go.Proofs.YtccndnckceagfabDoor



namespace Go.Proofs.YtccndnckceagfabDoor
open Go.RowKit

theorem below_grow (w : World) (k : Nat) (os : Array Obj) : Below w.heap.size w (Sort.grow (w.drewN k) os) :=
  ⟨rfl, rfl, rfl, by simp [Sort.grow, World.drewN], fun j hj => by
    show (w.heap ++ os)[j]? = w.heap[j]?
    rw [Array.getElem?_append_left hj]⟩
theorem dec_pos (n : Nat) : 0 < (⟨(Lib.decDigits n).toArray⟩ : ByteArray).size := by
  show 0 < (Lib.decDigits n).toArray.size
  rw [List.size_toArray]
  unfold Lib.decDigits
  split <;> simp
theorem dec_len5 (n : Nat) (h : n ≤ 65535) : (⟨(Lib.decDigits n).toArray⟩ : ByteArray).size ≤ 7 := by
  show (Lib.decDigits n).toArray.size ≤ 7
  rw [List.size_toArray]
  have := dec_len 6 n (by omega)
  omega
theorem one_cells (o : Int) (h0 : 0 ≤ o) (h1 : o ≤ 255) : Lib.strCells ⟨#[UInt8.ofNat o.toNat]⟩ = [.int .u8 o] := by
  show [Value.int .u8 ((UInt8.ofNat o.toNat).toNat : Int)] = [.int .u8 o]
  rw [u8_of o h0 h1]
theorem shP_shP (m : Sp.PSt) (s t : ByteArray) : Sp.shP (Sp.shP m s) t = Sp.shP m (s ++ t) := by
  unfold Sp.shP
  rw [ByteArray.append_assoc]
end Go.Proofs.YtccndnckceagfabDoor

namespace Go.Proofs.YtccndnckceagfabDoor
open Go.RowKit

theorem below_byte (w : World) (o : Int) : Below w.heap.size w ((w.alloc (.cells #[.int .u8 o] 5)).drew) := ((Below.refl _ _).alloc (Nat.le_refl _) _).drew

theorem mem_size (m : Sp.PSt) (o V : Int) (hV : V ≤ 65535) (ht : m.trace.size ≤ 90000000) : (Sp.shP m (Sp.memT o V)).trace.size ≤ 100000000 := by
  show (m.trace ++ (⟨#[UInt8.ofNat o.toNat]⟩ ++ ⟨(Lib.decDigits V.toNat).toArray⟩)).size ≤ _
  rw [ByteArray.size_append, ByteArray.size_append]
  have := dec_len5 V.toNat (by omega)
  have e : (⟨#[UInt8.ofNat o.toNat]⟩ : ByteArray).size = 1 := rfl
  omega

end Go.Proofs.YtccndnckceagfabDoor

namespace Go.Proofs.YtccndnckceagfabDoor
open Go.RowKit

theorem letP_bd (n : Int) : 0 ≤ Sp.letP n ∧ Sp.letP n ≤ 255 := by
  unfold Sp.letP
  split
  · exact Sp.B_bd _ _
  · omega
theorem two_cells (o p : Int) (h0 : 0 ≤ o) (h1 : o ≤ 255) (h2 : 0 ≤ p) (h3 : p ≤ 255) : Lib.strCells ⟨#[UInt8.ofNat o.toNat, UInt8.ofNat p.toNat]⟩ = [.int .u8 o, .int .u8 p] := by
  show [Value.int .u8 ((UInt8.ofNat o.toNat).toNat : Int), Value.int .u8 ((UInt8.ofNat p.toNat).toNat : Int)] = _
  rw [u8_of o h0 h1, u8_of p h2 h3]

theorem isSlot_any (p : Int) (w : World) : Calls Tryd.prog 79 #[.int .i64 p] w fun e w' => e = .returned (.bool (decide (10 ≤ p))) ∧ w = w' := by
  go_enter Tryd.func79, Tryd.ntmps79
  go_wp2_with fail
  go_ret
  exact ⟨rfl, rfl⟩

theorem slt_size (m : Sp.PSt) (o p : Int) : (Sp.sltP m o p).trace.size ≤ m.trace.size + 2 := by
  unfold Sp.sltP
  split
  · omega
  · show (m.trace ++ ⟨#[UInt8.ofNat o.toNat, UInt8.ofNat (Sp.letP (p - 10)).toNat]⟩).size ≤ _
    rw [ByteArray.size_append]
    exact Nat.le_refl _

end Go.Proofs.YtccndnckceagfabDoor

namespace Go.Proofs.YtccndnckceagfabDoor
open Go.RowKit

theorem rdP_bd {m : Sp.PSt} {n : Nat} (h : m.ok n) (p : Int) : 0 ≤ Sp.rdP m p ∧ Sp.rdP m p ≤ 65535 := by
  unfold Sp.rdP
  split
  · exact h.pl _
  · omega
/-- the bounds of an instruction that was read -/
structure insOk (i : Sp.Ins) : Prop where
  o : 0 ≤ i.o ∧ i.o ≤ 255
  d : i.d ≤ 1000
  x : i.x ≤ 1000
  n : 0 ≤ i.n ∧ i.n ≤ 99

end Go.Proofs.YtccndnckceagfabDoor

namespace Go.Proofs.YtccndnckceagfabDoor
open Go.RowKit
namespace Sp
theorem PSt.ok.mono {m : PSt} {n k : Nat} (h : m.ok n) (hk : n ≤ k) : m.ok k := ⟨h.pl, h.pub, h.sec, Nat.le_trans h.trace hk⟩
theorem shP_ok {m : PSt} {n : Nat} (h : m.ok n) (t : ByteArray) (k : Nat) (hk : n + t.size ≤ k) : (shP m t).ok k :=
  ⟨h.pl, h.pub, h.sec, by show (m.trace ++ t).size ≤ k; rw [ByteArray.size_append]; have := h.trace; omega⟩
theorem upd_ok {f : Nat → Int} (h : ∀ k, 0 ≤ f k ∧ f k ≤ 65535) (j : Nat) {v : Int} (hv : 0 ≤ v ∧ v ≤ 65535) : ∀ k, 0 ≤ upd f j v k ∧ upd f j v k ≤ 65535 := fun k => by
  unfold upd
  split
  · exact hv
  · exact h k
theorem wrP_ok {m : PSt} {n : Nat} (h : m.ok n) (p : Int) {v : Int} (hv : 0 ≤ v ∧ v ≤ 65535) : (wrP m p v).ok n := by
  unfold wrP
  split
  · exact ⟨upd_ok h.pl _ hv, h.pub, h.sec, h.trace⟩
  · exact h
theorem endP_ok {m : PSt} {n : Nat} (h : m.ok n) (s : Int) : (endP m s).ok n := ⟨h.pl, h.pub, h.sec, h.trace⟩
theorem sltP_ok {m : PSt} {n : Nat} (h : m.ok n) (o p : Int) : (sltP m o p).ok (n + 2) := by
  unfold sltP
  split
  · exact h.mono (by omega)
  · exact shP_ok h _ _ (Nat.le_refl _)
theorem cmpP_ok {o x y n : Int} (x0 : 0 ≤ x ∧ x ≤ 65535) (y0 : 0 ≤ y ∧ y ≤ 65535) (hn : 0 ≤ n ∧ n ≤ 99) : 0 ≤ cmpP o x y n ∧ cmpP o x y n ≤ 65535 := by
  unfold cmpP
  split
  · exact cntS_bd o x y x0.1 y0.1
  · split
    · exact x0
    · omega
theorem reaP_ok {m : PSt} {n : Nat} (h : m.ok n) (i : Ins) (hx : 0 ≤ rdP m i.x ∧ rdP m i.x ≤ 65535) (hy : 0 ≤ rdP m i.y ∧ rdP m i.y ≤ 65535) : (reaP m i).ok (n + 9) := by
  have hsz : (memT i.o (rdP m i.x)).size ≤ 8 := by
    unfold memT
    rw [ByteArray.size_append]
    have := dec_len5 (rdP m i.x).toNat (by omega)
    have e : (⟨#[UInt8.ofNat i.o.toNat]⟩ : ByteArray).size = 1 := rfl
    omega
  have h1 : (shP m (memT i.o (rdP m i.x))).ok (n + 8) := shP_ok h _ _ (by omega)
  unfold reaP
  simp only
  split
  · exact endP_ok (shP_ok h1 ⟨#[33]⟩ _ (Nat.le_refl _)) _
  · split
    · exact (wrP_ok h1 _ (h1.pub _)).mono (by omega)
    · split
      · exact (wrP_ok h1 _ (h1.sec _)).mono (by omega)
      · split
        · exact ⟨h1.pl, upd_ok h1.pub _ hy, h1.sec, Nat.le_trans h1.trace (by omega)⟩
        · exact ⟨h1.pl, h1.pub, upd_ok h1.sec _ hy, Nat.le_trans h1.trace (by omega)⟩
end Sp
theorem stepP_ok {F : Int → Int} {m : Sp.PSt} {n : Nat} (h : m.ok n) (a : Int) {i : Sp.Ins} (hi : insOk i) : (Sp.stepP F m a i).1.ok (n + 9) := by
  have hx := rdP_bd h i.x
  have hy := rdP_bd h i.y
  unfold Sp.stepP
  split
  · exact h.mono (by omega)
  split
  · split
    · exact Sp.shP_ok h _ _ (by show n + 2 ≤ n + 9; omega)
    · exact Sp.shP_ok h _ _ (by show n + 2 ≤ n + 9; omega)
  split
  · exact Sp.endP_ok (m := { m with value := Sp.rdP m i.x }) ⟨h.pl, h.pub, h.sec, Nat.le_trans h.trace (by omega)⟩ _
  split
  · exact Sp.reaP_ok h i hx hy
  split
  · have h2 := Sp.sltP_ok (Sp.sltP_ok h i.o i.d) i.o i.x
    exact (Sp.wrP_ok h2 _ (rdP_bd h2 i.x)).mono (by omega)
  · exact (Sp.wrP_ok h _ (Sp.cmpP_ok hx hy hi.n)).mono (by omega)
theorem stepP_next {L : List (Nat × Nat)} {m : Sp.PSt} {a : Int} {i : Sp.Ins} (hL : ∀ q, -1 ≤ Sp.strP L q ∧ Sp.strP L q ≤ 5000) (ha : -1 ≤ a ∧ a < 5000) : -1 ≤ (Sp.stepP (Sp.strP L) m a i).2 ∧ (Sp.stepP (Sp.strP L) m a i).2 ≤ 5000 := by
  have h1 := hL i.k
  have h2 := hL i.m
  unfold Sp.stepP
  repeat' split
  all_goals (simp only; omega)

end Go.Proofs.YtccndnckceagfabDoor
