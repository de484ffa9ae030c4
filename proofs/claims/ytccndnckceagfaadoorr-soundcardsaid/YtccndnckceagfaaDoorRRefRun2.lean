/-
  The state of the document's own run, in memory; its memory instructions.
-/
import Derived.Test.YtccndnckceagfaaDoorRRefRun1
import Derived.Test.YtccndnckceagfaaDoorRDev4
namespace Go.Proofs.YtccndnckceagfaaDoorR
open Go.RowKit

namespace Sp
structure St where
  hold : Nat → Int
  next : Int
  status : Int
  value : Int
  pub : Nat → Int
  sec : Nat → Int
  trace : ByteArray
  regs : Nat → Int
  slots : Nat → Int
/-- all numbers are values, the trace is not too long -/
structure St.ok (st : St) (n : Nat) : Prop where
  hold : ∀ k, 0 ≤ st.hold k ∧ st.hold k ≤ 65535
  pub : ∀ k, 0 ≤ st.pub k ∧ st.pub k ≤ 65535
  sec : ∀ k, 0 ≤ st.sec k ∧ st.sec k ≤ 65535
  trace : st.trace.size ≤ n
def upd (f : Nat → Int) (k : Nat) (v : Int) : Nat → Int := fun j => if j = k then v else f j
end Sp

def stF (s : ByteArray) (st : Sp.St) (j : Nat) : Value :=
  if j = 0 then .string s
  else if j ≤ 128 then .int .i64 (st.hold (j - 1))
  else if j = 129 then .int .i64 st.next
  else if j = 130 then .int .i64 st.status
  else if j = 131 then .int .i64 st.value
  else if j ≤ 139 then .int .i64 (st.pub (j - 132))
  else if j ≤ 147 then .int .i64 (st.sec (j - 140))
  else if j = 148 then .string st.trace
  else if j ≤ 158 then .int .i64 (st.regs (j - 149))
  else .int .i64 (st.slots (j - 159))
/-- at block b lies the state st of a run of the text s -/
def StAt (w : World) (b : Nat) (s : ByteArray) (st : Sp.St) : Prop := w.rowIs b 70 211 (stF s st)

theorem StAt.s {w : World} {b : Nat} {s : ByteArray} {st : Sp.St} (h : StAt w b s st) : w.cell? ⟨b, 0, none⟩ = some (.string s) := h.cell (i := 0) (by omega)
theorem StAt.hold {w : World} {b : Nat} {s : ByteArray} {st : Sp.St} (h : StAt w b s st) (k : Nat) (hk : k < 128) : w.cell? ⟨b, 1 + k, none⟩ = some (.int .i64 (st.hold k)) := by
  have := World.rowIs.cell h (i := 1 + k) (by omega)
  rw [this]
  unfold stF
  rw [if_neg (by omega), if_pos (by omega), Nat.add_sub_cancel_left]
theorem StAt.next {w : World} {b : Nat} {s : ByteArray} {st : Sp.St} (h : StAt w b s st) : w.cell? ⟨b, 129, none⟩ = some (.int .i64 st.next) := World.rowIs.cell h (i := 129) (by omega)
theorem StAt.status {w : World} {b : Nat} {s : ByteArray} {st : Sp.St} (h : StAt w b s st) : w.cell? ⟨b, 130, none⟩ = some (.int .i64 st.status) := World.rowIs.cell h (i := 130) (by omega)
theorem StAt.value {w : World} {b : Nat} {s : ByteArray} {st : Sp.St} (h : StAt w b s st) : w.cell? ⟨b, 131, none⟩ = some (.int .i64 st.value) := World.rowIs.cell h (i := 131) (by omega)
theorem StAt.pub {w : World} {b : Nat} {s : ByteArray} {st : Sp.St} (h : StAt w b s st) (k : Nat) (hk : k < 8) : w.cell? ⟨b, 132 + k, none⟩ = some (.int .i64 (st.pub k)) := by
  have := World.rowIs.cell h (i := 132 + k) (by omega)
  rw [this]
  unfold stF
  rw [if_neg (by omega), if_neg (by omega), if_neg (by omega), if_neg (by omega), if_neg (by omega), if_pos (by omega), Nat.add_sub_cancel_left]
theorem StAt.sec {w : World} {b : Nat} {s : ByteArray} {st : Sp.St} (h : StAt w b s st) (k : Nat) (hk : k < 8) : w.cell? ⟨b, 140 + k, none⟩ = some (.int .i64 (st.sec k)) := by
  have := World.rowIs.cell h (i := 140 + k) (by omega)
  rw [this]
  unfold stF
  rw [if_neg (by omega), if_neg (by omega), if_neg (by omega), if_neg (by omega), if_neg (by omega), if_neg (by omega), if_pos (by omega), Nat.add_sub_cancel_left]
theorem StAt.trace {w : World} {b : Nat} {s : ByteArray} {st : Sp.St} (h : StAt w b s st) : w.cell? ⟨b, 148, none⟩ = some (.string st.trace) := World.rowIs.cell h (i := 148) (by omega)
theorem StAt.free {w : World} {b : Nat} {s : ByteArray} {st : Sp.St} (h : StAt w b s st) (j : Nat) : w.frozen? ⟨b, j, none⟩ = false := World.rowIs.frozen h j
theorem StAt.of_block {w w' : World} {b : Nat} {s : ByteArray} {st : Sp.St} (h : StAt w b s st) (e : w'.heap[b]? = w.heap[b]?) : StAt w' b s st := World.rowIs.of_block h e
theorem StAt.lt {w : World} {b : Nat} {s : ByteArray} {st : Sp.St} (h : StAt w b s st) : b < w.heap.size := World.rowIs.lt h
theorem StAt.setHold {w : World} {b : Nat} {s : ByteArray} {st : Sp.St} (h : StAt w b s st) (k : Nat) (hk : k < 128) (v : Int) : StAt (w.setCell ⟨b, 1 + k, none⟩ (.int .i64 v)) b s { st with hold := Sp.upd st.hold k v } := by
  refine (World.rowIs.set h (1 + k) (.int .i64 v)).congr (fun j hj => ?_)
  unfold stF
  by_cases e : j = 1 + k
  · rw [if_pos e, if_neg (by omega), if_pos (by omega)]
    simp [Sp.upd, e]
  · rw [if_neg e]
    by_cases e1 : j = 0
    · rw [if_pos e1, if_pos e1]
    · rw [if_neg e1, if_neg e1]
      by_cases e2 : j ≤ 128
      · rw [if_pos e2, if_pos e2]
        simp only [Sp.upd]
        rw [if_neg (by omega)]
      · rw [if_neg e2, if_neg e2]
theorem StAt.setOne {w : World} {b : Nat} {s : ByteArray} {st st' : Sp.St} (h : StAt w b s st) (j : Nat) (v : Value) (e : ∀ i, i < 211 → stF s st' i = if i = j then v else stF s st i) : StAt (w.setCell ⟨b, j, none⟩ v) b s st' :=
  (World.rowIs.set h j v).congr (fun i hi => (e i hi).symm)
theorem StAt.setNext {w : World} {b : Nat} {s : ByteArray} {st : Sp.St} (h : StAt w b s st) (v : Int) : StAt (w.setCell ⟨b, 129, none⟩ (.int .i64 v)) b s { st with next := v } :=
  h.setOne 129 _ (fun i hi => by unfold stF; by_cases e : i = 129 <;> simp [e])
theorem StAt.setStatus {w : World} {b : Nat} {s : ByteArray} {st : Sp.St} (h : StAt w b s st) (v : Int) : StAt (w.setCell ⟨b, 130, none⟩ (.int .i64 v)) b s { st with status := v } :=
  h.setOne 130 _ (fun i hi => by unfold stF; by_cases e : i = 130 <;> simp [e])
theorem StAt.setValue {w : World} {b : Nat} {s : ByteArray} {st : Sp.St} (h : StAt w b s st) (v : Int) : StAt (w.setCell ⟨b, 131, none⟩ (.int .i64 v)) b s { st with value := v } :=
  h.setOne 131 _ (fun i hi => by unfold stF; by_cases e : i = 131 <;> simp [e])
theorem StAt.setTrace {w : World} {b : Nat} {s : ByteArray} {st : Sp.St} (h : StAt w b s st) (v : ByteArray) : StAt (w.setCell ⟨b, 148, none⟩ (.string v)) b s { st with trace := v } :=
  h.setOne 148 _ (fun i hi => by unfold stF; by_cases e : i = 148 <;> simp [e])
theorem StAt.setPub {w : World} {b : Nat} {s : ByteArray} {st : Sp.St} (h : StAt w b s st) (k : Nat) (hk : k < 8) (v : Int) : StAt (w.setCell ⟨b, 132 + k, none⟩ (.int .i64 v)) b s { st with pub := Sp.upd st.pub k v } := by
  refine h.setOne (132 + k) _ (fun j hj => ?_)
  have hk8 : k = 0 ∨ k = 1 ∨ k = 2 ∨ k = 3 ∨ k = 4 ∨ k = 5 ∨ k = 6 ∨ k = 7 := by omega
  by_cases e : j = 132 + k
  · rw [if_pos e]
    unfold stF
    rw [if_neg (by omega), if_neg (by omega), if_neg (by omega), if_neg (by omega), if_neg (by omega), if_pos (by omega)]
    simp [Sp.upd, e]
  · rw [if_neg e]
    unfold stF
    by_cases c : 132 ≤ j ∧ j ≤ 139
    · rw [if_neg (by omega), if_neg (by omega), if_neg (by omega), if_neg (by omega), if_neg (by omega), if_pos (by omega), if_neg (by omega), if_neg (by omega), if_neg (by omega), if_neg (by omega), if_neg (by omega), if_pos (by omega)]
      simp only [Sp.upd]
      rw [if_neg (by omega)]
    · by_cases c0 : j = 0
      · simp [c0]
      by_cases c1 : j ≤ 128
      · simp [c0, c1]
      by_cases c2 : j = 129
      · simp [c2]
      by_cases c3 : j = 130
      · simp [c3]
      by_cases c4 : j = 131
      · simp [c4]
      · simp [c0, c1, c2, c3, c4, show ¬ j ≤ 139 by omega]
theorem StAt.setSec {w : World} {b : Nat} {s : ByteArray} {st : Sp.St} (h : StAt w b s st) (k : Nat) (hk : k < 8) (v : Int) : StAt (w.setCell ⟨b, 140 + k, none⟩ (.int .i64 v)) b s { st with sec := Sp.upd st.sec k v } := by
  refine h.setOne (140 + k) _ (fun j hj => ?_)
  by_cases e : j = 140 + k
  · rw [if_pos e]
    unfold stF
    rw [if_neg (by omega), if_neg (by omega), if_neg (by omega), if_neg (by omega), if_neg (by omega), if_neg (by omega), if_pos (by omega)]
    simp [Sp.upd, e]
  · rw [if_neg e]
    unfold stF
    by_cases c : 140 ≤ j ∧ j ≤ 147
    · rw [if_neg (by omega), if_neg (by omega), if_neg (by omega), if_neg (by omega), if_neg (by omega), if_neg (by omega), if_pos (by omega), if_neg (by omega), if_neg (by omega), if_neg (by omega), if_neg (by omega), if_neg (by omega), if_neg (by omega), if_pos (by omega)]
      simp only [Sp.upd]
      rw [if_neg (by omega)]
    · by_cases c0 : j = 0
      · simp [c0]
      by_cases c1 : j ≤ 128
      · simp [c0, c1]
      by_cases c2 : j = 129
      · simp [c2]
      by_cases c3 : j = 130
      · simp [c3]
      by_cases c4 : j = 131
      · simp [c4]
      by_cases c5 : j ≤ 139
      · simp [c0, c1, c2, c3, c4, c5]
      · simp [c0, c1, c2, c3, c4, c5, show ¬ j ≤ 147 by omega]
end Go.Proofs.YtccndnckceagfaaDoorR
