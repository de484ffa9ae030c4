/-
  Two outcomes that are the same are found the same.
  The program's run of a machine program.
  The document's own Exec.
  The program's Exec; the statement on Exec, walked.
  The program's Run is the document's.
  The program's Run; the statement on Run, walked.
-/
import Derived.Test.YtccndnckceagfabDoorG08
import Derived.Test.YtccndnckceagfabDoorHDev10
namespace Go.Proofs.YtccndnckceagfabDoor
open Go.RowKit

theorem arr_row (w : World) (f : Nat → Int) (t : Nat) : (w.alloc (.cells (arrL f).toArray t)).rowIs w.heap.size t 8 (fun j => .int .i64 (f j)) := by
  have h := World.rowIs_alloc w (arrL f).toArray t (fun j => .int .i64 (f j)) (fun j hj => by
    have hj' : j < 8 := by simpa [arrL_len] using hj
    rw [List.getElem?_toArray]
    exact arrL_at f j hj')
  have hs : (arrL f).toArray.size = 8 := by simp [arrL_len]
  rw [hs] at h
  exact h

theorem outV_pub (st : Sp.St) (j : Nat) (hj : j < 8) : outV st (2 + j) = .int .i64 (st.pub j) := by
  unfold outV stF
  rw [if_neg (by omega), if_neg (by omega), if_neg (by omega), if_neg (by omega), if_neg (by omega), if_pos (by omega)]
  rw [show 130 + (2 + j) - 132 = j from by omega]
theorem outV_sec (st : Sp.St) (j : Nat) (hj : j < 8) : outV st (10 + j) = .int .i64 (st.sec j) := by
  unfold outV stF
  rw [if_neg (by omega), if_neg (by omega), if_neg (by omega), if_neg (by omega), if_neg (by omega), if_neg (by omega), if_pos (by omega)]
  rw [show 130 + (10 + j) - 140 = j from by omega]
theorem outV_regs (st : Sp.St) (j : Nat) (hj : j < 10) : outV st (19 + j) = .int .i64 (st.regs j) := by
  unfold outV stF
  rw [if_neg (by omega), if_neg (by omega), if_neg (by omega), if_neg (by omega), if_neg (by omega), if_neg (by omega), if_neg (by omega), if_neg (by omega), if_pos (by omega)]
  rw [show 130 + (19 + j) - 149 = j from by omega]
theorem outV_slots (st : Sp.St) (j : Nat) (_hj : j < 52) : outV st (29 + j) = .int .i64 (st.slots j) := by
  unfold outV stF
  rw [if_neg (by omega), if_neg (by omega), if_neg (by omega), if_neg (by omega), if_neg (by omega), if_neg (by omega), if_neg (by omega), if_neg (by omega), if_neg (by omega)]
  rw [show 130 + (29 + j) - 159 = j from by omega]
theorem OutAt.pub {w : World} {b : Nat} {st : Sp.St} (h : OutAt w b 0 st) (j : Nat) (hj : j < 8) : w.cell? ⟨b, 2 + j, none⟩ = some (.int .i64 (st.pub j)) := by
  have := h.cell (2 + j) (by omega)
  rwa [Nat.zero_add, outV_pub st j hj] at this
theorem OutAt.sec {w : World} {b : Nat} {st : Sp.St} (h : OutAt w b 0 st) (j : Nat) (hj : j < 8) : w.cell? ⟨b, 10 + j, none⟩ = some (.int .i64 (st.sec j)) := by
  have := h.cell (10 + j) (by omega)
  rwa [Nat.zero_add, outV_sec st j hj] at this
theorem OutAt.regs {w : World} {b : Nat} {st : Sp.St} (h : OutAt w b 0 st) (j : Nat) (hj : j < 10) : w.cell? ⟨b, 19 + j, none⟩ = some (.int .i64 (st.regs j)) := by
  have := h.cell (19 + j) (by omega)
  rwa [Nat.zero_add, outV_regs st j hj] at this
theorem OutAt.slots {w : World} {b : Nat} {st : Sp.St} (h : OutAt w b 0 st) (j : Nat) (hj : j < 52) : w.cell? ⟨b, 29 + j, none⟩ = some (.int .i64 (st.slots j)) := by
  have := h.cell (29 + j) (by omega)
  rwa [Nat.zero_add, outV_slots st j hj] at this
theorem OutAt.status {w : World} {b : Nat} {st : Sp.St} (h : OutAt w b 0 st) : w.cell? ⟨b, 0, none⟩ = some (.int .i64 st.status) := h.cell 0 (by omega)
theorem OutAt.value {w : World} {b : Nat} {st : Sp.St} (h : OutAt w b 0 st) : w.cell? ⟨b, 1, none⟩ = some (.int .i64 st.value) := h.cell 1 (by omega)
theorem OutAt.trace {w : World} {b : Nat} {st : Sp.St} (h : OutAt w b 0 st) : w.cell? ⟨b, 18, none⟩ = some (.string st.trace) := h.cell 18 (by omega)

end Go.Proofs.YtccndnckceagfabDoor

namespace Go.Proofs.YtccndnckceagfabDoor
open Go.RowKit

theorem OutAt.setOne {w : World} {b : Nat} {st st' : Sp.St} (h : OutAt w b 0 st) (j : Nat) (v : Value) (e : ∀ i, i < 81 → outV st' i = if i = j then v else outV st i) : OutAt (w.setCell ⟨b, j, none⟩ v) b 0 st' := by
  refine ⟨fun i hi => ?_, fun i hi => by rw [show (w.setCell ⟨b, j, none⟩ v).frozen? ⟨b, 0 + i, none⟩ = w.frozen? ⟨b, 0 + i, none⟩ by simp]; exact h.free i hi⟩
  have hc := h.cell i hi
  rw [Nat.zero_add] at hc ⊢
  rw [e i hi]
  by_cases c : i = j
  · subst c
    rw [if_pos rfl, World.cell?_setCell_same' _ _ _ (by rw [hc]; rfl)]
  · rw [if_neg c, World.cell?_setCell_other _ _ _ _ (fun h => c (by have := congrArg Addr.off h; simp at this; omega)), hc]
theorem OutAt.setRegs {w : World} {b : Nat} {st : Sp.St} (h : OutAt w b 0 st) (j : Nat) (hj : j < 10) (v : Int) : OutAt (w.setCell ⟨b, 19 + j, none⟩ (.int .i64 v)) b 0 { st with regs := Sp.upd st.regs j v } :=
  h.setOne (19 + j) _ fun i hi => by
    by_cases c : i = 19 + j
    · rw [if_pos c, c, outV_regs _ j hj]
      simp [Sp.upd]
    · rw [if_neg c]
      unfold outV stF
      repeat' split
      all_goals first | (simp only [Sp.upd]; rw [if_neg (by omega)]) | rfl
theorem OutAt.setSlots {w : World} {b : Nat} {st : Sp.St} (h : OutAt w b 0 st) (j : Nat) (hj : j < 52) (v : Int) : OutAt (w.setCell ⟨b, 29 + j, none⟩ (.int .i64 v)) b 0 { st with slots := Sp.upd st.slots j v } :=
  h.setOne (29 + j) _ fun i hi => by
    by_cases c : i = 29 + j
    · rw [if_pos c, c, outV_slots _ j hj]
      simp [Sp.upd]
    · rw [if_neg c]
      unfold outV stF
      repeat' split
      all_goals first | (simp only [Sp.upd]; rw [if_neg (by omega)]) | rfl
/-- what registers and slots do not touch -/
structure Five (m : Sp.PSt) (st : Sp.St) : Prop where
  f1 : st.status = m.status
  f2 : st.value = m.value
  f3 : st.pub = m.pub
  f4 : st.sec = m.sec
  f5 : st.trace = m.trace
theorem rdP_at (m : Sp.PSt) (j : Nat) (h : j < 62) : Sp.rdP m (j : Int) = m.pl j := by
  unfold Sp.rdP
  rw [if_pos (by omega), Int.toNat_natCast]

end Go.Proofs.YtccndnckceagfabDoor

namespace Go.Proofs.YtccndnckceagfabDoor
open Go.RowKit
namespace Sp
def macB (k : Int) : Bool := decide (6 ≤ k ∧ k ≤ 10)
/-- what Exec answers -/
def ExecR (s : ByteArray) (k : Int) (I : Inp) (fuel : Int) (st : St) (e : Int) : Prop :=
  (4096 < s.size ∧ e = 1 ∧ st = st0) ∨ (s.size ≤ 4096 ∧ (mayB I fuel && macB k) = false ∧ e = 2 ∧ st = st0) ∨ (s.size ≤ 4096 ∧ (mayB I fuel && macB k) = true ∧ progB (B s) s.size k = false ∧ e = 3 ∧ st = st0) ∨
  (s.size ≤ 4096 ∧ (mayB I fuel && macB k) = true ∧ progB (B s) s.size k = true ∧ e = 0 ∧ st = fillM k (runG (stepU s) fuel.toNat (start pM I.cut 4)))
theorem ExecR.det {s : ByteArray} {k : Int} {I : Inp} {fuel : Int} {st st' : St} {e e' : Int} (h : ExecR s k I fuel st e) (h' : ExecR s k I fuel st' e') : st = st' ∧ e = e' := by
  rcases h with ⟨a, b, c⟩ | ⟨a, b, c, d⟩ | ⟨a, b, c, d, g⟩ | ⟨a, b, c, d, g⟩ <;> rcases h' with ⟨a', b', c'⟩ | ⟨a', b', c', d'⟩ | ⟨a', b', c', d', g'⟩ | ⟨a', b', c', d', g'⟩
  · exact ⟨c.trans c'.symm, b.trans b'.symm⟩
  · omega
  · omega
  · omega
  · omega
  · exact ⟨d.trans d'.symm, c.trans c'.symm⟩
  · rw [b] at b'; cases b'
  · rw [b] at b'; cases b'
  · omega
  · rw [b] at b'; cases b'
  · exact ⟨g.trans g'.symm, d.trans d'.symm⟩
  · rw [c] at c'; cases c'
  · omega
  · rw [b] at b'; cases b'
  · rw [c] at c'; cases c'
  · exact ⟨g.trans g'.symm, d.trans d'.symm⟩
theorem memO_rs' (st : St) (o a b n : Int) (T : ByteArray) : (memO st o a b n T).regs = st.regs := by
  unfold memO memS
  repeat' split
  all_goals rfl
theorem stepU_rs (s : ByteArray) (st : St) (i : Nat) : (stepU s st i).1.regs = st.regs := by
  unfold stepU stepT frmS
  repeat' split
  all_goals first | rfl | exact memO_rs' _ _ _ _ _ _
theorem runG_rsU (s : ByteArray) : ∀ (f : Nat) (st : St), (runG (stepU s) f st).regs = st.regs := by
  intro f
  induction f with
  | zero => intro st; rfl
  | succ f ih =>
    intro st
    simp only [runG]
    have h := stepU_rs s st st.next.toNat
    split
    · exact (ih (stepU s st st.next.toNat).1).trans h
    · exact h
end Sp

theorem OutAt.congrL {w : World} {b o : Nat} {st st' : Sp.St} (h : OutAt w b o st) (e : outL st = outL st') : OutAt w b o st' :=
  ⟨fun j hj => by
    have h1 := outL_at st j hj
    rw [e, outL_at st' j hj] at h1
    rw [h.cell j hj, Option.some.inj h1], h.free⟩
theorem alpha_ix (j : Nat) (h : j < 52) (v : Int) (hv : Sp.B Sp.alpha j = v) (W : World) : (Instr.index 9 (.string ⟨#[97, 98, 99, 100, 101, 102, 103, 104, 105, 106, 107, 108, 109, 110, 111, 112, 113, 114, 115, 116, 117, 118, 119, 120, 121, 122, 65, 66, 67, 68, 69, 70, 71, 72, 73, 74, 75, 76, 77, 78, 79, 80, 81, 82, 83, 84, 85, 86, 87, 88, 89, 90]⟩) (.int .i64 (j : Int))).run Tryd.prog W = .ok (.int .u8 v) W := by
  have hz : j < Sp.alpha.size := h
  show (Instr.index 9 (.string Sp.alpha) (.int .i64 (j : Int))).run Tryd.prog W = .ok (.int .u8 v) W
  rw [run_index_string W 9 Sp.alpha .i64 _ Tryd.underlying9, dif_pos (by omega), ← hv]
  exact congrArg (fun z => Result.ok (Value.int .u8 z) W) (Sp.B_get Sp.alpha j hz)
/-- what registers and slots do not touch, the document's -/
structure Six (a b : Sp.St) : Prop where
  f0 : b.hold = a.hold
  f1 : b.status = a.status
  f2 : b.value = a.value
  f3 : b.pub = a.pub
  f4 : b.sec = a.sec
  f5 : b.trace = a.trace

theorem below_drewE {B : Nat} {w w' : World} (h : Below B w w') (n : Nat) : Below B w (w'.drewN n) := ⟨h.os, h.tape, h.output, h.size, h.block⟩
def ExecPost (s : ByteArray) (k : Int) (I : Sp.Inp) (fuel : Int) (w : World) (e : Ending) (w' : World) : Prop :=
  ∃ st f, e = .returned (.tuple #[.agg (outL st).toArray, .int .i64 f]) ∧ Sp.ExecR s k I fuel st f ∧ Below w.heap.size w w'

end Go.Proofs.YtccndnckceagfabDoor

namespace Go.Proofs.YtccndnckceagfabDoor
open Go.RowKit

theorem hasMachine_any (k : Int) (w : World) : Calls Tryd.prog 15 #[.int .i64 k] w fun e w' => e = .returned (.bool (Sp.macB k)) ∧ w = w' := by
  by_cases h1 : 6 ≤ k
  · by_cases h2 : k ≤ 10
    · have HE := hid (show Sp.macB k = true by simp [Sp.macB, h1, h2])
      go_enter Tryd.func15, Tryd.ntmps15
      go_wp2_with fail
      go_ret
      exact ⟨ret_bool HE.out.symm, rfl⟩
    · have HE := hid (show Sp.macB k = false by simp [Sp.macB, h1, h2])
      go_enter Tryd.func15, Tryd.ntmps15
      go_wp2_with fail
      go_ret
      exact ⟨ret_bool HE.out.symm, rfl⟩
  · have HE := hid (show Sp.macB k = false by simp [Sp.macB, h1])
    go_enter Tryd.func15, Tryd.ntmps15
    go_wp2_with fail
    go_ret
    exact ⟨ret_bool HE.out.symm, rfl⟩

/-- vC, vB are the slices of the machine program that the text s is, their rows from B on -/
def MacAt (K : Int) (w : World) (B : Nat) (s : ByteArray) (vC vB : Value) : Prop :=
  w.ownsRow B 90 7 vC (s.size / 4) (insV (Sp.codeK K (Sp.B s) (s.size / 4))) ∧ w.ownsRow B 109 2 vB (Sp.blocksTo (Sp.B s) (s.size / 4)) (blkV (Sp.blksTo (Sp.B s) (s.size / 4))) ∧ (Sp.blksTo (Sp.B s) (s.size / 4) = [] → vB = .slice none 0 0)
theorem MacAt.move {K : Int} {w w' : World} {B : Nat} {s : ByteArray} {vC vB : Value} (h : MacAt K w B s vC vB) (hb : Below w.heap.size w w') : MacAt K w' B s vC vB := ⟨own_below h.1 hb, own_below h.2.1 hb, h.2.2⟩
theorem MacAt.prog {K : Int} {w : World} {B p : Nat} {s : ByteArray} {vC vB : Value} (h : MacAt K w B s vC vB) (hr : w.rowIs p 41 2 (fun j => if j = 0 then vC else vB)) : ProgAt w B p (Sp.codeK K (Sp.B s) (s.size / 4)) (Sp.blksTo (Sp.B s) (s.size / 4)) :=
  ⟨vC, vB, hr, by rw [Sp.codeK_len]; exact h.1, by rw [Sp.blksTo_len]; exact h.2.1, h.2.2⟩

end Go.Proofs.YtccndnckceagfabDoor

namespace Go.Proofs.YtccndnckceagfabDoor
open Go.RowKit
namespace Sp

theorem src_ops {c : Nat → Int} {nb i : Nat} (h : okIns c nb 0 i = true) : c (4 * i) ≠ 62 ∧ c (4 * i) ≠ 60 ∧ c (4 * i) ≠ 126 := by
  have := ins_bytes h
  unfold InsB at this
  simp only [arithB, Bool.or_eq_true, beq_iff_eq] at this
  omega
theorem stepU_src {s : ByteArray} (hp : progB (B s) s.size 0 = true) {i : Nat} (hi : i < s.size / 4) (st : St) : stepU s st i = stepT s st i := by
  have := src_ops (okIns_of_progB hp i hi)
  unfold stepU
  rw [if_neg (by omega)]
theorem runG_src {s : ByteArray} (hp : progB (B s) s.size 0 = true) : ∀ (f : Nat) (st : St) (i : Nat), st.next = i → i < s.size / 4 → runG (stepU s) f st = runG (stepT s) f st := by
  intro f
  induction f with
  | zero => intro st i _ _; rfl
  | succ f ih =>
    intro st i hn hi
    simp only [runG]
    rw [hn, Int.toNat_natCast, stepU_src hp hi]
    cases hb : (stepT s st i).2
    · rfl
    · rw [if_pos rfl, if_pos rfl]
      obtain ⟨j, hj, hjn⟩ := stepT_next hp hi hb
      exact ih _ j hjn hj
/-- what a step of the document leaves as it was -/
theorem memO_rs (st : St) (o a b n : Int) (T : ByteArray) : (memO st o a b n T).regs = st.regs ∧ (memO st o a b n T).slots = st.slots := by
  unfold memO memS
  repeat' split
  all_goals exact ⟨rfl, rfl⟩
theorem stepT_rs (s : ByteArray) (st : St) (i : Nat) : (stepT s st i).1.regs = st.regs ∧ (stepT s st i).1.slots = st.slots := by
  unfold stepT
  repeat' split
  all_goals first | exact ⟨rfl, rfl⟩ | exact memO_rs _ _ _ _ _ _
theorem runG_rs (s : ByteArray) : ∀ (f : Nat) (st : St), (runG (stepT s) f st).regs = st.regs ∧ (runG (stepT s) f st).slots = st.slots := by
  intro f
  induction f with
  | zero => intro st; exact ⟨rfl, rfl⟩
  | succ f ih =>
    intro st
    simp only [runG]
    have h := stepT_rs s st st.next.toNat
    split
    · have h2 := ih (stepT s st st.next.toNat).1
      exact ⟨h2.1.trans h.1, h2.2.trans h.2⟩
    · exact h
theorem RunR.det {s : ByteArray} {I : Inp} {fuel : Int} {st st' : St} {e e' : Int} (h : RunR s I fuel st e) (k : RunR s I fuel st' e') : st = st' ∧ e = e' := by
  rcases h with ⟨a, b, c⟩ | ⟨a, b, c, d⟩ | ⟨a, b, c, d⟩ <;> rcases k with ⟨a', b', c'⟩ | ⟨a', b', c', d'⟩ | ⟨a', b', c', d'⟩
  · exact ⟨c.trans c'.symm, b.eq b'⟩
  · exact absurd (b.eq a') a
  · exact absurd (b.eq a') a
  · exact absurd (b'.eq a) a'
  · exact ⟨d.trans d'.symm, c.trans c'.symm⟩
  · rw [b] at b'; cases b'
  · exact absurd (b'.eq a) a'
  · rw [b] at b'; cases b'
  · exact ⟨d.trans d'.symm, c.trans c'.symm⟩
end Sp
theorem outL_congr {a b : Sp.St} (h1 : a.status = b.status) (h2 : a.value = b.value) (h3 : a.pub = b.pub) (h4 : a.sec = b.sec) (h5 : a.trace = b.trace) (h6 : a.regs = b.regs) (h7 : a.slots = b.slots) : outL a = outL b := by
  unfold outL
  refine List.map_congr_left fun j _ => ?_
  unfold outV stF
  rw [h1, h2, h3, h4, h5, h6, h7]
  rw [if_neg (show ¬ 130 + j = 0 by omega), if_neg (show ¬ 130 + j = 0 by omega), if_neg (show ¬ 130 + j ≤ 128 by omega), if_neg (show ¬ 130 + j ≤ 128 by omega), if_neg (show ¬ 130 + j = 129 by omega), if_neg (show ¬ 130 + j = 129 by omega)]

theorem rel_bg (k : Int) (I : Sp.Inp) (p : Nat → Nat) : Sp.Rel k (bg I) (Sp.start p I 0) := ⟨fun _ _ => rfl, fun _ _ _ => rfl, rfl, rfl, rfl, rfl⟩
theorem rel_start (I : Sp.Inp) : Sp.Rel 0 (argM I 4) (Sp.start Sp.pS I 4) := by
  have h1 := (rel_bg 0 I Sp.pS).wr (by omega) (a := 97) (by decide) (I.args 0)
  have h2 := h1.wr (by omega) (a := 98) (by decide) (I.args 1)
  have h3 := h2.wr (by omega) (a := 65) (by decide) (I.args 2)
  exact h3.wr (by omega) (a := 66) (by decide) (I.args 3)
theorem argM_flags (I : Sp.Inp) (j : Nat) : (argM I j).ended = false ∧ (argM I j).status = 2 := by
  induction j with
  | zero => exact ⟨rfl, rfl⟩
  | succ j ih =>
    obtain ⟨_, _, _, _, e5, e6⟩ := Sp.wrP_rest (argM I j) (argP j) (I.args j)
    exact ⟨e5.trans ih.1, e6.trans ih.2⟩
/-- what the program tells of a source program's run is what the document tells -/
theorem run_eq {s : ByteArray} {I : Sp.Inp} {F : Nat} (hp : Sp.progB (Sp.B s) s.size 0 = true) :
    outL (outSt (Sp.walkP (Sp.codeK 0 (Sp.B s) (s.size / 4)) (Sp.strP (Sp.blksTo (Sp.B s) (s.size / 4))) F (argM I 4) 0)) = outL (Sp.runG (Sp.stepT s) F (Sp.start Sp.pS I 4)) := by
  have hz := Sp.size_of_progB hp
  have fl := argM_flags I 4
  have fin := Sp.walk_sim (Int.le_refl 0) (by omega) hp (fun b hb => Sp.str_fst _ _ b hb) (fun st i hi hb => by rw [Sp.stepU_src hp hi] at hb ⊢; exact Sp.stepT_next hp hi hb) F (argM I 4) (Sp.start Sp.pS I 4) 0 (rel_start I) fl.1 fl.2 rfl (by omega)
  rw [Sp.runG_src hp F _ 0 rfl (by omega)] at fin
  have rs := Sp.runG_rs s F (Sp.start Sp.pS I 4)
  exact outL_congr fin.status fin.rel.value fin.rel.pub fin.rel.sec fin.rel.trace rs.1.symm rs.2.symm
end Go.Proofs.YtccndnckceagfabDoor

namespace Go.Proofs.YtccndnckceagfabDoor
open Go.RowKit

end Go.Proofs.YtccndnckceagfabDoor
