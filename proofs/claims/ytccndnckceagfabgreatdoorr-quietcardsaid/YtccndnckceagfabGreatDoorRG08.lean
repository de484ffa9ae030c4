/-
  What is told of a run, as a value and in memory.
  The document's own Run.
-/
import Derived.Test.YtccndnckceagfabGreatDoorRG05
import Derived.Test.YtccndnckceagfabGreatDoorRHStart
import Derived.Test.YtccndnckceagfabGreatDoorRG06
import Derived.Test.YtccndnckceagfabGreatDoorRG01
namespace Go.Proofs.YtccndnckceagfabGreatDoorR
open Go.RowKit

def outV (st : Sp.St) (j : Nat) : Value := stF ⟨#[]⟩ st (130 + j)
def outL (st : Sp.St) : List Value := (List.range 81).map (outV st)
theorem outL_len (st : Sp.St) : (outL st).length = 81 := by simp [outL]
theorem outL_at (st : Sp.St) (r : Nat) (hr : r < 81) : (outL st)[r]? = some (outV st r) := by simp [outL, hr]
theorem outL_one (st : Sp.St) : ∀ v ∈ outL st, v.oneCell' = true := by
  intro v hv
  simp only [outL, List.mem_map] at hv
  obtain ⟨r, _, rfl⟩ := hv
  unfold outV stF
  repeat' split
  all_goals rfl
structure OutAt (w : World) (b o : Nat) (st : Sp.St) : Prop where
  cell : ∀ r, r < 81 → w.cell? ⟨b, o + r, none⟩ = some (outV st r)
  free : ∀ r, r < 81 → w.frozen? ⟨b, o + r, none⟩ = false
theorem OutAt.range {w : World} {b o : Nat} {st : Sp.St} (h : OutAt w b o st) : w.rangeAt b o (outL st) := by
  intro j v hj
  have hj' : j < 81 := by have := (List.getElem?_eq_some_iff.1 hj).1; rwa [outL_len] at this
  rw [outL_at st j hj'] at hj
  rw [h.cell j hj', ← hj]
theorem OutAt.there {w : World} {b o : Nat} {st : Sp.St} (h : OutAt w b o st) : w.there b o 81 := fun j hj => ⟨by rw [h.cell j hj]; rfl, h.free j hj⟩
theorem OutAt.of_range {w : World} {b o : Nat} {st : Sp.St} (h : w.rangeAt b o (outL st)) (ht : w.there b o 81) : OutAt w b o st :=
  ⟨fun r hr => h r _ (outL_at st r hr), fun r hr => (ht r hr).2⟩
theorem OutAt.of_block {w w' : World} {b o : Nat} {st : Sp.St} (h : OutAt w b o st) (e : w'.heap[b]? = w.heap[b]?) : OutAt w' b o st :=
  ⟨fun r hr => by rw [← h.cell r hr]; unfold World.cell?; rw [e], fun r hr => by rw [← h.free r hr]; unfold World.frozen?; rw [e]⟩
theorem info_out : (Tryz.prog.info? 36).map (·.size) = some 81 := by kernel_rfl
theorem run_alloc_out (w : World) : (Instr.alloc 36 true (.tuple #[])).run Tryz.prog w = .ok (.pointer (some ⟨w.heap.size, 0, none⟩)) (w.alloc (.cells (outL st0).toArray 36)) := by kernel_rfl
theorem run_build_out (w : World) : (Instr.build 36 #[]).run Tryz.prog w = .ok (.agg (outL st0).toArray) w := by kernel_rfl
theorem out_new (w : World) (st : Sp.St) (t : Nat) : OutAt (w.alloc (.cells (outL st).toArray t)) w.heap.size 0 st := by
  have h := World.rowIs_alloc w (outL st).toArray t (outV st) (fun r hr => by
    have hr' : r < 81 := by simpa [outL_len] using hr
    rw [List.getElem?_toArray]
    exact outL_at st r hr')
  have hs : (outL st).toArray.size = 81 := by simp [outL_len]
  rw [hs] at h
  exact ⟨fun r hr => by rw [Nat.zero_add]; exact h.cell hr, fun r _ => by rw [Nat.zero_add]; exact h.frozen r⟩
theorem wpList_alloc_out {ops : Array Oper} {rest : List Oper} {op : Oper} {a : Act} {w : World} {Q : Exit → Act → World → Prop} (hgd : op.guard = none) (ho : op.op = .alloc 36)
    (h : ∀ w', OutAt w' w.heap.size 0 st0 → Below w.heap.size w w' → w'.heap.size = w.heap.size + 1 → wpList Tryz.prog ops Q rest (a.put op.dst (.pointer (some ⟨w.heap.size, 0, none⟩))) w') : wpList Tryz.prog ops Q (op :: rest) a w := by
  refine wpList_plain hgd fun K hK => ?_
  unfold Oper.wp execOp
  simp only [ho, Sem.run_bind, run_alloc_out, Result.andThen_ok, Sem.run_pure]
  exact hK _ _ (h _ (out_new _ _ _) ((Below.refl _ _).alloc (Nat.le_refl _) _) (by simp))
theorem wpList_build_out {ops : Array Oper} {rest : List Oper} {op : Oper} {a : Act} {w : World} {Q : Exit → Act → World → Prop} (hgd : op.guard = none) (ho : op.op = .build 36 #[])
    (h : wpList Tryz.prog ops Q rest (a.put op.dst (.agg (outL st0).toArray)) w) : wpList Tryz.prog ops Q (op :: rest) a w := by
  refine wpList_plain hgd fun K hK => ?_
  unfold Oper.wp execOp
  simp only [ho, Sem.run_bind, List.map_toArray, List.map_nil, run_build_out, Result.andThen_ok, Sem.run_pure]
  exact hK _ _ h
theorem wpList_load_out {ops : Array Oper} {rest : List Oper} {op : Oper} {a : Act} {w : World} {Q : Exit → Act → World → Prop} (hgd : op.guard = none) (x : Operand) (ho : op.op = .load 36 x)
    (b o : Nat) (st : Sp.St) (hx : a.eval x = .pointer (some ⟨b, o, none⟩)) (hS : OutAt w b o st)
    (h : wpList Tryz.prog ops Q rest (a.put op.dst (.agg (outL st).toArray)) w) : wpList Tryz.prog ops Q (op :: rest) a w :=
  wpList_load_mid hgd 36 x ho b o hx (outL st) _ hS.range Tryz.underlying36 rfl (by rw [outL_len]; exact info_out) h
theorem wpList_store_out {ops : Array Oper} {rest : List Oper} {op : Oper} {a : Act} {w : World} {Q : Exit → Act → World → Prop} (hgd : op.guard = none) (x y : Operand) (ho : op.op = .store 36 x y)
    (b o : Nat) (st st' : Sp.St) (hx : a.eval x = .pointer (some ⟨b, o, none⟩)) (hy : a.eval y = .agg (outL st).toArray) (hT : OutAt w b o st')
    (h : ∀ w', OutAt w' b o st → Only b w w' → wpList Tryz.prog ops Q rest (a.put op.dst undef) w') : wpList Tryz.prog ops Q (op :: rest) a w := by
  have hs : (outL st).toArray.size = 81 := by simp [outL_len]
  refine wpList_store_mid hgd 36 x y ho b o (outL st).toArray hx hy (by rw [hs]; exact hT.there) (by rw [hs]; exact info_out) (all_oneCell_toArray (outL_one st)) (h _ ?_ ?_)
  · exact OutAt.of_range (World.rangeAt_setCells_same w b o (outL st) (by rw [outL_len]; exact hT.there)) (World.there_setCells hT.there b o (outL st))
  · exact only_setCells w b o (outL st)
theorem run_loadVar_out {w : World} {b o : Nat} {st : Sp.St} (h : OutAt w b o st) : (loadVar 36 ⟨b, o, none⟩).run Tryz.prog w = .ok (.agg (outL st).toArray) w :=
  run_loadVar_mid w b o 36 (outL st) _ h.range Tryz.underlying36 rfl (by rw [outL_len]; exact info_out)
theorem results_cell_two {P : Program} {fn : Func} {q r : Tmp} {ty : TypeId} (h : fn.results = #[.cell q ty, .tmp r]) (tmps : Array Value) (w : World) {a : Addr} {v : Value} (hp : tmps.getD q undef = .pointer (some a)) (hl : (loadVar ty a).run P w = .ok v w) :
    (results fn tmps).run P w = .ok (.tuple #[v, tmps.getD r undef]) w := by
  have hp' : tmps[q]?.getD undef = .pointer (some a) := by simpa using hp
  simp only [results, h]
  simp [hp', asAddr, hl]
end Go.Proofs.YtccndnckceagfabGreatDoorR

namespace Go.Proofs.YtccndnckceagfabGreatDoorR
open Go.RowKit
namespace Sp
/-- the places of a source program's arguments -/
def pS (j : Nat) : Nat := if j = 0 then 97 else if j = 1 then 98 else if j = 2 then 65 else 66
/-- what Run answers -/
def RunR (s : ByteArray) (I : Inp) (fuel : Int) (st : St) (e : Int) : Prop :=
  (e ≠ 0 ∧ FormedR s e ∧ st = st0) ∨ (FormedR s 0 ∧ mayB I fuel = false ∧ e = 2 ∧ st = st0) ∨ (FormedR s 0 ∧ mayB I fuel = true ∧ e = 0 ∧ st = runG (stepT s) fuel.toNat (start pS I.cut 4))
end Sp

theorem info_in : (Tryz.prog.info? 25).map (·.size) = some 20 := by kernel_rfl
/-- an input read whole -/
theorem wpList_load_in {ops : Array Oper} {rest : List Oper} {op : Oper} {a : Act} {w : World} {Q : Exit → Act → World → Prop} (hgd : op.guard = none) (x : Operand) (ho : op.op = .load 25 x)
    (b : Nat) (I : Sp.Inp) (hx : a.eval x = .pointer (some ⟨b, 0, none⟩)) (hf : w.rowIs b 25 20 (inF I))
    (h : wpList Tryz.prog ops Q rest (a.put op.dst (.agg (inA I))) w) : wpList Tryz.prog ops Q (op :: rest) a w :=
  wpList_load_mid hgd 25 x ho b 0 hx ((List.range 20).map (inF I)) _ (fun j v hj => by
    have hj' : j < 20 := by have := (List.getElem?_eq_some_iff.1 hj).1; simpa using this
    rw [Nat.zero_add, hf.cell hj', ← hj]
    simp [hj']) Tryz.underlying25 rfl (by rw [List.length_map, List.length_range]; exact info_in) h
def RunPost (s : ByteArray) (I : Sp.Inp) (fuel : Int) (w : World) (e : Ending) (w' : World) : Prop :=
  ∃ st f, e = .returned (.tuple #[.agg (outL st).toArray, .int .i64 f]) ∧ Sp.RunR s I fuel st f ∧ Below w.heap.size w w'

end Go.Proofs.YtccndnckceagfabGreatDoorR
