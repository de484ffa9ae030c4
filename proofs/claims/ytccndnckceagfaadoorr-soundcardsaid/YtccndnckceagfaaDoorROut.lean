/-
  What is told of a run, as a value and in memory.
-/
import Derived.Test.YtccndnckceagfaaDoorRRefRun9
import Derived.Test.YtccndnckceagfaaDoorRStart
namespace Go.Proofs.YtccndnckceagfaaDoorR
open Go.RowKit

def outV (st : Sp.St) (j : Nat) : Value := stF ⟨#[]⟩ st (130 + j)
def outL (st : Sp.St) : List Value := (List.range 81).map (outV st)
theorem outL_len (st : Sp.St) : (outL st).length = 81 := by simp [outL]
theorem outL_at (st : Sp.St) (r : Nat) (hr : r < 81) : (outL st)[r]? = some (outV st r) := by simp [outL, hr]
theorem outL_one (st : Sp.St) : ∀ v ∈ outL st, v.oneCell' = true := by
  intro v hv
  simp only [outL, List.mem_map] at hv
  obtain ⟨r, _, rfl⟩ := hv
  unfold outV stF
  repeat' split
  all_goals rfl
structure OutAt (w : World) (b o : Nat) (st : Sp.St) : Prop where
  cell : ∀ r, r < 81 → w.cell? ⟨b, o + r, none⟩ = some (outV st r)
  free : ∀ r, r < 81 → w.frozen? ⟨b, o + r, none⟩ = false
theorem OutAt.range {w : World} {b o : Nat} {st : Sp.St} (h : OutAt w b o st) : w.rangeAt b o (outL st) := by
  intro j v hj
  have hj' : j < 81 := by have := (List.getElem?_eq_some_iff.1 hj).1; rwa [outL_len] at this
  rw [outL_at st j hj'] at hj
  rw [h.cell j hj', ← hj]
theorem OutAt.there {w : World} {b o : Nat} {st : Sp.St} (h : OutAt w b o st) : w.there b o 81 := fun j hj => ⟨by rw [h.cell j hj]; rfl, h.free j hj⟩
theorem OutAt.of_range {w : World} {b o : Nat} {st : Sp.St} (h : w.rangeAt b o (outL st)) (ht : w.there b o 81) : OutAt w b o st :=
  ⟨fun r hr => h r _ (outL_at st r hr), fun r hr => (ht r hr).2⟩
theorem OutAt.of_block {w w' : World} {b o : Nat} {st : Sp.St} (h : OutAt w b o st) (e : w'.heap[b]? = w.heap[b]?) : OutAt w' b o st :=
  ⟨fun r hr => by rw [← h.cell r hr]; unfold World.cell?; rw [e], fun r hr => by rw [← h.free r hr]; unfold World.frozen?; rw [e]⟩
theorem StAt.out {w : World} {b : Nat} {s : ByteArray} {st : Sp.St} (h : StAt w b s st) : OutAt w b 130 st :=
  ⟨fun r hr => by
    rw [World.rowIs.cell h (i := 130 + r) (by omega)]
    unfold outV stF
    rw [if_neg (show ¬ 130 + r = 0 by omega), if_neg (show ¬ 130 + r ≤ 128 by omega), if_neg (show ¬ 130 + r = 0 by omega)], fun r _ => h.free _⟩
theorem info_out : (Tryd.prog.info? 33).map (·.size) = some 81 := by kernel_rfl
theorem run_alloc_out (w : World) : (Instr.alloc 33 true (.tuple #[])).run Tryd.prog w = .ok (.pointer (some ⟨w.heap.size, 0, none⟩)) (w.alloc (.cells (outL st0).toArray 33)) := by kernel_rfl
theorem run_build_out (w : World) : (Instr.build 33 #[]).run Tryd.prog w = .ok (.agg (outL st0).toArray) w := by kernel_rfl
theorem out_new (w : World) (st : Sp.St) (t : Nat) : OutAt (w.alloc (.cells (outL st).toArray t)) w.heap.size 0 st := by
  have h := World.rowIs_alloc w (outL st).toArray t (outV st) (fun r hr => by
    have hr' : r < 81 := by simpa [outL_len] using hr
    rw [List.getElem?_toArray]
    exact outL_at st r hr')
  have hs : (outL st).toArray.size = 81 := by simp [outL_len]
  rw [hs] at h
  exact ⟨fun r hr => by rw [Nat.zero_add]; exact h.cell hr, fun r _ => by rw [Nat.zero_add]; exact h.frozen r⟩
theorem wpList_alloc_out {ops : Array Oper} {rest : List Oper} {op : Oper} {a : Act} {w : World} {Q : Exit → Act → World → Prop} (hgd : op.guard = none) (ho : op.op = .alloc 33)
    (h : ∀ w', OutAt w' w.heap.size 0 st0 → Below w.heap.size w w' → w'.heap.size = w.heap.size + 1 → wpList Tryd.prog ops Q rest (a.put op.dst (.pointer (some ⟨w.heap.size, 0, none⟩))) w') : wpList Tryd.prog ops Q (op :: rest) a w := by
  refine wpList_plain hgd fun K hK => ?_
  unfold Oper.wp execOp
  simp only [ho, Sem.run_bind, run_alloc_out, Result.andThen_ok, Sem.run_pure]
  exact hK _ _ (h _ (out_new _ _ _) ((Below.refl _ _).alloc (Nat.le_refl _) _) (by simp))
theorem wpList_build_out {ops : Array Oper} {rest : List Oper} {op : Oper} {a : Act} {w : World} {Q : Exit → Act → World → Prop} (hgd : op.guard = none) (ho : op.op = .build 33 #[])
    (h : wpList Tryd.prog ops Q rest (a.put op.dst (.agg (outL st0).toArray)) w) : wpList Tryd.prog ops Q (op :: rest) a w := by
  refine wpList_plain hgd fun K hK => ?_
  unfold Oper.wp execOp
  simp only [ho, Sem.run_bind, List.map_toArray, List.map_nil, run_build_out, Result.andThen_ok, Sem.run_pure]
  exact hK _ _ h
theorem wpList_load_out {ops : Array Oper} {rest : List Oper} {op : Oper} {a : Act} {w : World} {Q : Exit → Act → World → Prop} (hgd : op.guard = none) (x : Operand) (ho : op.op = .load 33 x)
    (b o : Nat) (st : Sp.St) (hx : a.eval x = .pointer (some ⟨b, o, none⟩)) (hS : OutAt w b o st)
    (h : wpList Tryd.prog ops Q rest (a.put op.dst (.agg (outL st).toArray)) w) : wpList Tryd.prog ops Q (op :: rest) a w :=
  wpList_load_mid hgd 33 x ho b o hx (outL st) _ hS.range Tryd.underlying33 rfl (by rw [outL_len]; exact info_out) h
theorem wpList_store_out {ops : Array Oper} {rest : List Oper} {op : Oper} {a : Act} {w : World} {Q : Exit → Act → World → Prop} (hgd : op.guard = none) (x y : Operand) (ho : op.op = .store 33 x y)
    (b o : Nat) (st st' : Sp.St) (hx : a.eval x = .pointer (some ⟨b, o, none⟩)) (hy : a.eval y = .agg (outL st).toArray) (hT : OutAt w b o st')
    (h : ∀ w', OutAt w' b o st → Only b w w' → wpList Tryd.prog ops Q rest (a.put op.dst undef) w') : wpList Tryd.prog ops Q (op :: rest) a w := by
  have hs : (outL st).toArray.size = 81 := by simp [outL_len]
  refine wpList_store_mid hgd 33 x y ho b o (outL st).toArray hx hy (by rw [hs]; exact hT.there) (by rw [hs]; exact info_out) (all_oneCell_toArray (outL_one st)) (h _ ?_ ?_)
  · exact OutAt.of_range (World.rangeAt_setCells_same w b o (outL st) (by rw [outL_len]; exact hT.there)) (World.there_setCells hT.there b o (outL st))
  · exact only_setCells w b o (outL st)
theorem run_loadVar_out {w : World} {b o : Nat} {st : Sp.St} (h : OutAt w b o st) : (loadVar 33 ⟨b, o, none⟩).run Tryd.prog w = .ok (.agg (outL st).toArray) w :=
  run_loadVar_mid w b o 33 (outL st) _ h.range Tryd.underlying33 rfl (by rw [outL_len]; exact info_out)
theorem results_cell_two {P : Program} {fn : Func} {q r : Tmp} {ty : TypeId} (h : fn.results = #[.cell q ty, .tmp r]) (tmps : Array Value) (w : World) {a : Addr} {v : Value} (hp : tmps.getD q undef = .pointer (some a)) (hl : (loadVar ty a).run P w = .ok v w) :
    (results fn tmps).run P w = .ok (.tuple #[v, tmps.getD r undef]) w := by
  have hp' : tmps[q]?.getD undef = .pointer (some a) := by simpa using hp
  simp only [results, h]
  simp [hp', asAddr, hl]
end Go.Proofs.YtccndnckceagfaaDoorR
