/-
  The beginning of the document's own run: arguments and memories laid.
-/
import Derived.Test.YtccndnckceagfaaDoorRRefRun2
import Derived.Test.YtccndnckceagfaaDoorRRefMay
import Derived.Deep.MidRow
import Derived.Deep.Cut
namespace Go.Proofs.YtccndnckceagfaaDoorR
open Go.RowKit

def arrL (f : Nat → Int) : List Value := (List.range 8).map (fun j => .int .i64 (f j))
theorem arrL_len (f : Nat → Int) : (arrL f).length = 8 := by simp [arrL]
theorem arrL_at (f : Nat → Int) (r : Nat) (hr : r < 8) : (arrL f)[r]? = some (.int .i64 (f r)) := by simp [arrL, hr]
theorem arrL_one (f : Nat → Int) : ∀ v ∈ arrL f, v.oneCell' = true := by
  intro v hv
  simp only [arrL, List.mem_map] at hv
  obtain ⟨r, _, rfl⟩ := hv
  rfl
theorem info_arr8 : (Tryd.prog.info? 27).map (·.size) = some 8 := by kernel_rfl
/-- eight numbers read whole -/
theorem wpList_load8 {ops : Array Oper} {rest : List Oper} {op : Oper} {a : Act} {w : World} {Q : Exit → Act → World → Prop} (hgd : op.guard = none) (x : Operand) (ho : op.op = .load 27 x)
    (b o : Nat) (f : Nat → Int) (hx : a.eval x = .pointer (some ⟨b, o, none⟩)) (hf : ∀ j, j < 8 → w.cell? ⟨b, o + j, none⟩ = some (.int .i64 (f j)))
    (h : wpList Tryd.prog ops Q rest (a.put op.dst (.agg (arrL f).toArray)) w) : wpList Tryd.prog ops Q (op :: rest) a w :=
  wpList_load_mid hgd 27 x ho b o hx (arrL f) _ (fun j v hj => by
    have hj' : j < 8 := by have := (List.getElem?_eq_some_iff.1 hj).1; rwa [arrL_len] at this
    rw [arrL_at f j hj'] at hj
    rw [hf j hj', ← hj]) Tryd.underlying27 rfl (by rw [arrL_len]; exact info_arr8) h
theorem only_cells (w : World) (b o : Nat) (vs : List Value) : But w.heap.size b w (w.setCells b o vs) ∧ (w.setCells b o vs).heap.size = w.heap.size := by
  induction vs generalizing o w with
  | nil => exact ⟨But.refl _ _ _, rfl⟩
  | cons v vs ih =>
    obtain ⟨h1, h2⟩ := ih (w.setCell ⟨b, o, none⟩ v) (o + 1)
    have hs : (w.setCell ⟨b, o, none⟩ v).heap.size = w.heap.size := by simp [World.setCell]
    rw [hs] at h1 h2
    exact ⟨(But.set _ _).trans h1, h2⟩
theorem row_setCells {w : World} {b t n : Nat} {f : Nat → Value} (h : w.rowIs b t n f) : ∀ (vs : List Value) (o : Nat), o + vs.length ≤ n → (w.setCells b o vs).rowIs b t n (fun j => if o ≤ j ∧ j < o + vs.length then vs.getD (j - o) undef else f j) := by
  intro vs
  induction vs generalizing w f with
  | nil => intro o _; exact h.congr (fun j _ => by rw [if_neg (by simp)])
  | cons v vs ih =>
    intro o ho
    simp only [List.length_cons] at ho
    have := ih (h.set o v) (o + 1) (by omega)
    refine this.congr (fun j hj => ?_)
    simp only [List.length_cons]
    by_cases e : j = o
    · subst e
      rw [if_neg (by omega), if_pos rfl, if_pos (by omega)]
      simp
    · by_cases c : o + 1 ≤ j ∧ j < o + 1 + vs.length
      · rw [if_pos c, if_pos (by omega)]
        rw [show j - o = (j - (o + 1)) + 1 from by omega, List.getD_cons_succ]
      · rw [if_neg c, if_neg e, if_neg (by omega)]
theorem st_pub {s : ByteArray} {st : Sp.St} (f : Nat → Int) (j : Nat) (_hj : j < 211) : (if 132 ≤ j ∧ j < 132 + (arrL f).length then (arrL f).getD (j - 132) undef else stF s st j) = stF s { st with pub := f } j := by
  rw [arrL_len]
  by_cases c : 132 ≤ j ∧ j < 132 + 8
  · rw [if_pos c, List.getD_eq_getElem?_getD, arrL_at f _ (by omega)]
    unfold stF
    rw [if_neg (by omega), if_neg (by omega), if_neg (by omega), if_neg (by omega), if_neg (by omega), if_pos (by omega)]
    rfl
  · rw [if_neg c]
    unfold stF
    by_cases c0 : j = 0
    · simp [c0]
    by_cases c1 : j ≤ 128
    · simp [c0, c1]
    by_cases c2 : j = 129
    · simp [c2]
    by_cases c3 : j = 130
    · simp [c3]
    by_cases c4 : j = 131
    · simp [c4]
    · simp [c0, c1, c2, c3, c4, show ¬ j ≤ 139 by omega]
theorem st_sec {s : ByteArray} {st : Sp.St} (f : Nat → Int) (j : Nat) (_hj : j < 211) : (if 140 ≤ j ∧ j < 140 + (arrL f).length then (arrL f).getD (j - 140) undef else stF s st j) = stF s { st with sec := f } j := by
  rw [arrL_len]
  by_cases c : 140 ≤ j ∧ j < 140 + 8
  · rw [if_pos c, List.getD_eq_getElem?_getD, arrL_at f _ (by omega)]
    unfold stF
    rw [if_neg (by omega), if_neg (by omega), if_neg (by omega), if_neg (by omega), if_neg (by omega), if_neg (by omega), if_pos (by omega)]
    rfl
  · rw [if_neg c]
    unfold stF
    by_cases c0 : j = 0
    · simp [c0]
    by_cases c1 : j ≤ 128
    · simp [c0, c1]
    by_cases c2 : j = 129
    · simp [c2]
    by_cases c3 : j = 130
    · simp [c3]
    by_cases c4 : j = 131
    · simp [c4]
    by_cases c5 : j ≤ 139
    · simp [c0, c1, c2, c3, c4, c5]
    · simp [c0, c1, c2, c3, c4, c5, show ¬ j ≤ 147 by omega]
theorem row_there {w : World} {b t n : Nat} {f : Nat → Value} (h : w.rowIs b t n f) (o k : Nat) (hk : o + k ≤ n) : w.there b o k := fun j hj => ⟨by rw [h.cell (show o + j < n by omega)]; rfl, h.frozen _⟩
/-- a memory laid whole -/
theorem wpList_storePub {ops : Array Oper} {rest : List Oper} {op : Oper} {a : Act} {w : World} {Q : Exit → Act → World → Prop} (hgd : op.guard = none) (x y : Operand) (ho : op.op = .store 27 x y)
    (b : Nat) (s : ByteArray) (st : Sp.St) (f : Nat → Int) (hx : a.eval x = .pointer (some ⟨b, 132, none⟩)) (hy : a.eval y = .agg (arrL f).toArray) (hS : StAt w b s st)
    (h : ∀ w', StAt w' b s { st with pub := f } → But w.heap.size b w w' → w'.heap.size = w.heap.size → wpList Tryd.prog ops Q rest (a.put op.dst undef) w') : wpList Tryd.prog ops Q (op :: rest) a w := by
  have hs : (arrL f).toArray.size = 8 := by simp [arrL_len]
  refine wpList_store_mid hgd 27 x y ho b 132 (arrL f).toArray hx hy (by rw [hs]; exact row_there hS 132 8 (by omega)) (by rw [hs]; exact info_arr8) (all_oneCell_toArray (arrL_one f)) (h _ ?_ (only_cells _ _ _ _).1 (only_cells _ _ _ _).2)
  exact (row_setCells hS (arrL f) 132 (by rw [arrL_len]; omega)).congr (st_pub f)
theorem wpList_storeSec {ops : Array Oper} {rest : List Oper} {op : Oper} {a : Act} {w : World} {Q : Exit → Act → World → Prop} (hgd : op.guard = none) (x y : Operand) (ho : op.op = .store 27 x y)
    (b : Nat) (s : ByteArray) (st : Sp.St) (f : Nat → Int) (hx : a.eval x = .pointer (some ⟨b, 140, none⟩)) (hy : a.eval y = .agg (arrL f).toArray) (hS : StAt w b s st)
    (h : ∀ w', StAt w' b s { st with sec := f } → But w.heap.size b w w' → w'.heap.size = w.heap.size → wpList Tryd.prog ops Q rest (a.put op.dst undef) w') : wpList Tryd.prog ops Q (op :: rest) a w := by
  have hs : (arrL f).toArray.size = 8 := by simp [arrL_len]
  refine wpList_store_mid hgd 27 x y ho b 140 (arrL f).toArray hx hy (by rw [hs]; exact row_there hS 140 8 (by omega)) (by rw [hs]; exact info_arr8) (all_oneCell_toArray (arrL_one f)) (h _ ?_ (only_cells _ _ _ _).1 (only_cells _ _ _ _).2)
  exact (row_setCells hS (arrL f) 140 (by rw [arrL_len]; omega)).congr (st_sec f)

def st0 : Sp.St := ⟨fun _ => 0, 0, 0, 0, fun _ => 0, fun _ => 0, ⟨#[]⟩, fun _ => 0, fun _ => 0⟩
theorem zero_cells (s : ByteArray) : (Tryd.zeroCells70.setIfInBounds 0 (.string s)).toList = (List.range 211).map (stF s st0) := by kernel_rfl
theorem st_new (w : World) (s : ByteArray) : StAt (w.alloc (.cells (Tryd.zeroCells70.setIfInBounds 0 (.string s)) 70)) w.heap.size s st0 := by
  have hl : (Tryd.zeroCells70.setIfInBounds 0 (.string s)).size = 211 := by
    rw [← Array.length_toList, zero_cells]
    simp
  have h := World.rowIs_alloc w (Tryd.zeroCells70.setIfInBounds 0 (.string s)) 70 (stF s st0) (fun j hj => by
    rw [hl] at hj
    rw [← Array.getElem?_toList, zero_cells]
    simp [hj])
  rw [hl] at h
  exact h
end Go.Proofs.YtccndnckceagfaaDoorR
