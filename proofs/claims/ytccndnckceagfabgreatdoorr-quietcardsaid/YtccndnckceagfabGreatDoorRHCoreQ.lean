/-
  The graph of a program, and what is left of it: the program's walks.
-/
import Derived.Test.YtccndnckceagfabGreatDoorRHCoreP
namespace Go.Proofs.YtccndnckceagfabGreatDoorR
open Go.RowKit

def grL (G : Nat → Bool) : List Value := (List.range 2756).map (fun j => .bool (G j))
theorem grL_len (G : Nat → Bool) : (grL G).length = 2756 := by simp [grL]
theorem grL_at (G : Nat → Bool) (j : Nat) (hj : j < 2756) : (grL G)[j]? = some (.bool (G j)) := by simp [grL, hj]
theorem grL_one (G : Nat → Bool) : ∀ v ∈ grL G, v.oneCell' = true := by
  intro v hv
  simp only [grL, List.mem_map] at hv
  obtain ⟨r, _, rfl⟩ := hv
  rfl
theorem info_gr : (Tryz.prog.info? 89).map (·.size) = some 2756 := by kernel_rfl
theorem run_alloc_gr (w : World) : (Instr.alloc 89 true (.tuple #[])).run Tryz.prog w = .ok (.pointer (some ⟨w.heap.size, 0, none⟩)) (w.alloc (.cells (grL (fun _ => false)).toArray 89)) := by kernel_rfl
theorem run_build_gr (w : World) : (Instr.build 89 #[]).run Tryz.prog w = .ok (.agg (grL (fun _ => false)).toArray) w := by kernel_rfl
theorem gr_new (w : World) (G : Nat → Bool) : GrAt (w.alloc (.cells (grL G).toArray 89)) w.heap.size G := by
  have h := World.rowIs_alloc w (grL G).toArray 89 (fun j => .bool (G j)) (fun j hj => by
    have hj' : j < 2756 := by simpa [grL_len] using hj
    rw [List.getElem?_toArray]
    exact grL_at G j hj')
  have hs : (grL G).toArray.size = 2756 := by simp [grL_len]
  rw [hs] at h
  exact h
theorem wpList_alloc_gr {ops : Array Oper} {rest : List Oper} {op : Oper} {a : Act} {w : World} {Q : Exit → Act → World → Prop} (hgd : op.guard = none) (ho : op.op = .alloc 89)
    (h : ∀ w', GrAt w' w.heap.size (fun _ => false) → Below w.heap.size w w' → w'.heap.size = w.heap.size + 1 → wpList Tryz.prog ops Q rest (a.put op.dst (.pointer (some ⟨w.heap.size, 0, none⟩))) w') : wpList Tryz.prog ops Q (op :: rest) a w := by
  refine wpList_plain hgd fun K hK => ?_
  unfold Oper.wp execOp
  simp only [ho, Sem.run_bind, run_alloc_gr, Result.andThen_ok, Sem.run_pure]
  exact hK _ _ (h _ (gr_new _ _) ((Below.refl _ _).alloc (Nat.le_refl _) _) (by simp))
theorem wpList_build_gr {ops : Array Oper} {rest : List Oper} {op : Oper} {a : Act} {w : World} {Q : Exit → Act → World → Prop} (hgd : op.guard = none) (ho : op.op = .build 89 #[])
    (h : wpList Tryz.prog ops Q rest (a.put op.dst (.agg (grL (fun _ => false)).toArray)) w) : wpList Tryz.prog ops Q (op :: rest) a w := by
  refine wpList_plain hgd fun K hK => ?_
  unfold Oper.wp execOp
  simp only [ho, Sem.run_bind, List.map_toArray, List.map_nil, run_build_gr, Result.andThen_ok, Sem.run_pure]
  exact hK _ _ h
set_option maxRecDepth 20000 in
theorem GrAt.range {w : World} {b : Nat} {G : Nat → Bool} (h : GrAt w b G) : w.rangeAt b 0 (grL G) := by
  intro j v hj
  have hj' : j < 2756 := by have := (List.getElem?_eq_some_iff.1 hj).1; rwa [grL_len] at this
  rw [grL_at G j hj'] at hj
  rw [Nat.zero_add, World.rowIs.cell h hj', ← hj]
theorem wpList_load_gr {ops : Array Oper} {rest : List Oper} {op : Oper} {a : Act} {w : World} {Q : Exit → Act → World → Prop} (hgd : op.guard = none) (x : Operand) (ho : op.op = .load 89 x)
    (b : Nat) (G : Nat → Bool) (hx : a.eval x = .pointer (some ⟨b, 0, none⟩)) (hG : GrAt w b G)
    (h : wpList Tryz.prog ops Q rest (a.put op.dst (.agg (grL G).toArray)) w) : wpList Tryz.prog ops Q (op :: rest) a w :=
  wpList_load_mid hgd 89 x ho b 0 hx (grL G) _ hG.range Tryz.underlying89 rfl (by rw [grL_len]; exact info_gr) h
set_option maxRecDepth 20000 in
theorem wpList_store_gr {ops : Array Oper} {rest : List Oper} {op : Oper} {a : Act} {w : World} {Q : Exit → Act → World → Prop} (hgd : op.guard = none) (x y : Operand) (ho : op.op = .store 89 x y)
    (b : Nat) (G H : Nat → Bool) (hx : a.eval x = .pointer (some ⟨b, 0, none⟩)) (hy : a.eval y = .agg (grL G).toArray) (hH : GrAt w b H)
    (h : ∀ w', GrAt w' b G → Only b w w' → wpList Tryz.prog ops Q rest (a.put op.dst undef) w') : wpList Tryz.prog ops Q (op :: rest) a w := by
  have hs : (grL G).toArray.size = 2756 := by simp [grL_len]
  refine wpList_store_mid hgd 89 x y ho b 0 (grL G).toArray hx hy (by rw [hs]; exact row_there hH 0 2756 (by omega)) (by rw [hs]; exact info_gr) (all_oneCell_toArray (grL_one G)) (h _ ?_ ?_)
  · have := row_setCells hH (grL G) 0 (by rw [grL_len]; omega)
    refine World.rowIs.congr this fun j hj => ?_
    rw [if_pos (by rw [grL_len]; omega), Nat.sub_zero, List.getD_eq_getElem?_getD, grL_at G j hj]
    rfl
  · exact only_setCells w b 0 (grL G)
theorem run_loadVar_gr {w : World} {b : Nat} {G : Nat → Bool} (h : GrAt w b G) : (loadVar 89 ⟨b, 0, none⟩).run Tryz.prog w = .ok (.agg (grL G).toArray) w :=
  run_loadVar_mid w b 0 89 (grL G) _ h.range Tryz.underlying89 rfl (by rw [grL_len]; exact info_gr)

def cTW (w : World) (b : Nat) : Nat := Sp.cT (fun j => match w.cell? ⟨b, j, none⟩ with | some v => isT v | none => false) 52
theorem cTW_set {w : World} {b : Nat} {S : Nat → Bool} (h : SetAt w b 0 S) : cTW w b = Sp.cT S 52 := by
  refine Sp.cT_congr 52 fun j hj => ?_
  have := h.cell j hj
  rw [Nat.zero_add] at this
  rw [this]
  cases S j <;> rfl

namespace Sp
/-- registers taken away one behind the other, and what is left -/
inductive PeelT (S : Nat → Bool) (M : Nat → Nat → Bool) (c : Int) : List Nat → (Nat → Bool) → Prop
  | start : PeelT S M c [] S
  | away {tk : List Nat} {L : Nat → Bool} (h : PeelT S M c tk L) (r : Nat) (hr : r < 52) (hL : L r = true) (hc : (cT (fun x => M r x && L x) 52 : Int) < c) : PeelT S M c (tk ++ [r]) (fun x => L x && x != r)
theorem PeelT.peel {S : Nat → Bool} {M : Nat → Nat → Bool} {c : Int} {tk : List Nat} {L : Nat → Bool} (h : PeelT S M c tk L) : Peel S M c L := by
  induction h with
  | start => exact Peel.start _ _ _
  | away h r hr hL hc ih => exact ih.away r hc
theorem PeelT.len {S : Nat → Bool} {M : Nat → Nat → Bool} {c : Int} {tk : List Nat} {L : Nat → Bool} (h : PeelT S M c tk L) : tk.length + cT L 52 ≤ 52 := by
  induction h with
  | start => have := cT_le S 52; simp; omega
  | @away tk L h r hr hL hc ih =>
    have := cT_lt (S := fun x => L x && x != r) (T := L) (n := 52) (j := r) (fun k _ e => by simp only [Bool.and_eq_true] at e; exact e.1) hr (by simp) hL
    simp
    omega
end Sp
/-- what is left, and the slice of what was taken away -/
def peL (L : Nat → Bool) (v : Value) : List Value := setL L ++ [v]
theorem peL_len (L : Nat → Bool) (v : Value) : (peL L v).length = 53 := by simp [peL, setL_len]
def peF (L : Nat → Bool) (v : Value) (j : Nat) : Value := if j < 52 then .bool (L j) else v
theorem peL_at (L : Nat → Bool) (v : Value) (j : Nat) (hj : j < 53) : (peL L v)[j]? = some (peF L v j) := by
  unfold peL peF
  by_cases h : j < 52
  · rw [List.getElem?_append_left (by rw [setL_len]; exact h), setL_at L j h, if_pos h]
  · obtain rfl : j = 52 := by omega
    rw [List.getElem?_append_right (by rw [setL_len]; omega), setL_len, if_neg h]
    rfl
theorem peL_one (L : Nat → Bool) (v : Value) (hv : v.oneCell' = true) : ∀ u ∈ peL L v, u.oneCell' = true := by
  intro u hu
  rcases List.mem_append.1 hu with h | h
  · exact setL_one L u h
  · rw [List.mem_singleton.1 h]; exact hv
theorem info_pe : (Tryz.prog.info? 108).map (·.size) = some 53 := by kernel_rfl
theorem run_alloc_pe (w : World) : (Instr.alloc 108 true (.tuple #[])).run Tryz.prog w = .ok (.pointer (some ⟨w.heap.size, 0, none⟩)) (w.alloc (.cells (peL (fun _ => false) (.slice none 0 0)).toArray 108)) := by kernel_rfl
theorem run_build_pe (w : World) (S : Nat → Bool) : (Instr.build 108 #[(0, .agg (setL S).toArray)]).run Tryz.prog w = .ok (.agg (peL S (.slice none 0 0)).toArray) w := by kernel_rfl
def PeAt (w : World) (b : Nat) (L : Nat → Bool) (v : Value) : Prop := w.rowIs b 108 53 (peF L v)
theorem PeAt.of_block {w w' : World} {b : Nat} {L : Nat → Bool} {v : Value} (h : PeAt w b L v) (e : w'.heap[b]? = w.heap[b]?) : PeAt w' b L v := World.rowIs.of_block h e
theorem PeAt.lt {w : World} {b : Nat} {L : Nat → Bool} {v : Value} (h : PeAt w b L v) : b < w.heap.size := World.rowIs.lt h
theorem PeAt.sets {w : World} {b : Nat} {L : Nat → Bool} {v : Value} (h : PeAt w b L v) : SetAt w b 0 L :=
  ⟨fun r hr => by rw [Nat.zero_add, World.rowIs.cell h (show r < 53 by omega)]; unfold peF; rw [if_pos hr], fun r _ => World.rowIs.frozen h _⟩
theorem PeAt.sl {w : World} {b : Nat} {L : Nat → Bool} {v : Value} (h : PeAt w b L v) : w.cell? ⟨b, 52, none⟩ = some v := World.rowIs.cell h (show 52 < 53 by omega)
theorem PeAt.range {w : World} {b : Nat} {L : Nat → Bool} {v : Value} (h : PeAt w b L v) : w.rangeAt b 0 (peL L v) := by
  intro j u hj
  have hj' : j < 53 := by have := (List.getElem?_eq_some_iff.1 hj).1; rwa [peL_len] at this
  rw [peL_at L v j hj'] at hj
  rw [Nat.zero_add, World.rowIs.cell h hj', ← hj]
theorem PeAt.put {w : World} {b : Nat} {L : Nat → Bool} {v : Value} (h : PeAt w b L v) (r : Nat) (hr : r < 52) : PeAt (w.setCell ⟨b, r, none⟩ (.bool false)) b (fun x => L x && x != r) v :=
  World.rowIs.congr (World.rowIs.set h r (.bool false)) (fun x _ => by
    show (if x = r then Value.bool false else peF L v x) = peF (fun x => L x && x != r) v x
    unfold peF
    by_cases e : x = r
    · rw [if_pos e, if_pos (by omega)]; simp [e]
    · rw [if_neg e]
      by_cases h : x < 52
      · rw [if_pos h, if_pos h]; simp [e]
      · rw [if_neg h, if_neg h])
theorem PeAt.setV {w : World} {b : Nat} {L : Nat → Bool} {v : Value} (h : PeAt w b L v) (u : Value) : PeAt (w.setCell ⟨b, 52, none⟩ u) b L u :=
  World.rowIs.congr (World.rowIs.set h 52 u) (fun x hx => by
    show (if x = 52 then u else peF L v x) = peF L u x
    unfold peF
    by_cases e : x = 52
    · rw [if_pos e, if_neg (by omega)]
    · rw [if_neg e, if_pos (by omega), if_pos (by omega)])
theorem pe_new (w : World) (L : Nat → Bool) (v : Value) : PeAt (w.alloc (.cells (peL L v).toArray 108)) w.heap.size L v := by
  have h := World.rowIs_alloc w (peL L v).toArray 108 (peF L v) (fun r hr => by
    have hr' : r < 53 := by simpa [peL_len] using hr
    rw [List.getElem?_toArray]
    exact peL_at L v r hr')
  have hs : (peL L v).toArray.size = 53 := by simp [peL_len]
  rw [hs] at h
  exact h
theorem wpList_alloc_pe {ops : Array Oper} {rest : List Oper} {op : Oper} {a : Act} {w : World} {Q : Exit → Act → World → Prop} (hgd : op.guard = none) (ho : op.op = .alloc 108)
    (h : ∀ w', PeAt w' w.heap.size (fun _ => false) (.slice none 0 0) → Below w.heap.size w w' → w'.heap.size = w.heap.size + 1 → wpList Tryz.prog ops Q rest (a.put op.dst (.pointer (some ⟨w.heap.size, 0, none⟩))) w') : wpList Tryz.prog ops Q (op :: rest) a w := by
  refine wpList_plain hgd fun K hK => ?_
  unfold Oper.wp execOp
  simp only [ho, Sem.run_bind, run_alloc_pe, Result.andThen_ok, Sem.run_pure]
  exact hK _ _ (h _ (pe_new _ _ _) ((Below.refl _ _).alloc (Nat.le_refl _) _) (by simp))
theorem wpList_build_pe {ops : Array Oper} {rest : List Oper} {op : Oper} {a : Act} {w : World} {Q : Exit → Act → World → Prop} (hgd : op.guard = none) (x : Operand) (ho : op.op = .build 108 #[(0, x)]) (S : Nat → Bool) (hx : a.eval x = .agg (setL S).toArray)
    (h : wpList Tryz.prog ops Q rest (a.put op.dst (.agg (peL S (.slice none 0 0)).toArray)) w) : wpList Tryz.prog ops Q (op :: rest) a w := by
  refine wpList_plain hgd fun K hK => ?_
  unfold Oper.wp execOp
  simp only [ho, Sem.run_bind, List.map_toArray, List.map_cons, List.map_nil, hx, run_build_pe, Result.andThen_ok, Sem.run_pure]
  exact hK _ _ h
theorem wpList_load_pe {ops : Array Oper} {rest : List Oper} {op : Oper} {a : Act} {w : World} {Q : Exit → Act → World → Prop} (hgd : op.guard = none) (x : Operand) (ho : op.op = .load 108 x)
    (b : Nat) (L : Nat → Bool) (v : Value) (hx : a.eval x = .pointer (some ⟨b, 0, none⟩)) (hG : PeAt w b L v)
    (h : wpList Tryz.prog ops Q rest (a.put op.dst (.agg (peL L v).toArray)) w) : wpList Tryz.prog ops Q (op :: rest) a w :=
  wpList_load_mid hgd 108 x ho b 0 hx (peL L v) _ hG.range Tryz.underlying108 rfl (by rw [peL_len]; exact info_pe) h
set_option maxRecDepth 20000 in
theorem wpList_store_pe {ops : Array Oper} {rest : List Oper} {op : Oper} {a : Act} {w : World} {Q : Exit → Act → World → Prop} (hgd : op.guard = none) (x y : Operand) (ho : op.op = .store 108 x y)
    (b : Nat) (L L' : Nat → Bool) (v v' : Value) (hv : v.oneCell' = true) (hx : a.eval x = .pointer (some ⟨b, 0, none⟩)) (hy : a.eval y = .agg (peL L v).toArray) (hH : PeAt w b L' v')
    (h : ∀ w', PeAt w' b L v → Only b w w' → wpList Tryz.prog ops Q rest (a.put op.dst undef) w') : wpList Tryz.prog ops Q (op :: rest) a w := by
  have hs : (peL L v).toArray.size = 53 := by simp [peL_len]
  refine wpList_store_mid hgd 108 x y ho b 0 (peL L v).toArray hx hy (by rw [hs]; exact row_there hH 0 53 (by omega)) (by rw [hs]; exact info_pe) (all_oneCell_toArray (peL_one L v hv)) (h _ ?_ ?_)
  · have := row_setCells hH (peL L v) 0 (by rw [peL_len]; omega)
    refine World.rowIs.congr this fun j hj => ?_
    rw [if_pos (by rw [peL_len]; omega), Nat.sub_zero, List.getD_eq_getElem?_getD, peL_at L v j hj]
    rfl
  · exact only_setCells w b 0 (peL L v)
theorem run_loadVar_pe {w : World} {b : Nat} {L : Nat → Bool} {v : Value} (h : PeAt w b L v) : (loadVar 108 ⟨b, 0, none⟩).run Tryz.prog w = .ok (.agg (peL L v).toArray) w :=
  run_loadVar_mid w b 0 108 (peL L v) _ h.range Tryz.underlying108 rfl (by rw [peL_len]; exact info_pe)
theorem info_int : ∃ i z, Tryz.prog.info? 3 = some i ∧ i.zero = some z ∧ i.size = 1 ∧ i.bytes = 8 ∧ z.cells.size = 1 := by
  have h : (Tryz.prog.info? 3).map (fun i => (i.zero, i.size, i.bytes)) = some (some (.int .i64 0), 1, 8) := by kernel_rfl
  obtain ⟨i, hi, hz⟩ := Option.map_eq_some_iff.1 h
  simp only [Prod.mk.injEq] at hz
  exact ⟨i, _, hi, hz.1, hz.2.1, hz.2.2, rfl⟩
def tkV (tk : List Nat) : List Value := tk.map fun r => .int .i64 (r : Nat)
def PeelPost (G : Nat → Bool) (c : Int) (w : World) (e : Ending) (w' : World) : Prop :=
  ∃ L tk v, e = .returned (.agg (peL L v).toArray) ∧ v.oneCell' = true ∧ Sp.PeelT (fun r => G r) (fun r x => G (52 + r * 52 + x)) c tk L ∧ Sp.IsCore (fun r => G r) (fun r x => G (52 + r * 52 + x)) c L ∧ w'.ownsRow w.heap.size 3 1 v tk.length (tkV tk) ∧ Below w.heap.size w w'

set_option maxRecDepth 20000 in
set_option maxHeartbeats 4000000 in
theorem peel_any (b : Nat) (G : Nat → Bool) (c : Int) (w : World) (h : GrAt w b G) :
    Calls Tryz.prog 65 #[.pointer (some ⟨b, 0, none⟩), .int .i64 c] w fun e w' => PeelPost G c w e w' := by
  have hbl := h.lt
  have HG := hid h
  clear h
  obtain ⟨ii, zz, hi1, hi2, hi3, hi4, hi5⟩ := info_int
  have HI := hid (And.intro hi1 (And.intro hi2 (And.intro hi3 (And.intro hi4 hi5))))
  clear hi1 hi2 hi3 hi4 hi5
  unfold PeelPost
  generalize hN : w.heap.size = N at *
  go_enter Tryz.func65, Tryz.ntmps65
  go_upto_region 1 with (refine wpList_alloc_pe rfl rfl ?_; intro w1 hs1 hb1 hz1; rw [hN] at hs1 hb1 hz1; have HS1 := hid hs1; have HB1 := hid hb1; clear hs1 hb1)
  have HG1 := hid (HG.out.of_block (HB1.out.block b hbl))
  go_upto_region 2 with (first | (refine wpList_load_set rfl (.tmp 9) rfl b 0 (fun x => G (0 + x)) (by rfl) (HG1.out.sets 0 (by omega)) ?_) | (refine wpList_build_pe rfl (.tmp 10) rfl (fun x => G (0 + x)) (by rfl) ?_) | (refine wpList_alloc_pe rfl rfl ?_; intro w2 hs2 hb2 hz2; rw [hz1] at hs2 hb2 hz2; have HS2 := hid hs2; have HB2 := hid hb2; clear hs2 hb2) | (refine wpList_store_pe rfl (.tmp 5) (.tmp 11) rfl (N + 1) (fun x => G (0 + x)) _ (.slice none 0 0) _ rfl (by rw [← hz1]; rfl) (by rfl) HS2.out ?_; intro w3 hs3 ho3; have HS3 := hid hs3; have HO3 := hid ho3; clear hs3 ho3))
  have hbw : Below N w w3 := (HB1.out.trans (HB2.out.mono (by omega))).trans (HO3.out.below (by omega))
  have hsz3 : w3.heap.size = N + 2 := by rw [HO3.out.size, hz2]
  have HSR := hid ((HS1.out.of_block (HB2.out.block N (by omega))).of_block (HO3.out.block N (by omega)))
  have HBW := hid hbw
  rw [show (fun x => G (0 + x)) = fun r => G r from funext fun x => by rw [Nat.zero_add]] at HS3
  clear hbw HS1 HB1 HS2 HB2 HO3 hz2 HG1
  have HL0 := hid (loose_any b (N + 1) 0 G (fun r => G r) c w3 (HG.out.of_block (HBW.out.block b hbl)) HS3.out.sets)
  go_upto_region 3 with (go_at_call 84; refine HL0.out.mono ?_; rintro e w4 ⟨z, rfl, hcase, rfl⟩; have HCS := hid hcase; clear hcase)
  clear HL0
  go_loopw [6] (fun zv wr => ∃ (L : Nat → Bool) (tk : List Nat) (z : Int) (a : Option Addr) (m k : Nat), zv = .int .i64 z ∧ PeAt wr (N + 1) L (.slice a m k) ∧ Sp.PeelT (fun r => G r) (fun r x => G (52 + r * 52 + x)) c tk L ∧ LooseR G L c z ∧ wr.ownsRow (N + 2) 3 1 (.slice a m k) tk.length (tkV tk) ∧ PeAt wr N (fun _ => false) (.slice none 0 0) ∧ N + 2 ≤ wr.heap.size ∧ Below N w wr) (fun _ wr => cTW wr (N + 1))
  case atStart => exact ⟨fun r => G r, [], z, none, 0, 0, rfl, HS3.out, Sp.PeelT.start, HCS.out, World.ownsRow_nil _ _ _ _, HSR.out, by omega, HBW.out⟩
  case round =>
    clear HS3 HCS HSR HBW
    obtain ⟨L, tk, z, a, m, k, rfl, hS, hP, hC, hO, hR, hsz, hB⟩ := hrel
    have HS := hid hS
    have HP := hid hP
    have HO := hid hO
    have HR := hid hR
    have HB := hid hB
    have hlt := hS.lt
    clear hS hP hR hB hO
    rcases hC with ⟨r, hr, rfl, hrL, hrc⟩ | ⟨rfl, hall⟩
    · have HRL := hid hrL
      have HPA := hid (HP.out.away r hr hrL hrc)
      have htk := HP.out.len
      have hne : ((r : Int) != -1) = true := by simp
      clear hrL hrc
      have HPT := hid (put_exact (N + 1) 0 L (r : Int) false wr HS.out.sets (by omega))
      rw [if_pos (show (0 : Int) ≤ (r : Int) by omega), Int.toNat_natCast, Nat.zero_add] at HPT
      have HS5 := hid (HS.out.put r hr)
      have HO5 := hid (show Only (N + 1) wr (wr.setCell ⟨N + 1, r, none⟩ (.bool false)) from Only.set _ _ _ _)
      go_upto_region 6 with (go_at_call 37; refine HPT.out.mono ?_; rintro e w5 ⟨rfl, rfl⟩)
      generalize wr.setCell ⟨N + 1, r, none⟩ (.bool false) = w5 at *
      have hz5 : w5.heap.size = wr.heap.size := HO5.out.size
      have HOW5 := hid (own_move HO.out (w' := w5) (fun q hq => HO5.out.block q (by have := (HO.out.lt q hq).1; omega)))
      have c52 := HS5.out.sl
      have hgr : ∀ w6, (w5.alloc (.cells #[.int .i64 (r : Nat)] 3)).grownBy w6 (Value.slice a m k).ownBlock → ∀ q, q < N + 2 → w6.heap[q]? = w5.heap[q]? := by
        intro w6 hg q hq
        have h1 := grown_old HOW5.out hg (k := q) (Or.inl hq) (by simp; omega)
        have h2 := ((Below.refl w5.heap.size w5).alloc (Nat.le_refl _) (.cells #[.int .i64 (r : Nat)] 3)).block q (by omega)
        rw [h1, h2]
      have HGR := hid hgr
      clear hgr
      go_upto_region 4 with (at_builtin; refine wpList_append_own _ rfl (.tmp 26) (.tmp 28) 91 rfl (N + 2) 3 ii zz 1 8 Tryz.underlying91 HI.out.1 HI.out.2.1 HI.out.2.2.1 HI.out.2.2.2.1 HI.out.2.2.2.2 (by decide) (.slice a m k) tk.length (tkV tk) (by simp [Act.eval]) (by exact own_below HOW5.out ((Below.refl _ _).alloc (Nat.le_refl _) _)) ⟨w5.heap.size, 0, none⟩ 1 1 [.int .i64 (r : Nat)] (by simp [Act.eval]) rfl (by exact alloc_at w5 #[.int .i64 (r : Nat)] 3) (by intro u hu; rw [List.mem_singleton.1 hu]; rfl) (by unfold maxLen; omega) (by omega) (by simp; omega) ?_; intro v' w6 hown hgrow _; obtain ⟨g3, cap3, hv⟩ := Joins.ownsRow_form hown (by omega); subst hv; have h6 := HGR.out w6 hgrow; have r6 := HS5.out.of_block (h6 (N + 1) (by omega)); have s1 := r6.sl; have s2 := World.rowIs.frozen r6 52; have HR6 := hid r6; have HH6 := hid h6; have HOWN := hid hown; have HGW := hid hgrow; clear h6 r6 hown hgrow)
      have hz6 : w5.heap.size + 1 ≤ w6.heap.size := by have := HGW.out.size; simpa using this
      have HS7 := hid (HR6.out.setV (.slice (some ⟨g3, 0, none⟩) (tk.length + 1) cap3))
      have HO7 := hid (show Only (N + 1) w6 (w6.setCell ⟨N + 1, 52, none⟩ (.slice (some ⟨g3, 0, none⟩) (tk.length + 1) cap3)) from Only.set _ _ _ _)
      generalize w6.setCell ⟨N + 1, 52, none⟩ (.slice (some ⟨g3, 0, none⟩) (tk.length + 1) cap3) = w7 at *
      have HB7 := hid (show Below N w w7 from ⟨by rw [HO7.out.os, HGW.out.os]; exact HO5.out.os.trans HB.out.os, by rw [HO7.out.tape, HGW.out.tape]; exact HO5.out.tape.trans HB.out.tape, by rw [HO7.out.output, HGW.out.output]; exact HO5.out.output.trans HB.out.output, by rw [HO7.out.size]; have := HB.out.size; omega, fun q hq => by rw [HO7.out.block q (by omega), HH6.out q (by omega), HO5.out.block q (by omega), HB.out.block q hq]⟩)
      have HL5 := hid (loose_any b (N + 1) 0 G (fun x => L x && x != r) c w7 (HG.out.of_block (HB7.out.block b hbl)) HS7.out.sets)
      have HM := hid (show cTW w7 (N + 1) < cTW wr (N + 1) by
        rw [cTW_set HS7.out.sets, cTW_set HS.out.sets]
        exact Sp.cT_lt (fun k _ e => by simp only [Bool.and_eq_true] at e; exact e.1) hr (by simp) HRL.out)
      go_wp2_with (go_at_call 84; refine HL5.out.mono ?_; rintro e w8 ⟨z', rfl, hcase, rfl⟩; have HCS := hid hcase; clear hcase)
      go_roundw
      case rel =>
        refine ⟨_, tk ++ [r], z', some ⟨g3, 0, none⟩, tk.length + 1, cap3, rfl, HS7.out, HPA.out, HCS.out, ?_, ?_, by rw [HO7.out.size]; omega, HB7.out⟩
        · have := own_move HOWN.out (w' := w7) (fun q hq => HO7.out.block q (by have := (HOWN.out.lt q hq).1; omega))
          rw [List.length_append, List.length_singleton, show tkV (tk ++ [r]) = tkV tk ++ [.int .i64 (r : Nat)] by simp [tkV]]
          exact this
        · exact HR.out.of_block (by rw [HO7.out.block N (by omega), HH6.out N (by omega), HO5.out.block N (by omega)])
      case measure => exact HM.out
    · have HIC := hid (HP.out.peel.fin hall)
      clear hall
      go_wp2_with (first | (refine wpList_load_pe rfl (.tmp 5) rfl (N + 1) L (.slice a m k) (by rfl) HS.out ?_) | (refine wpList_store_pe rfl (.tmp 4) (.tmp 31) rfl N L _ (.slice a m k) _ rfl (by rfl) (by rfl) HR.out ?_; intro w12 hs12 ho12; have HS12 := hid hs12; have HO12 := hid ho12; clear hs12 ho12))
      refine bodyPost_ret (v := .agg (peL L (.slice a m k)).toArray) (results_cell_one (q := 4) (a := ⟨N, 0, none⟩) rfl _ _ (by rfl) (run_loadVar_pe HS12.out)) (by rfl) ⟨L, tk, .slice a m k, rfl, rfl, HP.out, HIC.out, ?_, ?_⟩
      · exact own_base (own_move HO.out (w' := w12) (fun q hq => HO12.out.block q (by have := (HO.out.lt q hq).1; omega))) (by omega)
      · exact HB.out.trans (HO12.out.below (Nat.le_refl _))
namespace Sp
def ofTo (C : List Ins) (R : Nat → Nat → Bool) (n : Nat) : Nat → Nat → Bool
  | 0 => fun _ => false
  | j + 1 => if j + 1 < n then maG (stG (ofTo C R n j) (C.getD j noIns)) (C.getD j noIns).d (R (j + 1)) else stG (ofTo C R n j) (C.getD j noIns)
def ofZ (G : Nat → Bool) (S : Nat → Bool) : Nat → Nat → Bool
  | 0 => G
  | r + 1 => if S r = true then maG (ofZ G S r) r S else ofZ G S r
end Sp

set_option maxRecDepth 20000 in
set_option maxHeartbeats 4000000 in
theorem of_any (p nb B : Nat) (C : List Sp.Ins) (L : List (Nat × Nat)) (w : World) (hP : ProgAt w B p C L) (hnb : L.length = nb) (hC1 : 1 ≤ C.length) (hC : C.length ≤ 1000) (hnb10 : nb ≤ 10) (hnb1 : 1 ≤ nb) (hr : ∀ i, i ∈ C → i.d < 52 ∧ i.x < 52 ∧ i.y < 52) :
    Calls Tryz.prog 39 #[.pointer (some ⟨p, 0, none⟩)] w fun e w' => e = .returned (.agg (grL (Sp.ofZ (Sp.ofTo C (Sp.rounds C L nb) C.length C.length) (Sp.rounds C L nb 0) 52)).toArray) ∧ Below w.heap.size w w' := by
  have HLA := hid (fun (W : World) (hW : ProgAt W B p C L) => liveAheads_any p nb B C L W hW hnb hC1 hC hnb10 hnb1 hr)
  have HPR := hid hP
  obtain ⟨vC, vB, hrow, hoC, hoB, _⟩ := hP
  have c0 : w.cell? ⟨p, 0, none⟩ = some vC := hrow.cell (i := 0) (by omega)
  have hpl := hrow.lt
  obtain ⟨g, cap, rfl⟩ := Joins.ownsRow_form hoC (by omega)
  have HC := hid hoC
  have HRG := hid hr
  clear hrow hoC hoB hr
  generalize hR : Sp.rounds C L nb = R at *
  clear hR
  generalize hn : C.length = n at *
  have HN := hid hn
  clear hn
  generalize hN : w.heap.size = N at *
  go_enter Tryz.func39, Tryz.ntmps39
  go_upto_region 1 with (refine wpList_alloc_gr rfl rfl ?_; intro w1 hs1 hb1 hz1; rw [hN] at hs1 hb1 hz1; have HS1 := hid hs1; have HB1 := hid hb1; clear hs1 hb1)
  go_upto_region 2 with (first | (refine wpList_build_gr rfl rfl ?_) | (refine wpList_alloc_gr rfl rfl ?_; intro w2 hs2 hb2 hz2; rw [hz1] at hs2 hb2 hz2; have HS2 := hid hs2; have HB2 := hid hb2; clear hs2 hb2) | (refine wpList_store_gr rfl (.tmp 3) (.tmp 8) rfl (N + 1) (fun _ => false) (fun _ => false) (by rw [← hz1]; rfl) (by rfl) HS2.out ?_; intro w3 hs3 ho3; have HS3 := hid hs3; have HO3 := hid ho3; clear hs3 ho3))
  have hbw : Below N w w3 := (HB1.out.trans (HB2.out.mono (by omega))).trans (HO3.out.below (by omega))
  have hsz3 : w3.heap.size = N + 2 := by rw [HO3.out.size, hz2]
  have HSR := hid ((HS1.out.of_block (HB2.out.block N (by omega))).of_block (HO3.out.block N (by omega)))
  have HBW := hid hbw
  have HLW := hid (HLA.out w3 (HPR.out.move (by rw [hN]; exact hbw)))
  rw [hsz3] at HLW
  clear hbw HS1 HB1 HS2 HB2 HO3 hz2 HLA
  go_upto_region 3 with (go_at_call 56; refine HLW.out.mono ?_; rintro e w4 ⟨rfl, hs4, hb4⟩; have HLV4 := hid hs4; have HG4 := hid (HS3.out.of_block (hb4.block (N + 1) (by omega))); have HSR4 := hid (HSR.out.of_block (hb4.block N (by omega))); have HB4 := hid (HBW.out.trans (hb4.mono (by omega))); have hs4' : N + 3 ≤ w4.heap.size := (by have h1 := (hs4 0 (by omega)).lt; omega); clear hs4 hb4)
  have c0' : w4.cell? ⟨p, 0, none⟩ = some (.slice (some ⟨g, 0, none⟩) n cap) := (HB4.out.cell (p := ⟨p, 0, none⟩) (by omega)).trans c0
  clear HLW HS3 HSR HBW c0 hsz3
  go_wp2_with fail
  go_loopw [16] (fun jv wr => ∃ j : Nat, j ≤ n ∧ jv = .int .i64 j ∧ GrAt wr (N + 1) (Sp.ofTo C R n j) ∧ GrAt wr N (fun _ => false) ∧ (∀ k, k < n → SetAt wr (N + 2) (k * 52) (R k)) ∧ Below N w wr) (fun jv _ => n - (intOf jv).toNat)
  case atStart => exact ⟨0, by omega, rfl, HG4.out, HSR4.out, HLV4.out, HB4.out⟩
  case round =>
    clear HG4 HSR4 HLV4 HB4 hs4' c0'
    obtain ⟨j, hj, rfl, hG, hZ, hL, hB⟩ := hrel
    have HG := hid hG
    have HZ := hid hZ
    have HL := hid hL
    have HB := hid hB
    have hsr : N + 3 ≤ wr.heap.size := by have := (hL 0 (by omega)).lt; omega
    clear hG hZ hL hB
    by_cases hlt : j < n
    · have hjC : j < C.length := by rw [HN.out]; exact hlt
      obtain ⟨e1, e2, e3, e4, e5, e6, e7⟩ := ins_cells (own_below HC.out (by rw [hN]; exact HB.out)) j hjC
      obtain ⟨r1, r2, r3⟩ := HRG.out C[j] (List.getElem_mem hjC)
      have HGD := hid (show C.getD j Sp.noIns = C[j] by rw [List.getD_eq_getElem?_getD, List.getElem?_eq_getElem hjC]; rfl)
      have HSTEP := hid (show Sp.ofTo C R n (j + 1) = if j + 1 < n then Sp.maG (Sp.stG (Sp.ofTo C R n j) C[j]) C[j].d (R (j + 1)) else Sp.stG (Sp.ofTo C R n j) C[j] by simp only [Sp.ofTo]; rw [HGD.out])
      generalize hI : C[j] = I at *
      have HI := hid hI
      clear hI HGD
      have HBA := hid (show Below wr.heap.size wr (wr.alloc (.cells #[.int .u8 I.o, .int .i64 I.d, .int .i64 I.x, .int .i64 I.y, .int .i64 I.n, .int .i64 I.k, .int .i64 I.m] 74)) from (Below.refl _ _).alloc (Nat.le_refl _) _)
      have HQ := hid (row_new wr I.o I.d I.x I.y I.n I.k I.m 74)
      have hsa : (wr.alloc (.cells #[.int .u8 I.o, .int .i64 I.d, .int .i64 I.x, .int .i64 I.y, .int .i64 I.n, .int .i64 I.k, .int .i64 I.m] 74)).heap.size = wr.heap.size + 1 := by simp
      have HST := hid (stand_any (N + 1) _ I.o I.d I.x I.y I.n I.k I.m (wr.alloc (.cells #[.int .u8 I.o, .int .i64 I.d, .int .i64 I.x, .int .i64 I.y, .int .i64 I.n, .int .i64 I.k, .int .i64 I.m] 74)) (HG.out.of_block (HBA.out.block (N + 1) (by omega))) r1 r2 r3)
      rw [hsa] at HST
      go_upto_region 7 with (go_at_call 63; refine HST.out.mono ?_; rintro e w5 ⟨rfl, hg5, hb5⟩; have HG5 := hid hg5; have HB5 := hid hb5; clear hg5 hb5)
      have hs5 : wr.heap.size + 1 ≤ w5.heap.size := by have := HB5.out.size; rw [hsa] at this; exact this
      have HQ5 := hid (HQ.out.of_block (HB5.out.block wr.heap.size (by omega) (by omega)))
      have HZ5 := hid ((HZ.out.of_block (HBA.out.block N (by omega))).of_block (HB5.out.block N (by omega) (by omega)))
      have HL5 := hid (fun k (hk : k < n) => ((HL.out k hk).of_block (HBA.out.block (N + 2) (by omega))).of_block (HB5.out.block (N + 2) (by omega) (by omega)))
      have HW5 := hid ((HB.out.trans (HBA.out.mono (by omega))).trans (show Below N _ w5 from ⟨HB5.out.os, HB5.out.tape, HB5.out.output, HB5.out.size, fun k hk => HB5.out.block k (by omega) (by omega)⟩))
      obtain ⟨f1, f2, f3, f4, f5, f6, f7⟩ := row_cells HQ5.out
      clear HST HBA HQ HB5 HG HZ HL HB e1 e2 e3 e4 e5 e6 e7 hsa HQ5
      generalize wr.heap.size = q at *
      by_cases hj1 : j + 1 < n
      · rw [if_pos hj1] at HSTEP
        have hwrap : IntKind.i64.wrap ((j : Int) + 1) = (j : Int) + 1 := IntWalk.i64_in _ (by omega)
        have HMA := hid (meetAll_any (N + 1) (N + 2) ((j + 1) * 52) _ (R (j + 1)) I.d w5.drew (HG5.out.of_block rfl) ((HL5.out (j + 1) hj1).of_block rfl) (by omega) r1)
        go_wp2_with fail
        go_region_with (go_at_call 64; refine HMA.out.mono ?_; rintro e w6 ⟨rfl, hg6, ho6⟩; have HG6 := hid hg6; have HO6 := hid (show Only (N + 1) w5 w6 from ⟨ho6.os, ho6.tape, ho6.output, ho6.size, ho6.block⟩); clear hg6 ho6)
        all_goals
          go_wp2_with fail
          go_roundw
          case rel => exact ⟨j + 1, by omega, by go_num, by rw [HSTEP.out]; exact HG6.out, HZ5.out.of_block (HO6.out.block N (by omega)), fun k hk => (HL5.out k hk).of_block (HO6.out.block (N + 2) (by omega)), HW5.out.trans (HO6.out.below (by omega))⟩
          case measure => simp [intOf]; omega
      · rw [if_neg hj1] at HSTEP
        go_wp2_with fail
        go_roundw
        case rel => exact ⟨j + 1, by omega, by go_num, by rw [HSTEP.out]; exact HG5.out, HZ5.out, HL5.out, HW5.out⟩
        case measure => simp [intOf]; omega
    · have HJ := hid (show j = n by omega)
      rw [HJ.out] at HG
      generalize hG0 : Sp.ofTo C R n n = G0 at *
      have HG0 := hid hG0
      clear hG0
      have hn0 : (0 : Int) < n := by omega
      go_wp2_with fail
      go_loopw [7] (fun rv wq => ∃ r : Nat, r ≤ 52 ∧ rv = .int .i64 r ∧ GrAt wq (N + 1) (Sp.ofZ G0 (R 0) r) ∧ GrAt wq N (fun _ => false) ∧ SetAt wq (N + 2) 0 (R 0) ∧ Below N w wq) (fun rv _ => 52 - (intOf rv).toNat)
      case atStart => exact ⟨0, by omega, rfl, HG.out, HZ.out, (by have := HL.out 0 (by omega); rwa [Nat.zero_mul] at this), HB.out⟩
      case round =>
        clear HG HZ HL HB
        obtain ⟨r, hr, rfl, hG, hZ, hL, hB⟩ := hrel
        have HG := hid hG
        have HZ := hid hZ
        have HL := hid hL
        have HB := hid hB
        clear hG hZ hL hB
        by_cases hlt : r < 52
        · have HHS := hid (has_any (N + 2) 0 (R 0) r wr HL.out hlt)
          cases hs : R 0 r
          · have HE := hid (show Sp.ofZ G0 (R 0) (r + 1) = Sp.ofZ G0 (R 0) r by simp only [Sp.ofZ]; rw [if_neg (by rw [hs]; simp)])
            rw [hs] at HHS
            clear hs
            go_wp2_with (go_at_call 45; refine HHS.out.mono ?_; rintro e w' ⟨rfl, rfl⟩)
            go_roundw
            case rel =>
              first | simp only [show decide (0 < n) = true from decide_eq_true (by omega)] | simp only [show decide ((0 : Int) < n) = true from decide_eq_true (by omega)]
              repeat apply Exists.intro
              refine ⟨?_, rfl⟩
              exact ⟨r + 1, by omega, by go_num, by rw [HE.out]; exact HG.out, HZ.out, HL.out, HB.out⟩
            case measure => simp [intOf]; omega
          · have HE := hid (show Sp.ofZ G0 (R 0) (r + 1) = Sp.maG (Sp.ofZ G0 (R 0) r) r (R 0) by simp only [Sp.ofZ]; rw [if_pos hs])
            rw [hs] at HHS
            clear hs
            have HMA := hid (meetAll_any (N + 1) (N + 2) 0 _ (R 0) (r : Int) wr HG.out HL.out (by omega) (by omega))
            go_wp2_with (first | (go_at_call 45; refine HHS.out.mono ?_; rintro e w' ⟨rfl, rfl⟩) | (go_at_call 64; refine HMA.out.mono ?_; rintro e w6 ⟨rfl, hg6, ho6⟩; have HG6 := hid hg6; have HO6 := hid ho6; clear hg6 ho6))
            go_roundw
            case rel =>
              first | simp only [show decide (0 < n) = true from decide_eq_true (by omega)] | simp only [show decide ((0 : Int) < n) = true from decide_eq_true (by omega)]
              repeat apply Exists.intro
              refine ⟨?_, rfl⟩
              exact ⟨r + 1, by omega, by go_num, by rw [HE.out]; exact HG6.out, HZ.out.of_block (HO6.out.block N (by omega)), HL.out.of_block (HO6.out.block (N + 2) (by omega)), HB.out.trans (HO6.out.below (by omega))⟩
            case measure => simp [intOf]; omega
        · have HR := hid (show r = 52 by omega)
          rw [HR.out] at HG
          generalize hG1 : Sp.ofZ G0 (R 0) 52 = G1 at *
          have HG1 := hid hG1
          clear hG1
          go_wp2_with (first | (refine wpList_load_gr rfl (.tmp 3) rfl (N + 1) G1 (by rfl) HG.out ?_) | (refine wpList_store_gr rfl (.tmp 2) (.tmp 51) rfl N G1 _ (by rfl) (by rfl) HZ.out ?_; intro w12 hs12 ho12; have HS12 := hid hs12; have HO12 := hid ho12; clear hs12 ho12))
          refine bodyPost_ret (v := .agg (grL G1).toArray) (results_cell_one (q := 2) (a := ⟨N, 0, none⟩) rfl _ _ (by rfl) (run_loadVar_gr HS12.out)) (by rfl) ⟨by rw [← HG1.out, ← HG0.out], ?_⟩
          exact HB.out.trans (HO12.out.below (Nat.le_refl _))
end Go.Proofs.YtccndnckceagfabGreatDoorR
