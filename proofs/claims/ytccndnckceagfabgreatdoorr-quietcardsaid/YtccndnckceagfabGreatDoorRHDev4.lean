/-
  A program in memory; the program's own append of an instruction.
-/
import Derived.Test.YtccndnckceagfabGreatDoorRHDev3
import Derived.Deep.RegionLaw
namespace Go.Proofs.YtccndnckceagfabGreatDoorR
open Go.RowKit

def insV (C : List Sp.Ins) : List Value := C.flatMap insL
def blkL (b : Nat × Nat) : List Value := [.int .i64 (b.1 : Nat), .int .i64 (b.2 : Nat)]
def blkV (L : List (Nat × Nat)) : List Value := L.flatMap blkL

/-- at block p lies a program whose instructions are C and whose blocks are L, its rows from B on -/
def ProgAt (w : World) (B p : Nat) (C : List Sp.Ins) (L : List (Nat × Nat)) : Prop :=
  ∃ vC vB, w.rowIs p 47 2 (fun j => if j = 0 then vC else vB) ∧ w.ownsRow B 74 7 vC C.length (insV C) ∧ w.ownsRow B 117 2 vB L.length (blkV L) ∧ (L = [] → vB = .slice none 0 0)

/-- below B nothing but block p has turned -/
structure But (B p : Nat) (w w' : World) : Prop where
  os : w'.os = w.os
  tape : w'.tape = w.tape
  output : w'.output = w.output
  size : w.heap.size ≤ w'.heap.size
  block : ∀ k, k < B → k ≠ p → w'.heap[k]? = w.heap[k]?

theorem step_append_own {P : Program} {ops : Array Oper} {o : Oper} {a : Act} {w : World} {K : Act → World → Prop} {Q : Exit → Act → World → Prop} {E : Prop}
    (hg : o.guard = none) (s x : Operand) (t : TypeId) (hop : o.op = Op.call { callee := Callee.builtin Builtin.append, args := #[s, x], argTypes := #[t, t] })
    (base : Nat) (e : TypeId) (i : TypeInfo) (z : Value) (size bytes : Nat) (h1 : P.underlying t = some (.slice e)) (h2 : P.info? e = some i) (h3 : i.zero = some z) (h4 : i.size = size) (h5 : i.bytes = bytes) (h6 : z.cells.size = size) (h7 : 0 < size)
    (v : Value) (n : Nat) (xs : List Value) (hs : a.eval s = v) (hown : w.ownsRow base e size v n xs)
    (ad : Addr) (m c : Nat) (news : List Value) (hx : a.eval x = .slice (some ad) m c) (hn : news.length = m * size) (hc : ∀ j u, news[j]? = some u → w.cell? (ad.add j) = some u) (h1c : ∀ u ∈ news, u.oneCell' = true)
    (b1 : n + m ≤ maxLen) (b2 : (n + m) * bytes ≤ 140737488355328) (hbase : base ≤ w.heap.size)
    (hK : ∀ v' w', w'.ownsRow base e size v' (n + m) (xs ++ news) → w.grownBy w' v.ownBlock → K (a.put o.dst v') w') :
    if Region.wanted o (yielded ops a.tmps) = true then Oper.wp P o a w K Q else E := by
  have hw : Region.wanted o (yielded ops a.tmps) = true := by simp [Region.wanted, hg]
  rw [if_pos hw]
  exact wp_append_own w s x t hop base e i z size bytes h1 h2 h3 h4 h5 h6 h7 v n xs hs hown ad m c news hx hn hc h1c b1 b2 hbase (fun v' w' a1 a2 _ => hK v' w' a1 a2)

theorem info_ins : ∃ i z, Tryz.prog.info? 74 = some i ∧ i.zero = some z ∧ i.size = 7 ∧ i.bytes = 56 ∧ z.cells.size = 7 := by
  have h : (Tryz.prog.info? 74).map (fun i => (i.zero, i.size, i.bytes)) = some (some (.agg #[.int .u8 0, .int .i64 0, .int .i64 0, .int .i64 0, .int .i64 0, .int .i64 0, .int .i64 0]), 7, 56) := by kernel_rfl
  obtain ⟨i, hi, hz⟩ := Option.map_eq_some_iff.1 h
  simp only [Prod.mk.injEq] at hz
  exact ⟨i, _, hi, hz.1, hz.2.1, hz.2.2, rfl⟩
theorem info_blk : ∃ i z, Tryz.prog.info? 117 = some i ∧ i.zero = some z ∧ i.size = 2 ∧ i.bytes = 16 ∧ z.cells.size = 2 := by
  have h : (Tryz.prog.info? 117).map (fun i => (i.zero, i.size, i.bytes)) = some (some (.agg #[.int .i64 0, .int .i64 0]), 2, 16) := by kernel_rfl
  obtain ⟨i, hi, hz⟩ := Option.map_eq_some_iff.1 h
  simp only [Prod.mk.injEq] at hz
  exact ⟨i, _, hi, hz.1, hz.2.1, hz.2.2, rfl⟩

theorem own_move {w w' : World} {B e size n : Nat} {v : Value} {xs : List Value} (h : w.ownsRow B e size v n xs) (hb : ∀ k, v.ownBlock = some k → w'.heap[k]? = w.heap[k]?) : w'.ownsRow B e size v n xs := by
  obtain ⟨h1, h2⟩ := h
  refine ⟨h1, ?_⟩
  rcases h2 with h2 | ⟨g, cap, cur, rfl, hg, hh, r⟩
  · exact Or.inl h2
  · exact Or.inr ⟨g, cap, cur, rfl, hg, (hb g rfl).trans hh, r⟩
theorem own_below {w w' : World} {B e size n : Nat} {v : Value} {xs : List Value} (h : w.ownsRow B e size v n xs) (hb : Below w.heap.size w w') : w'.ownsRow B e size v n xs :=
  own_move h (fun k hk => hb.block k (h.lt k hk).2)
theorem grown_old {w0 w w' : World} {B e size n k : Nat} {v : Value} {xs : List Value} (h : w0.ownsRow B e size v n xs) (hg : w.grownBy w' v.ownBlock) (hk : k < B ∨ w0.heap.size ≤ k) (hw : k < w.heap.size) : w'.heap[k]? = w.heap[k]? :=
  hg.block k hw (fun e => by have := h.lt k e.symm; omega)
theorem insL_cells (i : Sp.Ins) : ∀ u ∈ insL i, u.oneCell' = true := by
  intro u hu
  simp only [insL, List.mem_cons, List.not_mem_nil, or_false] at hu
  rcases hu with rfl | rfl | rfl | rfl | rfl | rfl | rfl <;> rfl
theorem insL_at {w : World} {b t : Nat} {i : Sp.Ins} (h : w.rowIs b t 7 (insF i)) : ∀ j u, (insL i)[j]? = some u → w.cell? ((⟨b, 0, none⟩ : Addr).add j) = some u := by
  intro j u hu
  have hj : j < 7 := by
    have := (List.getElem?_eq_some_iff.1 hu).1
    exact this
  rw [show ((⟨b, 0, none⟩ : Addr).add j) = ⟨b, j, none⟩ from by simp only [Addr.add, Nat.zero_add]; split <;> simp_all, h.cell hj, ← hu]
  have hj' : j = 0 ∨ j = 1 ∨ j = 2 ∨ j = 3 ∨ j = 4 ∨ j = 5 ∨ j = 6 := by omega
  rcases hj' with rfl | rfl | rfl | rfl | rfl | rfl | rfl <;> rfl
theorem row_new (w : World) (o d x y n k m : Int) (t : Nat) : (w.alloc (.cells #[.int .u8 o, .int .i64 d, .int .i64 x, .int .i64 y, .int .i64 n, .int .i64 k, .int .i64 m] t)).rowIs w.heap.size t 7 (insF ⟨o, d, x, y, n, k, m⟩) := by
  refine World.rowIs_alloc w #[.int .u8 o, .int .i64 d, .int .i64 x, .int .i64 y, .int .i64 n, .int .i64 k, .int .i64 m] t _ (fun j hj => ?_)
  have hj' : j = 0 ∨ j = 1 ∨ j = 2 ∨ j = 3 ∨ j = 4 ∨ j = 5 ∨ j = 6 := by simp at hj; omega
  rcases hj' with rfl | rfl | rfl | rfl | rfl | rfl | rfl <;> rfl

theorem row_new2 (w : World) (o d x y n k m : Int) (t : Nat) : (((w.alloc (.cells #[.int .u8 o, .int .i64 d, .int .i64 x, .int .i64 y, .int .i64 n, .int .i64 k, .int .i64 m] t)).alloc (.cells #[.int .u8 o, .int .i64 d, .int .i64 x, .int .i64 y, .int .i64 n, .int .i64 k, .int .i64 m] t)).drew).rowIs (w.heap.size + 1) t 7 (insF ⟨o, d, x, y, n, k, m⟩) := by
  have h := row_new (w.alloc (.cells #[.int .u8 o, .int .i64 d, .int .i64 x, .int .i64 y, .int .i64 n, .int .i64 k, .int .i64 m] t)) o d x y n k m t
  rw [show (w.alloc (.cells #[.int .u8 o, .int .i64 d, .int .i64 x, .int .i64 y, .int .i64 n, .int .i64 k, .int .i64 m] t)).heap.size = w.heap.size + 1 from by simp] at h
  exact h.drew
theorem row_new1 (w : World) (o d x y n k m : Int) (t : Nat) : (((w.alloc (.cells #[.int .u8 o, .int .i64 d, .int .i64 x, .int .i64 y, .int .i64 n, .int .i64 k, .int .i64 m] t)).alloc (.cells #[.int .u8 o, .int .i64 d, .int .i64 x, .int .i64 y, .int .i64 n, .int .i64 k, .int .i64 m] t)).drew).rowIs w.heap.size t 7 (insF ⟨o, d, x, y, n, k, m⟩) :=
  ((row_new w o d x y n k m t).alloc _).drew
theorem below_new2 (w : World) (X Y : Obj) : Below w.heap.size w (((w.alloc X).alloc Y).drew) := (((Below.refl _ _).alloc (Nat.le_refl _) _).alloc (by simp) _).drew

theorem own_block {w : World} {B e size n k : Nat} {v : Value} {xs : List Value} (h : w.ownsRow B e size v n xs) (hk : v.ownBlock = some k) : ∃ cur, w.heap[k]? = some (.cells cur e (0, 0)) := by
  rcases h.2 with ⟨rfl, _⟩ | ⟨g, cap, cur, rfl, _, hh, _⟩
  · cases hk
  · have : g = k := by simpa [Value.ownBlock] using hk
    subst this
    exact ⟨cur, hh⟩
theorem own_apart {w : World} {B e size n B' e' size' n' k : Nat} {v v' : Value} {xs xs' : List Value} (h : w.ownsRow B e size v n xs) (h' : w.ownsRow B' e' size' v' n' xs') (he : e ≠ e') (hk : v.ownBlock = some k) : v'.ownBlock ≠ some k := by
  intro hk'
  obtain ⟨c1, e1⟩ := own_block h hk
  obtain ⟨c2, e2⟩ := own_block h' hk'
  rw [e1] at e2
  simp only [Option.some.injEq, Obj.cells.injEq] at e2
  exact he e2.2.1
theorem But.refl (B p : Nat) (w : World) : But B p w w := ⟨rfl, rfl, rfl, Nat.le_refl _, fun _ _ _ => rfl⟩
theorem But.trans {B p : Nat} {u v w : World} (h : But B p u v) (k : But B p v w) : But B p u w :=
  ⟨k.os.trans h.os, k.tape.trans h.tape, k.output.trans h.output, Nat.le_trans h.size k.size, fun i h1 h2 => (k.block i h1 h2).trans (h.block i h1 h2)⟩
theorem But.of_below {B p : Nat} {u v : World} (h : Below B u v) : But B p u v := ⟨h.os, h.tape, h.output, h.size, fun k hk _ => h.block k hk⟩
theorem But.set {B p off : Nat} (w : World) (v : Value) : But B p w (w.setCell ⟨p, off, none⟩ v) :=
  ⟨rfl, rfl, rfl, by simp [World.setCell], fun k _ hk => Below.heap_setCell w ⟨p, off, none⟩ v k hk⟩
theorem set_other {w : World} {p off k : Nat} {v : Value} (h : k ≠ p) : (w.setCell ⟨p, off, none⟩ v).heap[k]? = w.heap[k]? := Below.heap_setCell w ⟨p, off, none⟩ v k h
/-- behind an append to the first row and the store of the new slice -/
theorem add_fin {w W2 w' : World} {B p n nb : Nat} {vC vB v' : Value} {xs ys news : List Value} (hoC : w.ownsRow B 74 7 vC n xs) (hoB : w.ownsRow B 117 2 vB nb ys) (hrow : w.rowIs p 47 2 (fun j => if j = 0 then vC else vB)) (hp : p < B) (hB : B ≤ w.heap.size)
    (hb : Below w.heap.size w W2) (hg : W2.grownBy w' vC.ownBlock) (hown : w'.ownsRow B 74 7 v' (n + 1) (xs ++ news)) :
    (w'.setCell ⟨p, 0, none⟩ v').rowIs p 47 2 (fun j => if j = 0 then v' else vB) ∧ (w'.setCell ⟨p, 0, none⟩ v').ownsRow B 74 7 v' (n + 1) (xs ++ news) ∧ (w'.setCell ⟨p, 0, none⟩ v').ownsRow B 117 2 vB nb ys ∧ But B p w (w'.setCell ⟨p, 0, none⟩ v') := by
  have hpl := hrow.lt
  have hs := hb.size
  have r1 : w'.rowIs p 47 2 (fun j => if j = 0 then vC else vB) := hrow.of_block ((grown_old hoC hg (Or.inl hp) (by omega)).trans (hb.block p hpl))
  refine ⟨(r1.set 0 v').congr (fun j _ => by by_cases e : j = 0 <;> simp [e]), own_move hown (fun k hk => set_other (by have := (hown.lt k hk).1; omega)), ?_, ?_⟩
  · refine own_move hoB (fun k hk => ?_)
    have hk1 := hoB.lt k hk
    rw [set_other (by omega), hg.block k (by omega) (fun e => own_apart hoC hoB (by decide) e.symm hk), hb.block k (by omega)]
  · refine ((But.of_below (hb.mono hB)).trans ?_).trans (But.set w' v')
    exact ⟨hg.os, hg.tape, hg.output, hg.size, fun k hk _ => grown_old hoC hg (Or.inl hk) (by omega)⟩

theorem alloc_at (w : World) (c : Array Value) (t : Nat) : ∀ j u, c.toList[j]? = some u → (w.alloc (.cells c t)).cell? ((⟨w.heap.size, 0, none⟩ : Addr).add j) = some u := by
  intro j u hu
  have hj : j < c.size := by
    have := (List.getElem?_eq_some_iff.1 hu).1
    simpa using this
  rw [show ((⟨w.heap.size, 0, none⟩ : Addr).add j) = ⟨w.heap.size, j, none⟩ from by simp only [Addr.add, Nat.zero_add]; split <;> simp_all]
  have h := (World.rowIs_alloc w c t (fun i => c.getD i undef) (fun i hi => by simp [Array.getD, hi])).cell hj
  rw [h, ← hu]
  simp [Array.getD, hj]
/-- behind an append to the second row and the store of the new slice -/
theorem add_fin2 {w W2 w' : World} {B p n nb : Nat} {vC vB v' : Value} {xs ys news : List Value} (hoC : w.ownsRow B 74 7 vC n xs) (hoB : w.ownsRow B 117 2 vB nb ys) (hrow : w.rowIs p 47 2 (fun j => if j = 0 then vC else vB)) (hp : p < B) (hB : B ≤ w.heap.size)
    (hb : Below w.heap.size w W2) (hg : W2.grownBy w' vB.ownBlock) (hown : w'.ownsRow B 117 2 v' (nb + 1) (ys ++ news)) :
    (w'.setCell ⟨p, 1, none⟩ v').rowIs p 47 2 (fun j => if j = 0 then vC else v') ∧ (w'.setCell ⟨p, 1, none⟩ v').ownsRow B 74 7 vC n xs ∧ (w'.setCell ⟨p, 1, none⟩ v').ownsRow B 117 2 v' (nb + 1) (ys ++ news) ∧ But B p w (w'.setCell ⟨p, 1, none⟩ v') := by
  have hpl := hrow.lt
  have hs := hb.size
  have r1 : w'.rowIs p 47 2 (fun j => if j = 0 then vC else vB) := hrow.of_block ((grown_old hoB hg (Or.inl hp) (by omega)).trans (hb.block p hpl))
  refine ⟨(r1.set 1 v').congr (fun j hj => ?_), ?_, own_move hown (fun k hk => set_other (by have := (hown.lt k hk).1; omega)), ?_⟩
  · have hj' : j = 0 ∨ j = 1 := by omega
    rcases hj' with rfl | rfl <;> rfl
  · refine own_move hoC (fun k hk => ?_)
    have hk1 := hoC.lt k hk
    rw [set_other (by omega), hg.block k (by omega) (fun e => own_apart hoB hoC (by decide) e.symm hk), hb.block k (by omega)]
  · refine ((But.of_below (hb.mono hB)).trans ?_).trans (But.set w' v')
    exact ⟨hg.os, hg.tape, hg.output, hg.size, fun k hk _ => grown_old hoB hg (Or.inl hk) (by omega)⟩
theorem blk_last (L0 : List (Nat × Nat)) (b : Nat × Nat) : (blkV (L0 ++ [b]))[2 * L0.length + 1]? = some (.int .i64 (b.2 : Nat)) := by
  have hlen : (blkV L0).length = 2 * L0.length := by
    induction L0 with
    | nil => rfl
    | cons c l ih => simp only [blkV, List.flatMap_cons, List.length_append, List.length_cons] at ih ⊢; rw [ih]; simp [blkL]; omega
  rw [show blkV (L0 ++ [b]) = blkV L0 ++ blkL b from by simp [blkV], List.getElem?_append_right (by omega), hlen]
  rw [show 2 * L0.length + 1 - 2 * L0.length = 1 from by omega]
  rfl

set_option maxHeartbeats 1000000 in
theorem add_code (B p : Nat) (C : List Sp.Ins) (L : List (Nat × Nat)) (o d x y n k m : Int) (w : World) (hP : ProgAt w B p C L) (hp : p < B) (hB : B ≤ w.heap.size) (hC : C.length ≤ 1100) (he : Sp.endB o = false) :
    Calls Tryz.prog 53 #[.pointer (some ⟨p, 0, none⟩), .agg #[.int .u8 o, .int .i64 d, .int .i64 x, .int .i64 y, .int .i64 n, .int .i64 k, .int .i64 m]] w fun e w' => e = .returned (.tuple #[]) ∧ ProgAt w' B p (C ++ [⟨o, d, x, y, n, k, m⟩]) L ∧ But B p w w' := by
  obtain ⟨vC, vB, hrow, hoC, hoB, hnil⟩ := hP
  have HNIL := hid hnil
  clear hnil
  have c0 : w.cell? ⟨p, 0, none⟩ = some vC := hrow.cell (i := 0) (by omega)
  have c1 : w.cell? ⟨p, 1, none⟩ = some vB := hrow.cell (i := 1) (by omega)
  have z0 := hrow.frozen 0
  have hpl := hrow.lt
  obtain ⟨ii, zz, hi1, hi2, hi3, hi4, hi5⟩ := info_ins
  have HI := hid (And.intro hi1 (And.intro hi2 (And.intro hi3 (And.intro hi4 hi5))))
  clear hi1 hi2 hi3 hi4 hi5
  have HC := hid hoC
  have HBk := hid hoB
  have HR := hid hrow
  have HG : Hid (∀ w', (((w.alloc (.cells #[.int .u8 o, .int .i64 d, .int .i64 x, .int .i64 y, .int .i64 n, .int .i64 k, .int .i64 m] 74)).alloc (.cells #[.int .u8 o, .int .i64 d, .int .i64 x, .int .i64 y, .int .i64 n, .int .i64 k, .int .i64 m] 74)).drew).grownBy w' vC.ownBlock → w'.rowIs p 47 2 (fun j => if j = 0 then vC else vB) ∧ w'.rowIs w.heap.size 74 7 (insF ⟨o, d, x, y, n, k, m⟩)) := by
    intro w' hg
    have hbn := below_new2 w (.cells #[.int .u8 o, .int .i64 d, .int .i64 x, .int .i64 y, .int .i64 n, .int .i64 k, .int .i64 m] 74) (.cells #[.int .u8 o, .int .i64 d, .int .i64 x, .int .i64 y, .int .i64 n, .int .i64 k, .int .i64 m] 74)
    have hsz : ((((w.alloc (.cells #[.int .u8 o, .int .i64 d, .int .i64 x, .int .i64 y, .int .i64 n, .int .i64 k, .int .i64 m] 74)).alloc (.cells #[.int .u8 o, .int .i64 d, .int .i64 x, .int .i64 y, .int .i64 n, .int .i64 k, .int .i64 m] 74)).drew)).heap.size = w.heap.size + 2 := by simp
    refine ⟨hrow.of_block ((grown_old hoC hg (Or.inl hp) (by rw [hsz]; omega)).trans (hbn.block p hpl)), (row_new1 w o d x y n k m _).of_block (grown_old hoC hg (Or.inr (Nat.le_refl _)) (by rw [hsz]; omega))⟩
  have hf := Joins.ownsRow_forms hoC
  clear hoC hoB hrow
  rcases hf with ⟨rfl, hn0⟩ | ⟨g, cap, rfl⟩
  · have HN0 := hid hn0
    clear hn0
    go_enter Tryz.func53, Tryz.ntmps53
    go_wp2_with fail
    go_region_law (refine step_append_own rfl (.tmp 16) (.tmp 18) 44 rfl B 74 ii zz 7 56 Tryz.underlying44 HI.out.1 HI.out.2.1 HI.out.2.2.1 HI.out.2.2.2.1 HI.out.2.2.2.2 (by decide) (.slice none 0 0) C.length (insV C) (by simp [Act.eval]) (by exact own_below HC.out (below_new2 _ _ _)) ⟨w.heap.size + 1, 0, none⟩ 1 1 (insL ⟨o, d, x, y, n, k, m⟩) (by simp [Act.eval]) rfl (by exact insL_at (row_new2 w o d x y n k m 74)) (insL_cells _) (by unfold maxLen; omega) (by omega) (by simp; omega) ?_; intro v' w' hown hgrow; obtain ⟨g', cap', hv⟩ := Joins.ownsRow_form hown (by omega); subst hv; obtain ⟨r1, r2⟩ := HG.out w' hgrow; have q0 := r1.cell (i := 0) (by omega); have q1 := r1.cell (i := 1) (by omega); have q2 := r1.frozen 0; obtain ⟨b0, b1, b2, b3, b4, b5, b6⟩ := row_cells r2)
    all_goals
      obtain ⟨f1, f2, f3, f4⟩ := add_fin HC.out HBk.out HR.out hp hB (below_new2 w _ _) hgrow hown
      have HF := hid (And.intro f1 (And.intro f2 (And.intro f3 f4)))
      clear f1 f2 f3 f4 hown hgrow r1 r2
      go_wp2_with fail
      refine (endsBlock_any _ _ _ _ _ _ _ _).mono ?_
      rintro e w2 ⟨rfl, hb2⟩
      rw [he]
      have HB2 := hid hb2
      clear hb2
      go_wp2_with fail
      refine bodyPost_ret (v := .tuple #[]) (by simp [results, Tryz.results53]) rfl ⟨rfl, ?_, ?_⟩
      · obtain ⟨f1, f2, f3, f4⟩ := HF.out
        refine ⟨_, _, f1.of_block (HB2.out.block _ f1.lt), ?_, own_below f3 HB2.out, HNIL.out⟩
        rw [List.length_append, show insV (C ++ [⟨o, d, x, y, n, k, m⟩]) = insV C ++ insL ⟨o, d, x, y, n, k, m⟩ from by simp [insV]]
        exact own_below f2 HB2.out
      · exact HF.out.2.2.2.trans (But.of_below (HB2.out.mono (Nat.le_trans hB HF.out.2.2.2.size)))
  · go_enter Tryz.func53, Tryz.ntmps53
    go_wp2_with fail
    go_region_law (refine step_append_own rfl (.tmp 16) (.tmp 18) 44 rfl B 74 ii zz 7 56 Tryz.underlying44 HI.out.1 HI.out.2.1 HI.out.2.2.1 HI.out.2.2.2.1 HI.out.2.2.2.2 (by decide) (.slice (some ⟨g, 0, none⟩) C.length cap) C.length (insV C) (by simp [Act.eval]) (by exact own_below HC.out (below_new2 _ _ _)) ⟨w.heap.size + 1, 0, none⟩ 1 1 (insL ⟨o, d, x, y, n, k, m⟩) (by simp [Act.eval]) rfl (by exact insL_at (row_new2 w o d x y n k m 74)) (insL_cells _) (by unfold maxLen; omega) (by omega) (by simp; omega) ?_; intro v' w' hown hgrow; obtain ⟨g', cap', hv⟩ := Joins.ownsRow_form hown (by omega); subst hv; obtain ⟨r1, r2⟩ := HG.out w' hgrow; have q0 := r1.cell (i := 0) (by omega); have q1 := r1.cell (i := 1) (by omega); have q2 := r1.frozen 0; obtain ⟨b0, b1, b2, b3, b4, b5, b6⟩ := row_cells r2)
    all_goals
      obtain ⟨f1, f2, f3, f4⟩ := add_fin HC.out HBk.out HR.out hp hB (below_new2 w _ _) hgrow hown
      have HF := hid (And.intro f1 (And.intro f2 (And.intro f3 f4)))
      clear f1 f2 f3 f4 hown hgrow r1 r2
      go_wp2_with fail
      refine (endsBlock_any _ _ _ _ _ _ _ _).mono ?_
      rintro e w2 ⟨rfl, hb2⟩
      rw [he]
      have HB2 := hid hb2
      clear hb2
      go_wp2_with fail
      refine bodyPost_ret (v := .tuple #[]) (by simp [results, Tryz.results53]) rfl ⟨rfl, ?_, ?_⟩
      · obtain ⟨f1, f2, f3, f4⟩ := HF.out
        refine ⟨_, _, f1.of_block (HB2.out.block _ f1.lt), ?_, own_below f3 HB2.out, HNIL.out⟩
        rw [List.length_append, show insV (C ++ [⟨o, d, x, y, n, k, m⟩]) = insV C ++ insL ⟨o, d, x, y, n, k, m⟩ from by simp [insV]]
        exact own_below f2 HB2.out
      · exact HF.out.2.2.2.trans (But.of_below (HB2.out.mono (Nat.le_trans hB HF.out.2.2.2.size)))
end Go.Proofs.YtccndnckceagfabGreatDoorR
