/-
  The compiler's maker: what lies in its block, and its small functions.
-/
import Derived.Test.YtccndnckceagfabGreatDoorRG12
import Derived.Deep.DeepAppendRoom
namespace Go.Proofs.YtccndnckceagfabGreatDoorR
open Go.RowKit

/-- an append to an owned row: its block is the same, or a new one -/
theorem step_append_own2 {P : Program} {ops : Array Oper} {o : Oper} {a : Act} {w : World} {K : Act → World → Prop} {Q : Exit → Act → World → Prop} {E : Prop}
    (hg : o.guard = none) (s x : Operand) (t : TypeId) (hop : o.op = Op.call { callee := Callee.builtin Builtin.append, args := #[s, x], argTypes := #[t, t] })
    (base : Nat) (e : TypeId) (i : TypeInfo) (z : Value) (size bytes : Nat) (h1 : P.underlying t = some (.slice e)) (h2 : P.info? e = some i) (h3 : i.zero = some z) (h4 : i.size = size) (h5 : i.bytes = bytes) (h6 : z.cells.size = size) (h7 : 0 < size)
    (v : Value) (n : Nat) (xs : List Value) (hs : a.eval s = v) (hown : w.ownsRow base e size v n xs)
    (ad : Addr) (m c : Nat) (news : List Value) (hx : a.eval x = .slice (some ad) m c) (hn : news.length = m * size) (hc : ∀ j u, news[j]? = some u → w.cell? (ad.add j) = some u) (h1c : ∀ u ∈ news, u.oneCell' = true)
    (b1 : n + m ≤ maxLen) (b2 : (n + m) * bytes ≤ 140737488355328) (hbase : base ≤ w.heap.size)
    (hK : ∀ v' w', w'.ownsRow base e size v' (n + m) (xs ++ news) → w.grownBy w' v.ownBlock → (∀ q, v'.ownBlock = some q → v.ownBlock = some q ∨ w.heap.size ≤ q) → K (a.put o.dst v') w') :
    if Region.wanted o (yielded ops a.tmps) = true then Oper.wp P o a w K Q else E := by
  have hw : Region.wanted o (yielded ops a.tmps) = true := by simp [Region.wanted, hg]
  rw [if_pos hw]
  obtain ⟨v', w', hr, r2, r3, _⟩ := run_append_own (P := P) w base t o.type e i z size bytes h1 h2 h3 h4 h5 h6 h7 v n xs hown ad m c news hn hc h1c b1 b2 hbase
  have hfr : ∀ q, v'.ownBlock = some q → v.ownBlock = some q ∨ w.heap.size ≤ q := by
    intro q hq
    rcases Joins.ownsRow_forms hown with ⟨hv, hn0⟩ | ⟨g, cap, hv⟩
    · subst hn0
      have hxs : xs = [] := List.eq_nil_of_length_eq_zero (by rw [hown.1]; simp)
      subst hxs
      have hnil : w.ownsRow w.heap.size e size v 0 [] := by rw [hv]; exact World.ownsRow_nil _ _ _ _
      obtain ⟨v2, w2, hr2, r22, _, _⟩ := run_append_own (P := P) w w.heap.size t o.type e i z size bytes h1 h2 h3 h4 h5 h6 h7 v 0 [] hnil ad m c news hn hc h1c b1 b2 (Nat.le_refl _)
      rw [hr] at hr2
      injection hr2 with e1 e2
      subst e1
      exact Or.inr (r22.lt q hq).1
    · subst hv
      by_cases hroom : n + m ≤ cap
      · obtain ⟨w2, hr2, _, _⟩ := run_append_own_spare (P := P) w base t o.type e i size h1 h2 h4 g n cap xs hown ad m c news hn hc h1c hroom
        rw [hr] at hr2
        injection hr2 with e1 e2
        subst e1
        exact Or.inl hq
      · have hsmall : n + m ≤ 9223372036854775807 := by simp only [maxLen] at b1; omega
        have hr2 := run_append_grow (P := P) w t o.type e i z h1 h2 h3 ⟨g, 0, none⟩ n cap xs (by rw [h4]; exact hown.1) (hown.cells (g := g) rfl) ad m c news (by rw [h4]; exact hn) hc (by omega) (by omega) (by rw [h5]; exact growslice_fits (by omega) b2)
        rw [hr] at hr2
        injection hr2 with e1 e2
        subst e1
        have : w.heap.size = q := Option.some.inj hq
        exact Or.inr (by omega)
  unfold Oper.wp execOp
  simp only [hop, resolve, invoke, builtin, Sem.run_bind, Sem.run_pure, Result.andThen_ok, List.map_toArray, List.map_cons, List.map_nil, hs, hx, hr]
  exact hK v' w' r2 r3 hfr

/-- a maker: homes, how many registers, the two spare ones, what was made -/
def mkF (H : Nat → Int) (k : Int) (v : Value) (j : Nat) : Value := if j < 52 then .int .i64 (H j) else if j = 52 then .int .i64 k else if j = 53 then .int .i64 (k - 2) else if j = 54 then .int .i64 (k - 1) else v
def MkR (w : World) (b : Nat) (H : Nat → Int) (k : Int) (v : Value) : Prop := w.rowIs b 70 56 (mkF H k v)
/-- a maker at block b, its row of instructions from B on -/
def MkV (w : World) (B b : Nat) (H : Nat → Int) (k : Int) (D : List Sp.Ins) (v : Value) : Prop := MkR w b H k v ∧ w.ownsRow B 74 7 v D.length (insV D)
/-- nothing but the maker, its row, and what is new has turned -/
structure MF (b : Nat) (v v' : Value) (w w' : World) : Prop where
  os : w'.os = w.os
  tape : w'.tape = w.tape
  output : w'.output = w.output
  size : w.heap.size ≤ w'.heap.size
  block : ∀ q, q < w.heap.size → q ≠ b → v.ownBlock ≠ some q → w'.heap[q]? = w.heap[q]?
  own : ∀ q, v'.ownBlock = some q → v.ownBlock = some q ∨ w.heap.size ≤ q
def MkP (B b : Nat) (H : Nat → Int) (k : Int) (D : List Sp.Ins) (v : Value) (w w' : World) : Prop := ∃ v', MkV w' B b H k D v' ∧ MF b v v' w w'
theorem MF.refl (b : Nat) (v : Value) (w : World) : MF b v v w w := ⟨rfl, rfl, rfl, Nat.le_refl _, fun _ _ _ _ => rfl, fun _ h => Or.inl h⟩
theorem MF.of_below {b : Nat} {v : Value} {w w' : World} (h : Below w.heap.size w w') : MF b v v w w' := ⟨h.os, h.tape, h.output, h.size, fun q hq _ _ => h.block q hq, fun _ h => Or.inl h⟩
theorem MF.trans {b : Nat} {u v x : Value} {w w1 w2 : World} (h : MF b u v w w1) (k : MF b v x w1 w2) : MF b u x w w2 := by
  refine ⟨k.os.trans h.os, k.tape.trans h.tape, k.output.trans h.output, Nat.le_trans h.size k.size, fun q hq hb hu => ?_, fun q hx => ?_⟩
  · rw [k.block q (Nat.lt_of_lt_of_le hq h.size) hb (fun e => ?_), h.block q hq hb hu]
    rcases h.own q e with e | e
    · exact hu e
    · omega
  · rcases k.own q hx with e | e
    · exact h.own q e
    · exact Or.inr (Nat.le_trans h.size e)
theorem MF.set {b off : Nat} {v : Value} (w : World) (u : Value) : MF b v v w (w.setCell ⟨b, off, none⟩ u) := ⟨rfl, rfl, rfl, by simp [World.setCell], fun q _ hq _ => Below.heap_setCell w ⟨b, off, none⟩ u q hq, fun _ h => Or.inl h⟩
theorem MkR.of_block {w w' : World} {b : Nat} {H : Nat → Int} {k : Int} {v : Value} (h : MkR w b H k v) (e : w'.heap[b]? = w.heap[b]?) : MkR w' b H k v := World.rowIs.of_block h e
theorem MkR.v {w : World} {b : Nat} {H : Nat → Int} {k : Int} {v : Value} (h : MkR w b H k v) : w.cell? ⟨b, 55, none⟩ = some v := World.rowIs.cell h (show 55 < 56 by omega)
theorem MkR.lt {w : World} {b : Nat} {H : Nat → Int} {k : Int} {v : Value} (h : MkR w b H k v) : b < w.heap.size := World.rowIs.lt h
theorem MkR.setV {w : World} {b : Nat} {H : Nat → Int} {k : Int} {v : Value} (h : MkR w b H k v) (u : Value) : MkR (w.setCell ⟨b, 55, none⟩ u) b H k u :=
  World.rowIs.congr (World.rowIs.set h 55 u) (fun x hx => by
    unfold mkF
    by_cases e : x = 55
    · rw [if_pos e, if_neg (by omega), if_neg (by omega), if_neg (by omega), if_neg (by omega)]
    · rw [if_neg e]
      repeat' split
      all_goals first | rfl | omega)
theorem MkR.c {w : World} {b : Nat} {H : Nat → Int} {k : Int} {v : Value} (h : MkR w b H k v) : HmC w b H := fun r hr => by
  have := World.rowIs.cell h (show r < 56 by omega)
  rw [this]
  unfold mkF
  rw [if_pos hr]
theorem MkR.k {w : World} {b : Nat} {H : Nat → Int} {k : Int} {v : Value} (h : MkR w b H k v) : w.cell? ⟨b, 52, none⟩ = some (.int .i64 k) := World.rowIs.cell h (show 52 < 56 by omega)
theorem MkR.one {w : World} {b : Nat} {H : Nat → Int} {k : Int} {v : Value} (h : MkR w b H k v) : w.cell? ⟨b, 53, none⟩ = some (.int .i64 (k - 2)) := World.rowIs.cell h (show 53 < 56 by omega)
theorem MkR.two {w : World} {b : Nat} {H : Nat → Int} {k : Int} {v : Value} (h : MkR w b H k v) : w.cell? ⟨b, 54, none⟩ = some (.int .i64 (k - 1)) := World.rowIs.cell h (show 54 < 56 by omega)
theorem MkV.below {w w' : World} {B b : Nat} {H : Nat → Int} {k : Int} {D : List Sp.Ins} {v : Value} (h : MkV w B b H k D v) (hbl : Below w.heap.size w w') : MkV w' B b H k D v :=
  ⟨h.1.of_block (hbl.block b h.1.lt), own_below h.2 hbl⟩
theorem MkP.nil {B b : Nat} {H : Nat → Int} {k : Int} {D : List Sp.Ins} {v : Value} {w : World} (h : MkV w B b H k D v) : MkP B b H k (D ++ []) v w w := ⟨v, by rw [List.append_nil]; exact h, MF.refl _ _ _⟩
theorem mk_fin {w W2 w' : World} {B b : Nat} {H : Nat → Int} {k : Int} {v v' : Value} {D : List Sp.Ins} {i : Sp.Ins} (hr : MkR w b H k v) (ho : w.ownsRow B 74 7 v D.length (insV D)) (hb : b < B)
    (hbl : Below w.heap.size w W2) (hg : W2.grownBy w' v.ownBlock) (hfr : ∀ q, v'.ownBlock = some q → v.ownBlock = some q ∨ W2.heap.size ≤ q) (hown : w'.ownsRow B 74 7 v' (D.length + 1) (insV D ++ insL i)) :
    MkV (w'.setCell ⟨b, 55, none⟩ v') B b H k (D ++ [i]) v' ∧ MF b v v' w (w'.setCell ⟨b, 55, none⟩ v') := by
  have hpl := World.rowIs.lt hr
  have hs := hbl.size
  have r1 : MkR w' b H k v := hr.of_block ((grown_old ho hg (Or.inl hb) (by omega)).trans (hbl.block b hpl))
  refine ⟨⟨r1.setV v', ?_⟩, ?_⟩
  · rw [List.length_append, List.length_singleton, show insV (D ++ [i]) = insV D ++ insL i from by simp [insV]]
    exact own_move hown (fun q hq => set_other (by have := (hown.lt q hq).1; omega))
  · refine MF.trans (v := v') ⟨hg.os.trans hbl.os, hg.tape.trans hbl.tape, hg.output.trans hbl.output, Nat.le_trans hs hg.size, fun q hq _ hu => ?_, fun q hq => ?_⟩ (MF.set w' v')
    · rw [hg.block q (by omega) (fun e => hu e.symm), hbl.block q hq]
    · rcases hfr q hq with e | e
      · exact Or.inl e
      · exact Or.inr (by omega)
theorem row_last (w : World) (o d x y n k m : Int) (t : Nat) : ((w.alloc (.cells #[.int .u8 o, .int .i64 d, .int .i64 x, .int .i64 y, .int .i64 n, .int .i64 k, .int .i64 m] t)).drew).rowIs w.heap.size t 7 (insF ⟨o, d, x, y, n, k, m⟩) := (row_new w o d x y n k m t).of_block rfl

set_option maxRecDepth 20000 in
set_option maxHeartbeats 2000000 in
theorem mkMove_any (B b : Nat) (H : Nat → Int) (k : Int) (D : List Sp.Ins) (v : Value) (to frm : Int) (w : World) (hM : MkV w B b H k D v) (hb : b < B) (hB : B ≤ w.heap.size) (hD : D.length ≤ 2000) :
    Calls Tryz.prog 46 #[.pointer (some ⟨b, 0, none⟩), .int .i64 to, .int .i64 frm] w fun e w' => e = .returned (.tuple #[]) ∧ MkP B b H k (D ++ Sp.mvL to frm) v w w' := by
  by_cases he : to = frm
  · subst he
    have HM := hid hM
    clear hM
    go_enter Tryz.func46, Tryz.ntmps46
    go_wp2_with fail
    refine bodyPost_ret (v := .tuple #[]) (by simp [results, Tryz.results46]) rfl ⟨rfl, ?_⟩
    rw [show Sp.mvL to to = [] from if_pos rfl]
    exact MkP.nil HM.out
  have t0 : (to == frm) = false := by simp [he]
  obtain ⟨hr, ho⟩ := hM
  have HR := hid hr
  have HO := hid ho
  clear hr ho
  obtain ⟨ii, zz, hi1, hi2, hi3, hi4, hi5⟩ := info_ins
  have HI := hid (And.intro hi1 (And.intro hi2 (And.intro hi3 (And.intro hi4 hi5))))
  clear hi1 hi2 hi3 hi4 hi5
  by_cases h1 : 10 ≤ to
  · have t1 : decide (10 ≤ to) = true := by simp [h1]
    have HE := hid (show Sp.mvL to frm = [⟨62, to, frm, -1, 0, -1, -1⟩] by unfold Sp.mvL; rw [if_neg he, if_pos h1])
    clear he h1
    go_enter Tryz.func46, Tryz.ntmps46
    go_upto_region 8 with (first | (go_at_call 69; refine (bare_any _ _).mono ?_; rintro e w1 ⟨rfl, rfl⟩) | (go_at_call_of 67 to; refine (isSlot_any to _).mono ?_; rw [t1]; rintro e w2 ⟨rfl, rfl⟩))
    have hA1 : Below w.heap.size w ((w.alloc (.cells #[.int .u8 61, .int .i64 (-1), .int .i64 (-1), .int .i64 (-1), .int .i64 0, .int .i64 (-1), .int .i64 (-1)] 74)).alloc (.cells #[.int .u8 62, .int .i64 to, .int .i64 frm, .int .i64 (-1), .int .i64 0, .int .i64 (-1), .int .i64 (-1)] 74)) := ((Below.refl _ _).alloc (Nat.le_refl _) _).alloc (by simp) _
    have HI5 := hid (show ((w.alloc (.cells #[.int .u8 61, .int .i64 (-1), .int .i64 (-1), .int .i64 (-1), .int .i64 0, .int .i64 (-1), .int .i64 (-1)] 74)).alloc (.cells #[.int .u8 62, .int .i64 to, .int .i64 frm, .int .i64 (-1), .int .i64 0, .int .i64 (-1), .int .i64 (-1)] 74)).rowIs (w.heap.size + 1) 74 7 (insF ⟨62, to, frm, -1, 0, -1, -1⟩) from by
      have := row_new (w.alloc (.cells #[.int .u8 61, .int .i64 (-1), .int .i64 (-1), .int .i64 (-1), .int .i64 0, .int .i64 (-1), .int .i64 (-1)] 74)) 62 to frm (-1) 0 (-1) (-1) 74
      rw [show (w.alloc (.cells #[.int .u8 61, .int .i64 (-1), .int .i64 (-1), .int .i64 (-1), .int .i64 0, .int .i64 (-1), .int .i64 (-1)] 74)).heap.size = w.heap.size + 1 by simp] at this
      exact this)
    have HR5 := hid (HR.out.of_block (hA1.block b HR.out.lt))
    have HO5 := hid (own_below HO.out hA1)
    have HB5 := hid hA1
    have hs5 := hA1.size
    generalize ((w.alloc (.cells #[.int .u8 61, .int .i64 (-1), .int .i64 (-1), .int .i64 (-1), .int .i64 0, .int .i64 (-1), .int .i64 (-1)] 74)).alloc (.cells #[.int .u8 62, .int .i64 to, .int .i64 frm, .int .i64 (-1), .int .i64 0, .int .i64 (-1), .int .i64 (-1)] 74)) = w5 at *
    obtain ⟨ib, hib⟩ : ∃ ib, w.heap.size + 1 = ib := ⟨_, rfl⟩
    rw [hib] at HI5
    try rw [hib]
    clear hA1 HR HO
    have hpl := World.rowIs.lt HR5.out
    have c55 := HR5.out.v
    have z55 := World.rowIs.frozen HR5.out 55
    obtain ⟨e0, e1, e2, e3, e4, e5, e6⟩ := row_cells HI5.out
    have HG := hid (show ∀ w', ((w5.alloc (.cells #[.int .u8 62, .int .i64 to, .int .i64 frm, .int .i64 (-1), .int .i64 0, .int .i64 (-1), .int .i64 (-1)] 74)).drew).grownBy w' v.ownBlock → MkR w' b H k v from fun w' hg => HR5.out.of_block ((grown_old HO5.out hg (Or.inl hb) (by simp; omega)).trans ((((Below.refl w5.heap.size w5).alloc (Nat.le_refl _) _).drew).block b hpl)))
    go_region_law (refine step_append_own2 rfl (.tmp 25) (.tmp 27) 44 rfl B 74 ii zz 7 56 Tryz.underlying44 HI.out.1 HI.out.2.1 HI.out.2.2.1 HI.out.2.2.2.1 HI.out.2.2.2.2 (by decide) v D.length (insV D) (by simp [Act.eval]) (by exact own_below HO5.out (((Below.refl _ _).alloc (Nat.le_refl _) _).drew)) ⟨w5.heap.size, 0, none⟩ 1 1 (insL ⟨62, to, frm, (-1), 0, (-1), (-1)⟩) (by simp [Act.eval]) rfl (by exact insL_at (row_last w5 62 to frm (-1) 0 (-1) (-1) 74)) (insL_cells _) (by unfold maxLen; omega) (by omega) (by simp; omega) ?_; intro v' w' hown hgrow hfr; obtain ⟨g', cap', hv⟩ := Joins.ownsRow_form hown (by omega); subst hv; have r1 := HG.out w' hgrow; have q0 := r1.v; have q2 := World.rowIs.frozen r1 55)
    all_goals
      obtain ⟨f1, f2⟩ := mk_fin (D := D) HR5.out HO5.out hb (((Below.refl w5.heap.size w5).alloc (Nat.le_refl _) _).drew) hgrow hfr hown
      have HF := hid (And.intro f1 f2)
      clear f1 f2 hown hgrow hfr r1
      go_wp2_with fail
      go_end0
      refine ⟨rfl, _, ?_, (MF.of_below HB5.out).trans HF.out.2⟩
      rw [HE.out]
      exact HF.out.1
  by_cases h2 : 10 ≤ frm
  · have t1 : decide (10 ≤ to) = false := by simp; omega
    have t2 : decide (10 ≤ frm) = true := by simp [h2]
    have HE := hid (show Sp.mvL to frm = [⟨60, to, frm, -1, 0, -1, -1⟩] by unfold Sp.mvL; rw [if_neg he, if_neg h1, if_pos h2])
    clear he h1 h2
    go_enter Tryz.func46, Tryz.ntmps46
    go_upto_region 8 with (first | (go_at_call 69; refine (bare_any _ _).mono ?_; rintro e w1 ⟨rfl, rfl⟩) | (go_at_call_of 67 to; refine (isSlot_any to _).mono ?_; rw [t1]; rintro e w2 ⟨rfl, rfl⟩) | (go_at_call_of 67 frm; refine (isSlot_any frm _).mono ?_; rw [t2]; rintro e w2 ⟨rfl, rfl⟩))
    have hA1 : Below w.heap.size w ((w.alloc (.cells #[.int .u8 61, .int .i64 (-1), .int .i64 (-1), .int .i64 (-1), .int .i64 0, .int .i64 (-1), .int .i64 (-1)] 74)).alloc (.cells #[.int .u8 60, .int .i64 to, .int .i64 frm, .int .i64 (-1), .int .i64 0, .int .i64 (-1), .int .i64 (-1)] 74)) := ((Below.refl _ _).alloc (Nat.le_refl _) _).alloc (by simp) _
    have HI5 := hid (show ((w.alloc (.cells #[.int .u8 61, .int .i64 (-1), .int .i64 (-1), .int .i64 (-1), .int .i64 0, .int .i64 (-1), .int .i64 (-1)] 74)).alloc (.cells #[.int .u8 60, .int .i64 to, .int .i64 frm, .int .i64 (-1), .int .i64 0, .int .i64 (-1), .int .i64 (-1)] 74)).rowIs (w.heap.size + 1) 74 7 (insF ⟨60, to, frm, -1, 0, -1, -1⟩) from by
      have := row_new (w.alloc (.cells #[.int .u8 61, .int .i64 (-1), .int .i64 (-1), .int .i64 (-1), .int .i64 0, .int .i64 (-1), .int .i64 (-1)] 74)) 60 to frm (-1) 0 (-1) (-1) 74
      rw [show (w.alloc (.cells #[.int .u8 61, .int .i64 (-1), .int .i64 (-1), .int .i64 (-1), .int .i64 0, .int .i64 (-1), .int .i64 (-1)] 74)).heap.size = w.heap.size + 1 by simp] at this
      exact this)
    have HR5 := hid (HR.out.of_block (hA1.block b HR.out.lt))
    have HO5 := hid (own_below HO.out hA1)
    have HB5 := hid hA1
    have hs5 := hA1.size
    generalize ((w.alloc (.cells #[.int .u8 61, .int .i64 (-1), .int .i64 (-1), .int .i64 (-1), .int .i64 0, .int .i64 (-1), .int .i64 (-1)] 74)).alloc (.cells #[.int .u8 60, .int .i64 to, .int .i64 frm, .int .i64 (-1), .int .i64 0, .int .i64 (-1), .int .i64 (-1)] 74)) = w5 at *
    obtain ⟨ib, hib⟩ : ∃ ib, w.heap.size + 1 = ib := ⟨_, rfl⟩
    rw [hib] at HI5
    try rw [hib]
    clear hA1 HR HO
    have hpl := World.rowIs.lt HR5.out
    have c55 := HR5.out.v
    have z55 := World.rowIs.frozen HR5.out 55
    obtain ⟨e0, e1, e2, e3, e4, e5, e6⟩ := row_cells HI5.out
    have HG := hid (show ∀ w', ((w5.alloc (.cells #[.int .u8 60, .int .i64 to, .int .i64 frm, .int .i64 (-1), .int .i64 0, .int .i64 (-1), .int .i64 (-1)] 74)).drew).grownBy w' v.ownBlock → MkR w' b H k v from fun w' hg => HR5.out.of_block ((grown_old HO5.out hg (Or.inl hb) (by simp; omega)).trans ((((Below.refl w5.heap.size w5).alloc (Nat.le_refl _) _).drew).block b hpl)))
    go_region_law (refine step_append_own2 rfl (.tmp 25) (.tmp 27) 44 rfl B 74 ii zz 7 56 Tryz.underlying44 HI.out.1 HI.out.2.1 HI.out.2.2.1 HI.out.2.2.2.1 HI.out.2.2.2.2 (by decide) v D.length (insV D) (by simp [Act.eval]) (by exact own_below HO5.out (((Below.refl _ _).alloc (Nat.le_refl _) _).drew)) ⟨w5.heap.size, 0, none⟩ 1 1 (insL ⟨60, to, frm, (-1), 0, (-1), (-1)⟩) (by simp [Act.eval]) rfl (by exact insL_at (row_last w5 60 to frm (-1) 0 (-1) (-1) 74)) (insL_cells _) (by unfold maxLen; omega) (by omega) (by simp; omega) ?_; intro v' w' hown hgrow hfr; obtain ⟨g', cap', hv⟩ := Joins.ownsRow_form hown (by omega); subst hv; have r1 := HG.out w' hgrow; have q0 := r1.v; have q2 := World.rowIs.frozen r1 55)
    all_goals
      obtain ⟨f1, f2⟩ := mk_fin (D := D) HR5.out HO5.out hb (((Below.refl w5.heap.size w5).alloc (Nat.le_refl _) _).drew) hgrow hfr hown
      have HF := hid (And.intro f1 f2)
      clear f1 f2 hown hgrow hfr r1
      go_wp2_with fail
      go_end0
      refine ⟨rfl, _, ?_, (MF.of_below HB5.out).trans HF.out.2⟩
      rw [HE.out]
      exact HF.out.1
  · have t1 : decide (10 ≤ to) = false := by simp; omega
    have t2 : decide (10 ≤ frm) = false := by simp; omega
    have HE := hid (show Sp.mvL to frm = [⟨61, to, frm, -1, 0, -1, -1⟩] by unfold Sp.mvL; rw [if_neg he, if_neg h1, if_neg h2])
    clear he h1 h2
    go_enter Tryz.func46, Tryz.ntmps46
    go_upto_region 8 with (first | (go_at_call 69; refine (bare_any _ _).mono ?_; rintro e w1 ⟨rfl, rfl⟩) | (go_at_call_of 67 to; refine (isSlot_any to _).mono ?_; rw [t1]; rintro e w2 ⟨rfl, rfl⟩) | (go_at_call_of 67 frm; refine (isSlot_any frm _).mono ?_; rw [t2]; rintro e w2 ⟨rfl, rfl⟩))
    have hA1 : Below w.heap.size w ((w.alloc (.cells #[.int .u8 61, .int .i64 (-1), .int .i64 (-1), .int .i64 (-1), .int .i64 0, .int .i64 (-1), .int .i64 (-1)] 74)).alloc (.cells #[.int .u8 61, .int .i64 to, .int .i64 frm, .int .i64 (-1), .int .i64 0, .int .i64 (-1), .int .i64 (-1)] 74)) := ((Below.refl _ _).alloc (Nat.le_refl _) _).alloc (by simp) _
    have HI5 := hid (show ((w.alloc (.cells #[.int .u8 61, .int .i64 (-1), .int .i64 (-1), .int .i64 (-1), .int .i64 0, .int .i64 (-1), .int .i64 (-1)] 74)).alloc (.cells #[.int .u8 61, .int .i64 to, .int .i64 frm, .int .i64 (-1), .int .i64 0, .int .i64 (-1), .int .i64 (-1)] 74)).rowIs (w.heap.size + 1) 74 7 (insF ⟨61, to, frm, -1, 0, -1, -1⟩) from by
      have := row_new (w.alloc (.cells #[.int .u8 61, .int .i64 (-1), .int .i64 (-1), .int .i64 (-1), .int .i64 0, .int .i64 (-1), .int .i64 (-1)] 74)) 61 to frm (-1) 0 (-1) (-1) 74
      rw [show (w.alloc (.cells #[.int .u8 61, .int .i64 (-1), .int .i64 (-1), .int .i64 (-1), .int .i64 0, .int .i64 (-1), .int .i64 (-1)] 74)).heap.size = w.heap.size + 1 by simp] at this
      exact this)
    have HR5 := hid (HR.out.of_block (hA1.block b HR.out.lt))
    have HO5 := hid (own_below HO.out hA1)
    have HB5 := hid hA1
    have hs5 := hA1.size
    generalize ((w.alloc (.cells #[.int .u8 61, .int .i64 (-1), .int .i64 (-1), .int .i64 (-1), .int .i64 0, .int .i64 (-1), .int .i64 (-1)] 74)).alloc (.cells #[.int .u8 61, .int .i64 to, .int .i64 frm, .int .i64 (-1), .int .i64 0, .int .i64 (-1), .int .i64 (-1)] 74)) = w5 at *
    obtain ⟨ib, hib⟩ : ∃ ib, w.heap.size + 1 = ib := ⟨_, rfl⟩
    rw [hib] at HI5
    try rw [hib]
    clear hA1 HR HO
    have hpl := World.rowIs.lt HR5.out
    have c55 := HR5.out.v
    have z55 := World.rowIs.frozen HR5.out 55
    obtain ⟨e0, e1, e2, e3, e4, e5, e6⟩ := row_cells HI5.out
    have HG := hid (show ∀ w', ((w5.alloc (.cells #[.int .u8 61, .int .i64 to, .int .i64 frm, .int .i64 (-1), .int .i64 0, .int .i64 (-1), .int .i64 (-1)] 74)).drew).grownBy w' v.ownBlock → MkR w' b H k v from fun w' hg => HR5.out.of_block ((grown_old HO5.out hg (Or.inl hb) (by simp; omega)).trans ((((Below.refl w5.heap.size w5).alloc (Nat.le_refl _) _).drew).block b hpl)))
    go_region_law (refine step_append_own2 rfl (.tmp 25) (.tmp 27) 44 rfl B 74 ii zz 7 56 Tryz.underlying44 HI.out.1 HI.out.2.1 HI.out.2.2.1 HI.out.2.2.2.1 HI.out.2.2.2.2 (by decide) v D.length (insV D) (by simp [Act.eval]) (by exact own_below HO5.out (((Below.refl _ _).alloc (Nat.le_refl _) _).drew)) ⟨w5.heap.size, 0, none⟩ 1 1 (insL ⟨61, to, frm, (-1), 0, (-1), (-1)⟩) (by simp [Act.eval]) rfl (by exact insL_at (row_last w5 61 to frm (-1) 0 (-1) (-1) 74)) (insL_cells _) (by unfold maxLen; omega) (by omega) (by simp; omega) ?_; intro v' w' hown hgrow hfr; obtain ⟨g', cap', hv⟩ := Joins.ownsRow_form hown (by omega); subst hv; have r1 := HG.out w' hgrow; have q0 := r1.v; have q2 := World.rowIs.frozen r1 55)
    all_goals
      obtain ⟨f1, f2⟩ := mk_fin (D := D) HR5.out HO5.out hb (((Below.refl w5.heap.size w5).alloc (Nat.le_refl _) _).drew) hgrow hfr hown
      have HF := hid (And.intro f1 f2)
      clear f1 f2 hown hgrow hfr r1
      go_wp2_with fail
      go_end0
      refine ⟨rfl, _, ?_, (MF.of_below HB5.out).trans HF.out.2⟩
      rw [HE.out]
      exact HF.out.1

set_option maxRecDepth 20000 in
set_option maxHeartbeats 2000000 in
theorem mkClear_any (B b : Nat) (H : Nat → Int) (k : Int) (D : List Sp.Ins) (v : Value) (p : Int) (w : World) (hM : MkV w B b H k D v) (hb : b < B) (hB : B ≤ w.heap.size) (hD : D.length ≤ 2000) :
    Calls Tryz.prog 72 #[.pointer (some ⟨b, 0, none⟩), .int .i64 p] w fun e w' => e = .returned (.tuple #[]) ∧ MkP B b H k (D ++ [Sp.clrI p]) v w w' := by
  obtain ⟨hr, ho⟩ := hM
  have HR := hid hr
  have HO := hid ho
  clear hr ho
  obtain ⟨ii, zz, hi1, hi2, hi3, hi4, hi5⟩ := info_ins
  have HI := hid (And.intro hi1 (And.intro hi2 (And.intro hi3 (And.intro hi4 hi5))))
  clear hi1 hi2 hi3 hi4 hi5
  go_enter Tryz.func72, Tryz.ntmps72
  go_upto_region 2 with (go_at_call 69; refine (bare_any _ _).mono ?_; rintro e w1 ⟨rfl, rfl⟩)
  have hA1 : Below w.heap.size w ((w.alloc (.cells #[.int .u8 126, .int .i64 (-1), .int .i64 (-1), .int .i64 (-1), .int .i64 0, .int .i64 (-1), .int .i64 (-1)] 74)).alloc (.cells #[.int .u8 126, .int .i64 p, .int .i64 (-1), .int .i64 (-1), .int .i64 0, .int .i64 (-1), .int .i64 (-1)] 74)) := ((Below.refl _ _).alloc (Nat.le_refl _) _).alloc (by simp) _
  have HI5 := hid (show ((w.alloc (.cells #[.int .u8 126, .int .i64 (-1), .int .i64 (-1), .int .i64 (-1), .int .i64 0, .int .i64 (-1), .int .i64 (-1)] 74)).alloc (.cells #[.int .u8 126, .int .i64 p, .int .i64 (-1), .int .i64 (-1), .int .i64 0, .int .i64 (-1), .int .i64 (-1)] 74)).rowIs (w.heap.size + 1) 74 7 (insF ⟨126, p, (-1), -1, 0, -1, -1⟩) from by
    have := row_new (w.alloc (.cells #[.int .u8 126, .int .i64 (-1), .int .i64 (-1), .int .i64 (-1), .int .i64 0, .int .i64 (-1), .int .i64 (-1)] 74)) 126 p (-1) (-1) 0 (-1) (-1) 74
    rw [show (w.alloc (.cells #[.int .u8 126, .int .i64 (-1), .int .i64 (-1), .int .i64 (-1), .int .i64 0, .int .i64 (-1), .int .i64 (-1)] 74)).heap.size = w.heap.size + 1 by simp] at this
    exact this)
  have HR5 := hid (HR.out.of_block (hA1.block b HR.out.lt))
  have HO5 := hid (own_below HO.out hA1)
  have HB5 := hid hA1
  have hs5 := hA1.size
  generalize ((w.alloc (.cells #[.int .u8 126, .int .i64 (-1), .int .i64 (-1), .int .i64 (-1), .int .i64 0, .int .i64 (-1), .int .i64 (-1)] 74)).alloc (.cells #[.int .u8 126, .int .i64 p, .int .i64 (-1), .int .i64 (-1), .int .i64 0, .int .i64 (-1), .int .i64 (-1)] 74)) = w5 at *
  obtain ⟨ib, hib⟩ : ∃ ib, w.heap.size + 1 = ib := ⟨_, rfl⟩
  rw [hib] at HI5
  try rw [hib]
  clear hA1 HR HO
  have hpl := World.rowIs.lt HR5.out
  have c55 := HR5.out.v
  have z55 := World.rowIs.frozen HR5.out 55
  obtain ⟨e0, e1, e2, e3, e4, e5, e6⟩ := row_cells HI5.out
  have HG := hid (show ∀ w', ((w5.alloc (.cells #[.int .u8 126, .int .i64 p, .int .i64 (-1), .int .i64 (-1), .int .i64 0, .int .i64 (-1), .int .i64 (-1)] 74)).drew).grownBy w' v.ownBlock → MkR w' b H k v from fun w' hg => HR5.out.of_block ((grown_old HO5.out hg (Or.inl hb) (by simp; omega)).trans ((((Below.refl w5.heap.size w5).alloc (Nat.le_refl _) _).drew).block b hpl)))
  go_region_law (refine step_append_own2 rfl (.tmp 12) (.tmp 14) 44 rfl B 74 ii zz 7 56 Tryz.underlying44 HI.out.1 HI.out.2.1 HI.out.2.2.1 HI.out.2.2.2.1 HI.out.2.2.2.2 (by decide) v D.length (insV D) (by simp [Act.eval]) (by exact own_below HO5.out (((Below.refl _ _).alloc (Nat.le_refl _) _).drew)) ⟨w5.heap.size, 0, none⟩ 1 1 (insL ⟨126, p, (-1), (-1), 0, (-1), (-1)⟩) (by simp [Act.eval]) rfl (by exact insL_at (row_last w5 126 p (-1) (-1) 0 (-1) (-1) 74)) (insL_cells _) (by unfold maxLen; omega) (by omega) (by simp; omega) ?_; intro v' w' hown hgrow hfr; obtain ⟨g', cap', hv⟩ := Joins.ownsRow_form hown (by omega); subst hv; have r1 := HG.out w' hgrow; have q0 := r1.v; have q2 := World.rowIs.frozen r1 55)
  all_goals
    obtain ⟨f1, f2⟩ := mk_fin (D := D) HR5.out HO5.out hb (((Below.refl w5.heap.size w5).alloc (Nat.le_refl _) _).drew) hgrow hfr hown
    have HF := hid (And.intro f1 f2)
    clear f1 f2 hown hgrow hfr r1
    go_wp2_with fail
    go_end0
    exact ⟨rfl, _, HF.out.1, (MF.of_below HB5.out).trans HF.out.2⟩

set_option maxHeartbeats 1000000 in
theorem mkReach_any (b : Nat) (H : Nat → Int) (k : Int) (v : Value) (p : Int) (w : World) (hM : MkR w b H k v) :
    Calls Tryz.prog 70 #[.pointer (some ⟨b, 0, none⟩), .int .i64 p] w fun e w' => e = .returned (.int .i64 (Sp.rch k p)) ∧ w = w' := by
  have c54 := hM.two
  clear hM
  by_cases h : 10 ≤ p
  · have t1 : decide (10 ≤ p) = true := by simp [h]
    have HE := hid (show Sp.rch k p = k - 1 by unfold Sp.rch; rw [if_pos h])
    clear h
    go_enter Tryz.func70, Tryz.ntmps70
    go_wp2_with (go_at_call 67; refine (isSlot_any p _).mono ?_; rw [t1]; rintro e w2 ⟨rfl, rfl⟩)
    go_ret
    exact ⟨by rw [HE.out]; rfl, rfl⟩
  · have t1 : decide (10 ≤ p) = false := by simp; omega
    have HE := hid (show Sp.rch k p = p by unfold Sp.rch; rw [if_neg h])
    clear h
    go_enter Tryz.func70, Tryz.ntmps70
    go_wp2_with (go_at_call 67; refine (isSlot_any p _).mono ?_; rw [t1]; rintro e w2 ⟨rfl, rfl⟩)
    go_ret
    exact ⟨by rw [HE.out]; rfl, rfl⟩

set_option maxHeartbeats 1000000 in
theorem mkFetch_any (B b : Nat) (H : Nat → Int) (k : Int) (D : List Sp.Ins) (v : Value) (r other : Int) (w : World) (hM : MkV w B b H k D v) (hb : b < B) (hB : B ≤ w.heap.size) (hD : D.length ≤ 2000) :
    Calls Tryz.prog 71 #[.pointer (some ⟨b, 0, none⟩), .int .i64 r, .int .i64 other] w fun e w' => e = .returned (.int .i64 (Sp.ftP (Sp.HX H) r other)) ∧ MkP B b H k (D ++ Sp.ftL (Sp.HX H) r other) v w w' := by
  have HM := hid hM
  have HPL := hid (place_any' b H r w hM.1.c)
  clear hM
  by_cases h : 10 ≤ Sp.HX H r
  · have t1 : decide (10 ≤ Sp.HX H r) = true := by simp [h]
    have HE := hid (show Sp.ftP (Sp.HX H) r other = other by unfold Sp.ftP; rw [if_pos h])
    have HE2 := hid (show Sp.ftL (Sp.HX H) r other = Sp.mvL other (Sp.HX H r) by unfold Sp.ftL; rw [if_pos h])
    clear h
    generalize Sp.HX H r = p at *
    go_enter Tryz.func71, Tryz.ntmps71
    go_wp2_with (first | (go_at_call 44; refine HPL.out.mono ?_; rintro e w1 ⟨rfl, rfl⟩) | (go_at_call 67; refine (isSlot_any p _).mono ?_; rw [t1]; rintro e w2 ⟨rfl, rfl⟩) | (go_at_call 46; refine (mkMove_any B b H k D v other p _ HM.out hb hB hD).mono ?_; rintro e w3 ⟨rfl, hm3⟩; have HM3 := hid hm3; clear hm3))
    go_ret
    exact ⟨by rw [HE.out]; rfl, by rw [HE2.out]; exact HM3.out⟩
  · have t1 : decide (10 ≤ Sp.HX H r) = false := by simp; omega
    have HE := hid (show Sp.ftP (Sp.HX H) r other = Sp.HX H r by unfold Sp.ftP; rw [if_neg h])
    have HE2 := hid (show Sp.ftL (Sp.HX H) r other = [] by unfold Sp.ftL; rw [if_neg h])
    clear h
    generalize Sp.HX H r = p at *
    go_enter Tryz.func71, Tryz.ntmps71
    go_wp2_with (first | (go_at_call 44; refine HPL.out.mono ?_; rintro e w1 ⟨rfl, rfl⟩) | (go_at_call 67; refine (isSlot_any p _).mono ?_; rw [t1]; rintro e w2 ⟨rfl, rfl⟩))
    go_ret
    exact ⟨by rw [HE.out]; rfl, by rw [HE2.out]; exact MkP.nil HM.out⟩

theorem ftL_len (H : Int → Int) (r o : Int) : (Sp.ftL H r o).length ≤ 1 := by
  unfold Sp.ftL Sp.mvL
  repeat' split
  all_goals simp
theorem mvL_len (a b : Int) : (Sp.mvL a b).length ≤ 1 := by
  unfold Sp.mvL
  repeat' split
  all_goals simp
theorem brgL_len (H : Int → Int) (k p r : Int) : (Sp.brgL H k p r).length ≤ 2 := by
  unfold Sp.brgL
  split
  · simp
  · rw [List.length_append]
    have := ftL_len H r (Sp.rch k p)
    have := mvL_len p (Sp.ftP H r (Sp.rch k p))
    omega

set_option maxHeartbeats 1000000 in
theorem mkBring_any (B b : Nat) (H : Nat → Int) (k : Int) (D : List Sp.Ins) (v : Value) (p r : Int) (w : World) (hM : MkV w B b H k D v) (hb : b < B) (hB : B ≤ w.heap.size) (hD : D.length ≤ 1990) :
    Calls Tryz.prog 47 #[.pointer (some ⟨b, 0, none⟩), .int .i64 p, .int .i64 r] w fun e w' => e = .returned (.tuple #[]) ∧ MkP B b H k (D ++ Sp.brgL (Sp.HX H) k p r) v w w' := by
  have HM := hid hM
  have HPL := hid (place_any' b H r w hM.1.c)
  have HRC := hid (mkReach_any b H k v p w hM.1)
  clear hM
  by_cases h : Sp.HX H r = p
  · have t1 : (Sp.HX H r == p) = true := by simp [h]
    have HE := hid (show Sp.brgL (Sp.HX H) k p r = [] by unfold Sp.brgL; rw [if_pos h])
    clear h
    generalize Sp.HX H r = q at *
    go_enter Tryz.func47, Tryz.ntmps47
    go_wp2_with (first | (go_at_call 44; refine HPL.out.mono ?_; rintro e w1 ⟨rfl, rfl⟩))
    refine bodyPost_ret (v := .tuple #[]) (by simp [results, Tryz.results47]) rfl ⟨rfl, ?_⟩
    rw [HE.out]
    exact MkP.nil HM.out
  · have t1 : (Sp.HX H r == p) = false := by simp [h]
    have HE := hid (show Sp.brgL (Sp.HX H) k p r = Sp.ftL (Sp.HX H) r (Sp.rch k p) ++ Sp.mvL p (Sp.ftP (Sp.HX H) r (Sp.rch k p)) by unfold Sp.brgL; rw [if_neg h])
    have HF := hid (mkFetch_any B b H k D v r (Sp.rch k p) w HM.out hb hB (by omega))
    have hl := ftL_len (Sp.HX H) r (Sp.rch k p)
    clear h
    generalize Sp.HX H r = q at *
    generalize Sp.rch k p = u at *
    generalize Sp.ftP (Sp.HX H) r u = z at *
    generalize Sp.ftL (Sp.HX H) r u = X at *
    go_enter Tryz.func47, Tryz.ntmps47
    go_wp2_with (first | (go_at_call 44; refine HPL.out.mono ?_; rintro e w1 ⟨rfl, rfl⟩) | (go_at_call 70; refine HRC.out.mono ?_; rintro e w2 ⟨rfl, rfl⟩) | (go_at_call 71; refine HF.out.mono ?_; rintro e w3 ⟨rfl, v3, hm3, hb3⟩; have HM3 := hid hm3; have HB3 := hid hb3; clear hm3 hb3) | (go_at_call 46; refine (mkMove_any B b H k (D ++ X) v3 p z w3 HM3.out hb (Nat.le_trans hB HB3.out.size) (by rw [List.length_append]; omega)).mono ?_; rintro e w4 ⟨rfl, v4, hm4, hb4⟩; have HM4 := hid hm4; have HB4 := hid hb4; clear hm4 hb4))
    go_end0
    refine ⟨rfl, v4, ?_, HB3.out.trans HB4.out⟩
    rw [HE.out, ← List.append_assoc]
    exact HM4.out
end Go.Proofs.YtccndnckceagfabGreatDoorR
