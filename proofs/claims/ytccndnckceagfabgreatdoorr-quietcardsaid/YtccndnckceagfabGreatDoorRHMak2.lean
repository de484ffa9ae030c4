/-
  The compiler's maker: what an instruction becomes.
-/
import Derived.Test.YtccndnckceagfabGreatDoorRHMak1
namespace Go.Proofs.YtccndnckceagfabGreatDoorR
open Go.RowKit

/-- a maker, and an instruction in a block of its own -/
structure Bx (B b : Nat) (H : Nat → Int) (k : Int) (D : List Sp.Ins) (v : Value) (ib : Nat) (i : Sp.Ins) (w : World) : Prop where
  mv : MkV w B b H k D v
  row : w.rowIs ib 74 7 (insF i)
  ne : ib ≠ b
  nv : v.ownBlock ≠ some ib
  lt : B ≤ w.heap.size
theorem Bx.drew {B b : Nat} {H : Nat → Int} {k : Int} {D : List Sp.Ins} {v : Value} {ib : Nat} {i : Sp.Ins} {w : World} (h : Bx B b H k D v ib i w) : Bx B b H k D v ib i w.drew :=
  ⟨⟨h.mv.1.of_block rfl, own_move h.mv.2 (fun _ _ => rfl)⟩, h.row.of_block rfl, h.ne, h.nv, h.lt⟩
theorem Bx.call {B b : Nat} {H : Nat → Int} {k : Int} {D D' : List Sp.Ins} {v : Value} {ib : Nat} {i : Sp.Ins} {w w' : World} (h : Bx B b H k D v ib i w) (hp : MkP B b H k D' v w w') : ∃ v', Bx B b H k D' v' ib i w' ∧ MF b v v' w w' := by
  obtain ⟨v', h1, h2⟩ := hp
  refine ⟨v', ⟨h1, h.row.of_block (h2.block ib h.row.lt h.ne h.nv), h.ne, fun e => ?_, Nat.le_trans h.lt h2.size⟩, h2⟩
  rcases h2.own ib e with e | e
  · exact h.nv e
  · have := h.row.lt
    omega
theorem MF.drew {b : Nat} {v : Value} {w : World} : MF b v v w w.drew := ⟨rfl, rfl, rfl, Nat.le_refl _, fun _ _ _ _ => rfl, fun _ h => Or.inl h⟩
theorem MF.setNew {b ib off : Nat} {v v' : Value} {w w' : World} (h : MF b v v' w w') (hib : w.heap.size ≤ ib) (u : Value) : MF b v v' w (w'.setCell ⟨ib, off, none⟩ u) :=
  ⟨h.os, h.tape, h.output, by rw [show (w'.setCell ⟨ib, off, none⟩ u).heap.size = w'.heap.size by simp [World.setCell]]; exact h.size, fun q hq hb hu => by rw [set_other (by omega), h.block q hq hb hu], h.own⟩
theorem Bx.set {B b : Nat} {H : Nat → Int} {k : Int} {D : List Sp.Ins} {v : Value} {ib : Nat} {i : Sp.Ins} {w : World} (h : Bx B b H k D v ib i w) (off : Nat) (u : Value) (i' : Sp.Ins) (hi : ∀ j, j < 7 → (if j = off then u else insF i j) = insF i' j) : Bx B b H k D v ib i' (w.setCell ⟨ib, off, none⟩ u) :=
  ⟨⟨h.mv.1.of_block (set_other (fun e => h.ne e.symm)), own_move h.mv.2 (fun q hq => set_other (fun e => h.nv (by rw [← e]; exact hq)))⟩, (h.row.set off u).congr hi, h.ne, h.nv, by simpa [World.setCell] using h.lt⟩
theorem bx_new {B b : Nat} {H : Nat → Int} {k : Int} {D : List Sp.Ins} {v : Value} {w : World} (h : MkV w B b H k D v) (hB : B ≤ w.heap.size) (o d x y n kk m : Int) : Bx B b H k D v w.heap.size ⟨o, d, x, y, n, kk, m⟩ (w.alloc (.cells #[.int .u8 o, .int .i64 d, .int .i64 x, .int .i64 y, .int .i64 n, .int .i64 kk, .int .i64 m] 74)) := by
  have hA : Below w.heap.size w (w.alloc (.cells #[.int .u8 o, .int .i64 d, .int .i64 x, .int .i64 y, .int .i64 n, .int .i64 kk, .int .i64 m] 74)) := (Below.refl _ _).alloc (Nat.le_refl _) _
  refine ⟨h.below hA, row_new w o d x y n kk m _, fun e => ?_, fun e => ?_, Nat.le_trans hB hA.size⟩
  · have := h.1.lt; omega
  · have := (h.2.lt _ e).2; omega

theorem Bx.drewN {B b : Nat} {H : Nat → Int} {k : Int} {D : List Sp.Ins} {v : Value} {ib : Nat} {i : Sp.Ins} {w : World} (h : Bx B b H k D v ib i w) (n : Nat) : Bx B b H k D v ib i (w.drewN n) :=
  ⟨⟨h.mv.1.of_block rfl, own_move h.mv.2 (fun _ _ => rfl)⟩, h.row.of_block rfl, h.ne, h.nv, h.lt⟩
theorem MF.drewN {b n : Nat} {v : Value} {w : World} : MF b v v w (w.drewN n) := ⟨rfl, rfl, rfl, Nat.le_refl _, fun _ _ _ _ => rfl, fun _ h => Or.inl h⟩
theorem seven {P : Nat → Prop} (h0 : P 0) (h1 : P 1) (h2 : P 2) (h3 : P 3) (h4 : P 4) (h5 : P 5) (h6 : P 6) : ∀ j, j < 7 → P j := by
  intro j hj
  have hj' : j = 0 ∨ j = 1 ∨ j = 2 ∨ j = 3 ∨ j = 4 ∨ j = 5 ∨ j = 6 := by omega
  rcases hj' with rfl | rfl | rfl | rfl | rfl | rfl | rfl <;> assumption
theorem Bx.setX {B b : Nat} {H : Nat → Int} {k : Int} {D : List Sp.Ins} {v : Value} {ib : Nat} {o d x y n kk m : Int} {w : World} (h : Bx B b H k D v ib ⟨o, d, x, y, n, kk, m⟩ w) (u : Int) : Bx B b H k D v ib ⟨o, d, u, y, n, kk, m⟩ (w.setCell ⟨ib, 2, none⟩ (.int .i64 u)) :=
  h.set 2 _ _ (seven rfl rfl rfl rfl rfl rfl rfl)
theorem Bx.setY {B b : Nat} {H : Nat → Int} {k : Int} {D : List Sp.Ins} {v : Value} {ib : Nat} {o d x y n kk m : Int} {w : World} (h : Bx B b H k D v ib ⟨o, d, x, y, n, kk, m⟩ w) (u : Int) : Bx B b H k D v ib ⟨o, d, x, u, n, kk, m⟩ (w.setCell ⟨ib, 3, none⟩ (.int .i64 u)) :=
  h.set 3 _ _ (seven rfl rfl rfl rfl rfl rfl rfl)
theorem Bx.setD {B b : Nat} {H : Nat → Int} {k : Int} {D : List Sp.Ins} {v : Value} {ib : Nat} {o d x y n kk m : Int} {w : World} (h : Bx B b H k D v ib ⟨o, d, x, y, n, kk, m⟩ w) (u : Int) : Bx B b H k D v ib ⟨o, u, x, y, n, kk, m⟩ (w.setCell ⟨ib, 1, none⟩ (.int .i64 u)) :=
  h.set 1 _ _ (seven rfl rfl rfl rfl rfl rfl rfl)
/-- behind an append: the box too is as it was -/
theorem bx_fin {w W2 w' : World} {B b ib : Nat} {H : Nat → Int} {k : Int} {v v' : Value} {D : List Sp.Ins} {i j : Sp.Ins} (h : Bx B b H k D v ib j w) (hb : b < B)
    (hbl : Below w.heap.size w W2) (hg : W2.grownBy w' v.ownBlock) (hfr : ∀ q, v'.ownBlock = some q → v.ownBlock = some q ∨ W2.heap.size ≤ q) (hown : w'.ownsRow B 74 7 v' (D.length + 1) (insV D ++ insL i)) :
    Bx B b H k (D ++ [i]) v' ib j (w'.setCell ⟨b, 55, none⟩ v') ∧ MF b v v' w (w'.setCell ⟨b, 55, none⟩ v') := by
  obtain ⟨f1, f2⟩ := mk_fin h.mv.1 h.mv.2 hb hbl hg hfr hown
  refine ⟨⟨f1, h.row.of_block (f2.block ib h.row.lt h.ne h.nv), h.ne, fun e => ?_, Nat.le_trans h.lt f2.size⟩, f2⟩
  rcases f2.own ib e with e | e
  · exact h.nv e
  · have := h.row.lt
    omega

set_option maxRecDepth 20000 in
set_option maxHeartbeats 4000000 in
theorem mkWork_any (B b : Nat) (H : Nat → Int) (k : Int) (D : List Sp.Ins) (v : Value) (o d x y n kk m : Int) (w : World) (hM : MkV w B b H k D v) (hb : b < B) (hB : B ≤ w.heap.size) (hD : D.length ≤ 1900) :
    Calls Tryz.prog 49 #[.pointer (some ⟨b, 0, none⟩), .agg #[.int .u8 o, .int .i64 d, .int .i64 x, .int .i64 y, .int .i64 n, .int .i64 kk, .int .i64 m]] w fun e w' => e = .returned (.tuple #[]) ∧ MkP B b H k (D ++ Sp.wrkL (Sp.HX H) k ⟨o, d, x, y, n, kk, m⟩) v w w' := by
  obtain ⟨ii, zz, hi1, hi2, hi3, hi4, hi5⟩ := info_ins
  have HI := hid (And.intro hi1 (And.intro hi2 (And.intro hi3 (And.intro hi4 hi5))))
  clear hi1 hi2 hi3 hi4 hi5
  have HB0 := hid (bx_new hM hB o d x y n kk m)
  have HF0 := hid (show MF b v v w (w.alloc (.cells #[.int .u8 o, .int .i64 d, .int .i64 x, .int .i64 y, .int .i64 n, .int .i64 kk, .int .i64 m] 74)) from MF.of_below ((Below.refl _ _).alloc (Nat.le_refl _) _))
  clear hM
  have hl1 := ftL_len (Sp.HX H) x (k - 2)
  have hl2 := ftL_len (Sp.HX H) y (k - 1)
  have HE := hid (show Sp.wrkL (Sp.HX H) k ⟨o, d, x, y, n, kk, m⟩ = Sp.ftL (Sp.HX H) x (k - 2) ++ Sp.ftL (Sp.HX H) y (k - 1) ++ ⟨o, Sp.rch k (Sp.HX H d), Sp.ftP (Sp.HX H) x (k - 2), Sp.ftP (Sp.HX H) y (k - 1), n, kk, m⟩ :: Sp.mvL (Sp.HX H d) (Sp.rch k (Sp.HX H d)) from rfl)
  have HFX := hid (fun (W : World) hM hB hD => mkFetch_any B b H k D v x (k - 2) W hM hb hB hD)
  have HFY := hid (fun (D' : List Sp.Ins) (v' : Value) (W : World) hM hB hD => mkFetch_any B b H k D' v' y (k - 1) W hM hb hB hD)
  have HPL := hid (fun (W : World) hW => place_any' b H d W hW)
  have HRC := hid (fun (v' : Value) (W : World) hW => mkReach_any b H k v' (Sp.HX H d) W hW)
  generalize Sp.ftP (Sp.HX H) x (k - 2) = X1 at *
  generalize Sp.ftL (Sp.HX H) x (k - 2) = L1 at *
  generalize Sp.ftP (Sp.HX H) y (k - 1) = Y1 at *
  generalize Sp.ftL (Sp.HX H) y (k - 1) = L2 at *
  generalize Sp.HX H d = P1 at *
  generalize Sp.rch k P1 = R1 at *
  go_enter Tryz.func49, Tryz.ntmps49
  go_upto_region 1 with fail
  obtain ⟨ib, hib⟩ : ∃ ib, w.heap.size = ib := ⟨_, rfl⟩
  have hibw : w.heap.size ≤ ib := by omega
  rw [hib] at HB0
  try rw [hib]
  generalize w.alloc (.cells #[.int .u8 o, .int .i64 d, .int .i64 x, .int .i64 y, .int .i64 n, .int .i64 kk, .int .i64 m] 74) = w0 at *
  clear hib
  obtain ⟨a0, a1, a2, a3, a4, a5, a6⟩ := row_cells HB0.out.row
  have c53 := HB0.out.mv.1.one
  go_region_with (go_at_call 71; refine (HFX.out w0.drew HB0.out.drew.mv HB0.out.lt (by omega)).mono ?_; rintro e w1 ⟨rfl, hp1⟩; obtain ⟨v1, hb1, hf1⟩ := HB0.out.drew.call hp1; have HB1 := hid hb1; have HF1 := hid (MF.drew.trans hf1); have z1 := hb1.row.frozen 2; obtain ⟨d0, d1, d2, d3, d4, d5, d6⟩ := row_cells hb1.row; clear hp1 hb1 hf1)
  all_goals
    have HB2 := hid (HB1.out.setX X1)
    have HF2 := hid ((HF0.out.trans HF1.out).setNew (off := 2) hibw (.int .i64 X1))
    generalize w1.setCell ⟨ib, 2, none⟩ (.int .i64 X1) = w2 at *
    clear HB0 HF0 HB1 HF1 a0 a1 a2 a3 a4 a5 a6 c53 z1 d0 d1 d2 d3 d4 d5 d6
    obtain ⟨a0, a1, a2, a3, a4, a5, a6⟩ := row_cells HB2.out.row
    have c54 := HB2.out.mv.1.two
    go_upto_region 2 with fail
    go_region_with (go_at_call 71; refine (HFY.out (D ++ L1) v1 w2.drew HB2.out.drew.mv HB2.out.lt (by rw [List.length_append]; omega)).mono ?_; rintro e w3 ⟨rfl, hp3⟩; obtain ⟨v3, hb3, hf3⟩ := HB2.out.drew.call hp3; have HB3 := hid hb3; have HF3 := hid (MF.drew.trans hf3); have z3 := hb3.row.frozen 3; obtain ⟨d0, d1, d2, d3, d4, d5, d6⟩ := row_cells hb3.row; clear hp3 hb3 hf3)
    all_goals
      have HB4 := hid (HB3.out.setY Y1)
      have HF4 := hid ((HF2.out.trans HF3.out).setNew (off := 3) hibw (.int .i64 Y1))
      generalize w3.setCell ⟨ib, 3, none⟩ (.int .i64 Y1) = w4 at *
      clear HB2 HF2 HB3 HF3 a0 a1 a2 a3 a4 a5 a6 c54 z3 d0 d1 d2 d3 d4 d5 d6
      obtain ⟨a0, a1, a2, a3, a4, a5, a6⟩ := row_cells HB4.out.row
      have z4 := HB4.out.row.frozen 1
      go_upto_region 3 with fail
      go_quiet ((go_at_call 44; exact Calls.quiet_of_same ((HPL.out _ (by exact HB4.out.mv.1.c)).mono (fun _ _ hh => ⟨hh.1, hh.2.symm⟩))))
      go_upto_region 5 with (go_at_call 70; refine (HRC.out v3 _ (by exact HB4.out.mv.1)).mono ?_; rintro e wq ⟨rfl, rfl⟩)
      have HB5 := hid ((HB4.out.drewN nq).setD R1)
      have HF5 := hid ((HF4.out.trans (MF.drewN (n := nq))).setNew (off := 1) hibw (.int .i64 R1))
      generalize (w4.drewN nq).setCell ⟨ib, 1, none⟩ (.int .i64 R1) = w5 at *
      clear HB4 HF4 a0 a1 a2 a3 a4 a5 a6 z4
      have hDl : (D ++ L1 ++ L2).length ≤ 1910 := by rw [List.length_append, List.length_append]; omega
      have HE2 := hid (show D ++ (L1 ++ L2 ++ ⟨o, R1, X1, Y1, n, kk, m⟩ :: Sp.mvL P1 R1) = (D ++ L1 ++ L2) ++ [⟨o, R1, X1, Y1, n, kk, m⟩] ++ Sp.mvL P1 R1 by simp)
      generalize D ++ L1 ++ L2 = D2 at *
      have HR5 := hid HB5.out.mv.1
      have HO5 := hid HB5.out.mv.2
      have HI5 := hid HB5.out.row
      have hs5 := HB5.out.lt
      have hpl := World.rowIs.lt HR5.out
      have c55 := HR5.out.v
      have z55 := World.rowIs.frozen HR5.out 55
      obtain ⟨e0, e1, e2, e3, e4, e5, e6⟩ := row_cells HI5.out
      have HG := hid (show ∀ w', ((w5.alloc (.cells #[.int .u8 o, .int .i64 R1, .int .i64 X1, .int .i64 Y1, .int .i64 n, .int .i64 kk, .int .i64 m] 74)).drew).grownBy w' v3.ownBlock → MkR w' b H k v3 from fun w' hg => HR5.out.of_block ((grown_old HO5.out hg (Or.inl hb) (by simp; omega)).trans ((((Below.refl w5.heap.size w5).alloc (Nat.le_refl _) _).drew).block b hpl)))
      go_region_law (refine step_append_own2 rfl (.tmp 37) (.tmp 39) 44 rfl B 74 ii zz 7 56 Tryz.underlying44 HI.out.1 HI.out.2.1 HI.out.2.2.1 HI.out.2.2.2.1 HI.out.2.2.2.2 (by decide) v3 D2.length (insV D2) (by simp [Act.eval]) (by exact own_below HO5.out (((Below.refl _ _).alloc (Nat.le_refl _) _).drew)) ⟨w5.heap.size, 0, none⟩ 1 1 (insL ⟨o, R1, X1, Y1, n, kk, m⟩) (by simp [Act.eval]) rfl (by exact insL_at (row_last w5 o R1 X1 Y1 n kk m 74)) (insL_cells _) (by unfold maxLen; omega) (by omega) (by simp; omega) ?_; intro v' w' hown hgrow hfr; obtain ⟨g', cap', hv⟩ := Joins.ownsRow_form hown (by omega); subst hv; have r1 := HG.out w' hgrow; have q0 := r1.v; have q2 := World.rowIs.frozen r1 55)
      all_goals
        obtain ⟨f1, f2⟩ := bx_fin HB5.out hb (((Below.refl w5.heap.size w5).alloc (Nat.le_refl _) _).drew) hgrow hfr hown
        have HB6 := hid f1
        have HF6 := hid (HF5.out.trans f2)
        clear f1 f2 hown hgrow hfr r1 e0 e1 e2 e3 e4 e5 e6 c55 z55 q0 q2 HB5 HF5 HR5 HO5 HI5 HG
        generalize w'.setCell ⟨b, 55, none⟩ (.slice (some ⟨g', 0, none⟩) (D2.length + 1) cap') = w6 at *
        obtain ⟨a0, a1, a2, a3, a4, a5, a6⟩ := row_cells HB6.out.row
        go_wp2_with (go_at_call 46; refine (mkMove_any B b H k (D2 ++ [⟨o, R1, X1, Y1, n, kk, m⟩]) _ P1 R1 w6 HB6.out.mv hb HB6.out.lt (by rw [List.length_append, List.length_singleton]; omega)).mono ?_; rintro e w7 ⟨rfl, v7, hm7, hf7⟩; have HM7 := hid hm7; have HF7 := hid hf7; clear hm7 hf7)
        go_end0
        refine ⟨rfl, v7, ?_, HF6.out.trans HF7.out⟩
        rw [HE.out, HE2.out]
        exact HM7.out
end Go.Proofs.YtccndnckceagfabGreatDoorR
