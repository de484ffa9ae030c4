/-
  A block of a machine program beside the block of a source program: the program's play.
-/
import Derived.Test.YtccndnckceagfabDoorHAcc3
import Derived.Deep.RegionHeld3
import Derived.BigQuiet
namespace Go.Proofs.YtccndnckceagfabDoor
open Go.RowKit

/-- what play leaves -/
def PlayPost (b : Nat) (r : Option (Nat → Nat)) (w : World) (e : Ending) (w' : World) : Prop :=
  e = .returned (.bool r.isSome) ∧ (∀ F, r = some F → PrAt w' b F) ∧ But w.heap.size b w w'
theorem playPost_no {b : Nat} {r : Option (Nat → Nat)} {w w' : World} {e : Ending} (h : r = none) (he : e = .returned (.bool false)) (hb : But w.heap.size b w w') : PlayPost b r w e w' :=
  ⟨by rw [h]; exact he, fun F h' => by rw [h] at h'; simp at h', hb⟩

theorem prog_but {w wx : World} {B b p : Nat} {E : Nat → Nat} {C : List Sp.Ins} {L : List (Nat × Nat)} {f : Nat → Value} {vC vL : Value} (hS : PrAt w b E) (h1 : w.rowIs p 41 2 f) (h2 : w.ownsRow B 90 7 vC C.length (insV C)) (h3 : w.ownsRow B 109 2 vL L.length (blkV L)) (g : But w.heap.size b w wx) :
    wx.rowIs p 41 2 f ∧ wx.ownsRow B 90 7 vC C.length (insV C) ∧ wx.ownsRow B 109 2 vL L.length (blkV L) := by
  obtain ⟨c, hc, _⟩ := hS.row
  refine ⟨h1.of_block (g.block _ h1.lt ?_), own_move h2 (fun k hk => g.block k (h2.lt k hk).2 ?_), own_move h3 (fun k hk => g.block k (h3.lt k hk).2 ?_)⟩
  · rintro rfl
    obtain ⟨c', h5, _⟩ := h1
    rw [hc] at h5
    simp only [Option.some.injEq, Obj.cells.injEq] at h5
    exact absurd h5.2.1 (by decide)
  · rintro rfl
    obtain ⟨c', h5⟩ := own_block h2 hk
    rw [hc] at h5
    simp only [Option.some.injEq, Obj.cells.injEq] at h5
    exact absurd h5.2.1 (by decide)
  · rintro rfl
    obtain ⟨c', h5⟩ := own_block h3 hk
    rw [hc] at h5
    simp only [Option.some.injEq, Obj.cells.injEq] at h5
    exact absurd h5.2.1 (by decide)

/-- the cells of instruction j of a row at g -/
def InsCells (w : World) (g j : Nat) (i : Sp.Ins) : Prop :=
  w.cell? ⟨g, j * 7, none⟩ = some (.int .u8 i.o) ∧ w.cell? ⟨g, j * 7 + 1, none⟩ = some (.int .i64 i.d) ∧ w.cell? ⟨g, j * 7 + 2, none⟩ = some (.int .i64 i.x) ∧ w.cell? ⟨g, j * 7 + 3, none⟩ = some (.int .i64 i.y) ∧ w.cell? ⟨g, j * 7 + 4, none⟩ = some (.int .i64 i.n) ∧ w.cell? ⟨g, j * 7 + 5, none⟩ = some (.int .i64 i.k) ∧ w.cell? ⟨g, j * 7 + 6, none⟩ = some (.int .i64 i.m)

set_option maxRecDepth 20000 in
set_option maxHeartbeats 1500000 in
theorem play_any (b Bs ps Bt pt bi : Nat) (C : List Sp.Ins) (L : List (Nat × Nat)) (D : List Sp.Ins) (M : List (Nat × Nat)) (E : Nat → Nat) (w : World) (h : PrAt w b E) (hS : ProgAt w Bs ps C L) (hT : ProgAt w Bt pt D M)
    (hC0 : 0 < C.length) (hC : C.length ≤ 1100) (hD0 : 0 < D.length) (hD : D.length ≤ 1100) (hL : bi < L.length) (hM : bi < M.length) (hL1 : L[bi].1 ≤ C.length) (hL2 : L[bi].2 ≤ C.length) (hM1 : M[bi].1 ≤ D.length) :
    Calls Tryd.prog 51 #[.pointer (some ⟨b, 0, none⟩), .pointer (some ⟨ps, 0, none⟩), .pointer (some ⟨pt, 0, none⟩), .int .i64 (bi : Nat)] w fun e w' => PlayPost b (Sp.playB C L D M E bi) w e w' := by
  have HPB := hid (show Sp.playB C L D M E bi = Sp.plyEnd L[bi].2 (Sp.playP C D M[bi].2 D.length E L[bi].1 M[bi].1) by unfold Sp.playB; rw [dif_pos ⟨hL, hM⟩])
  have hL0 : 0 < L.length := by omega
  have hM0 : 0 < M.length := by omega
  have HP := hid h
  have HS := hid hS
  have HT := hid hT
  obtain ⟨vC, vL, s1, s2, s3, _⟩ := hS
  obtain ⟨vD, vM, t1, t2, t3, _⟩ := hT
  obtain ⟨gC, kC, rfl⟩ := Joins.ownsRow_form s2 hC0
  obtain ⟨gL, kL, rfl⟩ := Joins.ownsRow_form s3 hL0
  obtain ⟨gD, kD, rfl⟩ := Joins.ownsRow_form t2 hD0
  obtain ⟨gM, kM, rfl⟩ := Joins.ownsRow_form t3 hM0
  /- what lies in the programs, in any later world -/
  have HSS := hid (show ∀ wx : World, But w.heap.size b w wx → wx.cell? ⟨ps, 0, none⟩ = some (.slice (some ⟨gC, 0, none⟩) C.length kC) ∧ wx.cell? ⟨ps, 1, none⟩ = some (.slice (some ⟨gL, 0, none⟩) L.length kL) ∧ wx.cell? ⟨gL, bi * 2, none⟩ = some (.int .i64 (L[bi].1 : Nat)) ∧ wx.cell? ⟨gL, bi * 2 + 1, none⟩ = some (.int .i64 (L[bi].2 : Nat)) ∧ (∀ j (hj : j < C.length), InsCells wx gC j C[j]) from fun wx hb => by
    obtain ⟨a1, a2, a3⟩ := prog_but h s1 s2 s3 hb
    obtain ⟨d1, d2⟩ := blk_cells a3 bi hL
    exact ⟨a1.cell (i := 0) (by omega), a1.cell (i := 1) (by omega), d1, d2, fun j hj => ins_cells a2 j hj⟩)
  have HTT := hid (show ∀ wx : World, But w.heap.size b w wx → wx.cell? ⟨pt, 0, none⟩ = some (.slice (some ⟨gD, 0, none⟩) D.length kD) ∧ wx.cell? ⟨pt, 1, none⟩ = some (.slice (some ⟨gM, 0, none⟩) M.length kM) ∧ wx.cell? ⟨gM, bi * 2, none⟩ = some (.int .i64 (M[bi].1 : Nat)) ∧ wx.cell? ⟨gM, bi * 2 + 1, none⟩ = some (.int .i64 (M[bi].2 : Nat)) ∧ (∀ j (hj : j < D.length), InsCells wx gD j D[j]) from fun wx hb => by
    obtain ⟨a1, a2, a3⟩ := prog_but h t1 t2 t3 hb
    obtain ⟨d1, d2⟩ := blk_cells a3 bi hM
    exact ⟨a1.cell (i := 0) (by omega), a1.cell (i := 1) (by omega), d1, d2, fun j hj => ins_cells a2 j hj⟩)
  have hbl := h.lt
  clear s1 s2 s3 t1 t2 t3 h
  obtain ⟨x1, x2, x3, x4, _⟩ := HSS.out w (But.refl _ _ _)
  obtain ⟨y1, y2, y3, y4, _⟩ := HTT.out w (But.refl _ _ _)
  generalize hl1 : L[bi].1 = l1 at *
  generalize hl2 : L[bi].2 = l2 at *
  generalize hm1 : M[bi].1 = m1 at *
  generalize hm2 : M[bi].2 = m2 at *
  clear hl1 hl2 hm1 hm2
  have tb1 : decide ((bi : Int) < 0) = false := by simp
  have tb2 : decide (L.length ≤ bi) = false := by simp; omega
  have tb3 : decide (M.length ≤ bi) = false := by simp; omega
  go_enter Tryd.func51, Tryd.ntmps51
  go_wp2_with fail
  clear x1 x2 x3 x4 y1 y2 y3 y4
  go_loopw [9, 10, 11, 8] (fun nv av iv rv wr => ∃ (q a f : Nat) (F : Nat → Nat), nv = .int .i64 (q : Nat) ∧ av = .int .i64 (a : Nat) ∧ rv = .bool false ∧ q ≤ C.length ∧ a ≤ D.length ∧ D.length ≤ f + a ∧ PrAt wr b F ∧ But w.heap.size b w wr ∧ Sp.playP C D m2 f F q a = Sp.playP C D m2 D.length E l1 m1) (fun _ av _ _ _ => D.length - (intOf av).toNat)
  case atStart => exact ⟨l1, m1, D.length, E, rfl, rfl, rfl, hL1, hM1, by omega, HP.out, But.refl _ _ _, rfl⟩
  case round =>
    obtain ⟨q, a, f, F, rfl, rfl, rfl, hq, ha, hf, hF, hB, hE⟩ := hrel
    have HF := hid hF
    have HB := hid hB
    have HE := hid hE
    obtain ⟨x1, x2, x3, x4, x5⟩ := HSS.out wr hB
    obtain ⟨y1, y2, y3, y4, y5⟩ := HTT.out wr hB
    have HX5 := hid x5
    have HY5 := hid y5
    have hwr := hB.size
    clear hF hB hE x5 y5
    by_cases hin : a ≤ m2 ∧ a < D.length
    · obtain ⟨hin1, hin2⟩ := hin
      obtain ⟨f', rfl⟩ : ∃ f', f = f' + 1 := ⟨f - 1, by omega⟩
      have HPS := hid (pass_any b Bs ps C L F q wr HF.out (HS.out.but HP.out HB.out) hC0 hC hq)
      have hR := Sp.passP_le C.length F q hq
      have HE2 := HE.out
      simp only [Sp.playP] at HE2
      rw [dif_pos ⟨hin1, hin2⟩] at HE2
      replace HE2 := hid HE2
      clear HE
      generalize (Sp.passP C C.length F q).1 = RE at *
      generalize (Sp.passP C C.length F q).2 = rq at *
      generalize hI : D[a] = I at *
      have HI := hid hI
      clear hI
      go_upto_region 8 with (go_at_call 73; refine HPS.out.mono ?_; rintro e w1 ⟨rfl, hp1, ho1⟩; have HP1 := hid hp1; have HO1 := hid ho1; clear hp1 ho1)
      clear x1 x2 x3 x4 y1 y2 y3 y4 HPS
      have HB1 := hid (HB.out.trans HO1.out.toBut)
      obtain ⟨y1, y2, y3, y4, y5⟩ := HTT.out w1 HB1.out
      obtain ⟨c0, c1, c2, c3, c4, c5, c6⟩ := y5 a hin2
      rw [HI.out] at c0 c1 c2 c3 c4 c5 c6
      have hw1 := HB1.out.size
      clear y5 HX5 HY5
      go_upto_region 9 with fail
      have HBA := hid (show Below w1.heap.size w1 (w1.alloc (.cells #[.int .u8 I.o, .int .i64 I.d, .int .i64 I.x, .int .i64 I.y, .int .i64 I.n, .int .i64 I.k, .int .i64 I.m] 90)) from (Below.refl _ _).alloc (Nat.le_refl _) _)
      have HRI := hid (row_new w1 I.o I.d I.x I.y I.n I.k I.m 90)
      have hsz2 : (w1.alloc (.cells #[.int .u8 I.o, .int .i64 I.d, .int .i64 I.x, .int .i64 I.y, .int .i64 I.n, .int .i64 I.k, .int .i64 I.m] 90)).heap.size = w1.heap.size + 1 := by simp
      clear c0 c1 c2 c3 c4 c5 c6 y1 y2 y3 y4
      generalize w1.alloc (.cells #[.int .u8 I.o, .int .i64 I.d, .int .i64 I.x, .int .i64 I.y, .int .i64 I.n, .int .i64 I.k, .int .i64 I.m] 90) = w2 at *
      obtain ⟨c0, c1, c2, c3, c4, c5, c6⟩ := row_cells HRI.out
      cases hmv : Sp.isMv I.o
      · have HMV := hid hmv
        rw [hmv, if_neg (by simp)] at HE2
        clear hmv
        go_upto_region 11 with (go_at_call 74; refine (isMove_any I.o I.d I.x I.y I.n I.k I.m w2).mono ?_; rw [HMV.out]; rintro e w3 ⟨rfl, hb3⟩; have HB3 := hid hb3; clear hb3)
        clear c0 c1 c2 c3 c4 c5 c6
        have HRI3 := hid (HRI.out.of_block (HB3.out.block _ (by omega)))
        obtain ⟨c0, c1, c2, c3, c4, c5, c6⟩ := row_cells HRI3.out
        have HBW := hid ((HB1.out.trans ((But.of_below HBA.out).weaken hw1)).trans ((But.of_below HB3.out).weaken (by omega)))
        obtain ⟨x1, x2, x3, x4, x5⟩ := HSS.out w3 HBW.out
        have hbw1 : b < w1.heap.size := by omega
        have HP3 := hid ((HP1.out.of_block (HBA.out.block b hbw1)).of_block (HB3.out.block b (by omega)))
        have hw3 := HBW.out.size
        by_cases hr : rq < C.length
        · have t1 : decide ((rq : Int) < 0) = false := by simp
          have t2 : decide (C.length ≤ rq) = false := by simp; omega
          obtain ⟨e0, e1, e2, e3, e4, e5, e6⟩ := x5 rq hr
          rw [dif_pos hr] at HE2
          generalize hJ : C[rq] = J at *
          have HSJ := hid (show ∀ w4, But w3.heap.size b w3 w4 → w4.cell? ⟨ps, 0, none⟩ = some (.slice (some ⟨gC, 0, none⟩) C.length kC) ∧ InsCells w4 gC rq J ∧ w4.rowIs w1.heap.size 90 7 (insF I) from fun w4 hb4 => by
            obtain ⟨z1, _, _, _, z5⟩ := HSS.out w4 (HBW.out.trans (hb4.weaken hw3))
            exact ⟨z1, hJ ▸ z5 rq hr, HRI3.out.of_block (hb4.block _ HRI3.out.lt (by omega))⟩)
          clear hJ x5
          have HFL := hid (show ∀ W, PrAt W b RE → Calls Tryd.prog 76 #[.pointer (some ⟨b, 0, none⟩), .agg #[.int .u8 J.o, .int .i64 J.d, .int .i64 J.x, .int .i64 J.y, .int .i64 J.n, .int .i64 J.k, .int .i64 J.m], .agg #[.int .u8 I.o, .int .i64 I.d, .int .i64 I.x, .int .i64 I.y, .int .i64 I.n, .int .i64 I.k, .int .i64 I.m]] W fun e w' => FolPost b RE J I W e w' from fun W hW => follow_any b RE J.o J.d J.x J.y J.n J.k J.m I.o I.d I.x I.y I.n I.k I.m W hW)
          cases hfo : Sp.followP RE J I
          · rw [hfo, if_neg (by simp)] at HE2
            have HNO := hid (show Sp.playB C L D M E bi = none by rw [HPB.out, ← HE2.out]; rfl)
            have HFO := hid hfo
            clear hfo
            have HK0 := hid (show (fun w' => w'.cell? ⟨ps, 0, none⟩ = some (.slice (some ⟨gC, 0, none⟩) C.length kC) ∧ w'.cell? ⟨gC, rq * 7, none⟩ = some (.int .u8 J.o) ∧ w'.cell? ⟨gC, rq * 7 + 1, none⟩ = some (.int .i64 J.d) ∧ w'.cell? ⟨gC, rq * 7 + 2, none⟩ = some (.int .i64 J.x) ∧ w'.cell? ⟨gC, rq * 7 + 3, none⟩ = some (.int .i64 J.y) ∧ w'.cell? ⟨gC, rq * 7 + 4, none⟩ = some (.int .i64 J.n) ∧ w'.cell? ⟨gC, rq * 7 + 5, none⟩ = some (.int .i64 J.k) ∧ w'.cell? ⟨gC, rq * 7 + 6, none⟩ = some (.int .i64 J.m) ∧ w'.cell? ⟨w1.heap.size, 0, none⟩ = some (.int .u8 I.o) ∧ w'.cell? ⟨w1.heap.size, 1, none⟩ = some (.int .i64 I.d) ∧ w'.cell? ⟨w1.heap.size, 2, none⟩ = some (.int .i64 I.x) ∧ w'.cell? ⟨w1.heap.size, 3, none⟩ = some (.int .i64 I.y) ∧ w'.cell? ⟨w1.heap.size, 4, none⟩ = some (.int .i64 I.n) ∧ w'.cell? ⟨w1.heap.size, 5, none⟩ = some (.int .i64 I.k) ∧ w'.cell? ⟨w1.heap.size, 6, none⟩ = some (.int .i64 I.m)) w3 from ⟨x1, e0, e1, e2, e3, e4, e5, e6, c0, c1, c2, c3, c4, c5, c6⟩)
            have HK := hid (show ∀ w4, But w3.heap.size b w3 w4 → (fun w' => w'.cell? ⟨ps, 0, none⟩ = some (.slice (some ⟨gC, 0, none⟩) C.length kC) ∧ w'.cell? ⟨gC, rq * 7, none⟩ = some (.int .u8 J.o) ∧ w'.cell? ⟨gC, rq * 7 + 1, none⟩ = some (.int .i64 J.d) ∧ w'.cell? ⟨gC, rq * 7 + 2, none⟩ = some (.int .i64 J.x) ∧ w'.cell? ⟨gC, rq * 7 + 3, none⟩ = some (.int .i64 J.y) ∧ w'.cell? ⟨gC, rq * 7 + 4, none⟩ = some (.int .i64 J.n) ∧ w'.cell? ⟨gC, rq * 7 + 5, none⟩ = some (.int .i64 J.k) ∧ w'.cell? ⟨gC, rq * 7 + 6, none⟩ = some (.int .i64 J.m) ∧ w'.cell? ⟨w1.heap.size, 0, none⟩ = some (.int .u8 I.o) ∧ w'.cell? ⟨w1.heap.size, 1, none⟩ = some (.int .i64 I.d) ∧ w'.cell? ⟨w1.heap.size, 2, none⟩ = some (.int .i64 I.x) ∧ w'.cell? ⟨w1.heap.size, 3, none⟩ = some (.int .i64 I.y) ∧ w'.cell? ⟨w1.heap.size, 4, none⟩ = some (.int .i64 I.n) ∧ w'.cell? ⟨w1.heap.size, 5, none⟩ = some (.int .i64 I.k) ∧ w'.cell? ⟨w1.heap.size, 6, none⟩ = some (.int .i64 I.m)) w4 from fun w4 hb4 => by
              obtain ⟨z1, ⟨z2, z3, z4, z5, z6, z7, z8⟩, zr⟩ := HSJ.out w4 hb4
              obtain ⟨u0, u1, u2, u3, u4, u5, u6⟩ := row_cells zr
              exact ⟨z1, z2, z3, z4, z5, z6, z7, z8, u0, u1, u2, u3, u4, u5, u6⟩)
            go_wp2_with fail
            go_region_held3 (fun w' => w'.cell? ⟨ps, 0, none⟩ = some (.slice (some ⟨gC, 0, none⟩) C.length kC) ∧ w'.cell? ⟨gC, rq * 7, none⟩ = some (.int .u8 J.o) ∧ w'.cell? ⟨gC, rq * 7 + 1, none⟩ = some (.int .i64 J.d) ∧ w'.cell? ⟨gC, rq * 7 + 2, none⟩ = some (.int .i64 J.x) ∧ w'.cell? ⟨gC, rq * 7 + 3, none⟩ = some (.int .i64 J.y) ∧ w'.cell? ⟨gC, rq * 7 + 4, none⟩ = some (.int .i64 J.n) ∧ w'.cell? ⟨gC, rq * 7 + 5, none⟩ = some (.int .i64 J.k) ∧ w'.cell? ⟨gC, rq * 7 + 6, none⟩ = some (.int .i64 J.m) ∧ w'.cell? ⟨w1.heap.size, 0, none⟩ = some (.int .u8 I.o) ∧ w'.cell? ⟨w1.heap.size, 1, none⟩ = some (.int .i64 I.d) ∧ w'.cell? ⟨w1.heap.size, 2, none⟩ = some (.int .i64 I.x) ∧ w'.cell? ⟨w1.heap.size, 3, none⟩ = some (.int .i64 I.y) ∧ w'.cell? ⟨w1.heap.size, 4, none⟩ = some (.int .i64 I.n) ∧ w'.cell? ⟨w1.heap.size, 5, none⟩ = some (.int .i64 I.k) ∧ w'.cell? ⟨w1.heap.size, 6, none⟩ = some (.int .i64 I.m)) (first | exact HK0.out | exact HK.out _ HB4.out) ((go_at_call 76; refine (HFL.out w3.drew (HP3.out.of_block rfl)).mono ?_; rintro e w4 ⟨he, _, hb4⟩; rw [HFO.out] at he; subst he; have HB4 := hid (show But w3.heap.size b w3 w4 from ⟨hb4.os, hb4.tape, hb4.output, hb4.size, hb4.block⟩); clear hb4))
            all_goals
              go_wp2_with fail
              go_ret
              exact playPost_no HNO.out rfl (HBW.out.trans (HB4.out.weaken hw3))
          · rw [hfo, if_pos rfl] at HE2
            have HFO := hid hfo
            clear hfo
            have HK0 := hid (show (fun w' => w'.cell? ⟨ps, 0, none⟩ = some (.slice (some ⟨gC, 0, none⟩) C.length kC) ∧ w'.cell? ⟨gC, rq * 7, none⟩ = some (.int .u8 J.o) ∧ w'.cell? ⟨gC, rq * 7 + 1, none⟩ = some (.int .i64 J.d) ∧ w'.cell? ⟨gC, rq * 7 + 2, none⟩ = some (.int .i64 J.x) ∧ w'.cell? ⟨gC, rq * 7 + 3, none⟩ = some (.int .i64 J.y) ∧ w'.cell? ⟨gC, rq * 7 + 4, none⟩ = some (.int .i64 J.n) ∧ w'.cell? ⟨gC, rq * 7 + 5, none⟩ = some (.int .i64 J.k) ∧ w'.cell? ⟨gC, rq * 7 + 6, none⟩ = some (.int .i64 J.m) ∧ w'.cell? ⟨w1.heap.size, 0, none⟩ = some (.int .u8 I.o) ∧ w'.cell? ⟨w1.heap.size, 1, none⟩ = some (.int .i64 I.d) ∧ w'.cell? ⟨w1.heap.size, 2, none⟩ = some (.int .i64 I.x) ∧ w'.cell? ⟨w1.heap.size, 3, none⟩ = some (.int .i64 I.y) ∧ w'.cell? ⟨w1.heap.size, 4, none⟩ = some (.int .i64 I.n) ∧ w'.cell? ⟨w1.heap.size, 5, none⟩ = some (.int .i64 I.k) ∧ w'.cell? ⟨w1.heap.size, 6, none⟩ = some (.int .i64 I.m)) w3 from ⟨x1, e0, e1, e2, e3, e4, e5, e6, c0, c1, c2, c3, c4, c5, c6⟩)
            have HK := hid (show ∀ w4, But w3.heap.size b w3 w4 → (fun w' => w'.cell? ⟨ps, 0, none⟩ = some (.slice (some ⟨gC, 0, none⟩) C.length kC) ∧ w'.cell? ⟨gC, rq * 7, none⟩ = some (.int .u8 J.o) ∧ w'.cell? ⟨gC, rq * 7 + 1, none⟩ = some (.int .i64 J.d) ∧ w'.cell? ⟨gC, rq * 7 + 2, none⟩ = some (.int .i64 J.x) ∧ w'.cell? ⟨gC, rq * 7 + 3, none⟩ = some (.int .i64 J.y) ∧ w'.cell? ⟨gC, rq * 7 + 4, none⟩ = some (.int .i64 J.n) ∧ w'.cell? ⟨gC, rq * 7 + 5, none⟩ = some (.int .i64 J.k) ∧ w'.cell? ⟨gC, rq * 7 + 6, none⟩ = some (.int .i64 J.m) ∧ w'.cell? ⟨w1.heap.size, 0, none⟩ = some (.int .u8 I.o) ∧ w'.cell? ⟨w1.heap.size, 1, none⟩ = some (.int .i64 I.d) ∧ w'.cell? ⟨w1.heap.size, 2, none⟩ = some (.int .i64 I.x) ∧ w'.cell? ⟨w1.heap.size, 3, none⟩ = some (.int .i64 I.y) ∧ w'.cell? ⟨w1.heap.size, 4, none⟩ = some (.int .i64 I.n) ∧ w'.cell? ⟨w1.heap.size, 5, none⟩ = some (.int .i64 I.k) ∧ w'.cell? ⟨w1.heap.size, 6, none⟩ = some (.int .i64 I.m)) w4 from fun w4 hb4 => by
              obtain ⟨z1, ⟨z2, z3, z4, z5, z6, z7, z8⟩, zr⟩ := HSJ.out w4 hb4
              obtain ⟨u0, u1, u2, u3, u4, u5, u6⟩ := row_cells zr
              exact ⟨z1, z2, z3, z4, z5, z6, z7, z8, u0, u1, u2, u3, u4, u5, u6⟩)
            go_wp2_with fail
            go_region_held3 (fun w' => w'.cell? ⟨ps, 0, none⟩ = some (.slice (some ⟨gC, 0, none⟩) C.length kC) ∧ w'.cell? ⟨gC, rq * 7, none⟩ = some (.int .u8 J.o) ∧ w'.cell? ⟨gC, rq * 7 + 1, none⟩ = some (.int .i64 J.d) ∧ w'.cell? ⟨gC, rq * 7 + 2, none⟩ = some (.int .i64 J.x) ∧ w'.cell? ⟨gC, rq * 7 + 3, none⟩ = some (.int .i64 J.y) ∧ w'.cell? ⟨gC, rq * 7 + 4, none⟩ = some (.int .i64 J.n) ∧ w'.cell? ⟨gC, rq * 7 + 5, none⟩ = some (.int .i64 J.k) ∧ w'.cell? ⟨gC, rq * 7 + 6, none⟩ = some (.int .i64 J.m) ∧ w'.cell? ⟨w1.heap.size, 0, none⟩ = some (.int .u8 I.o) ∧ w'.cell? ⟨w1.heap.size, 1, none⟩ = some (.int .i64 I.d) ∧ w'.cell? ⟨w1.heap.size, 2, none⟩ = some (.int .i64 I.x) ∧ w'.cell? ⟨w1.heap.size, 3, none⟩ = some (.int .i64 I.y) ∧ w'.cell? ⟨w1.heap.size, 4, none⟩ = some (.int .i64 I.n) ∧ w'.cell? ⟨w1.heap.size, 5, none⟩ = some (.int .i64 I.k) ∧ w'.cell? ⟨w1.heap.size, 6, none⟩ = some (.int .i64 I.m)) (first | exact HK0.out | exact HK.out _ HB4.out) ((go_at_call 76; refine (HFL.out w3.drew (HP3.out.of_block rfl)).mono ?_; rintro e w4 ⟨he, hp4, hb4⟩; rw [HFO.out] at he; subst he; have HB4 := hid (show But w3.heap.size b w3 w4 from ⟨hb4.os, hb4.tape, hb4.output, hb4.size, hb4.block⟩); have HP4 := hid (hp4 HFO.out); clear hb4 hp4))
            all_goals
              go_wp2_with fail
              go_roundw
              case rel => exact ⟨rq + 1, a + 1, f', _, by go_num, by go_num, rfl, by omega, by omega, by omega, HP4.out, HBW.out.trans (HB4.out.weaken hw3), HE2.out⟩
              case measure => simp [intOf]; omega
        · rw [dif_neg hr] at HE2
          clear x5
          have HNO := hid (show Sp.playB C L D M E bi = none by rw [HPB.out, ← HE2.out]; rfl)
          have t1 : decide ((rq : Int) < 0) = false := by simp
          have t2 : decide (C.length ≤ rq) = true := by simp; omega
          go_wp2_with fail
          go_quiet (fail)
          go_wp2_with fail
          go_ret
          exact playPost_no HNO.out rfl ⟨HBW.out.os, HBW.out.tape, HBW.out.output, HBW.out.size, HBW.out.block⟩
      · have HMV := hid hmv
        rw [hmv, if_pos rfl] at HE2
        clear hmv
        go_upto_region 10 with (go_at_call 74; refine (isMove_any I.o I.d I.x I.y I.n I.k I.m w2).mono ?_; rw [HMV.out]; rintro e w3 ⟨rfl, hb3⟩; have HB3 := hid hb3; clear hb3)
        clear c0 c1 c2 c3 c4 c5 c6
        have HRI3 := hid (HRI.out.of_block (HB3.out.block _ (by omega)))
        obtain ⟨c0, c1, c2, c3, c4, c5, c6⟩ := row_cells HRI3.out
        have hbw1 : b < w1.heap.size := by omega
        have HP3 := hid ((HP1.out.of_block (HBA.out.block b hbw1)).of_block (HB3.out.block b (by omega)))
        have HBW := hid ((HB1.out.trans ((But.of_below HBA.out).weaken hw1)).trans ((But.of_below HB3.out).weaken (by omega)))
        have hw3 := HBW.out.size
        go_wp2_with (go_at_call 75; refine (move_any b _ I.o I.d I.x I.y I.n I.k I.m w3 HP3.out).mono ?_; rintro e w4 ⟨rfl, hp4, hb4⟩; have HP4 := hid hp4; have HB4 := hid (HBW.out.trans (hb4.weaken hw3)); clear hp4 hb4)
        go_roundw
        case rel =>
          exact ⟨rq, a + 1, f', _, rfl, by go_num, rfl, hR, by omega, by omega, HP4.out, HB4.out, HE2.out⟩
        case measure => simp [intOf]; omega
    · have HE2 := hid (show Sp.playP C D m2 D.length E l1 m1 = some (F, q) by
        rw [← HE.out]
        cases f with
        | zero => rfl
        | succ f => simp only [Sp.playP]; rw [dif_neg hin])
      have HR := hid (show Sp.playB C L D M E bi = if q = l2 + 1 then some F else none by rw [HPB.out, HE2.out]; rfl)
      have hfin : ∀ (v : Value), v = .bool ((q : Int) == (l2 : Int) + 1) → PlayPost b (Sp.playB C L D M E bi) w (.returned v) wr := by
        rintro v rfl
        by_cases hql : q = l2 + 1
        · rw [if_pos hql] at HR
          refine ⟨?_, fun G hG => ?_, HB.out⟩
          · rw [HR.out]; simp [hql]
          · rw [HR.out] at hG; cases hG; exact HF.out
        · rw [if_neg hql] at HR
          exact playPost_no HR.out (by congr 2; simp; omega) HB.out
      have HFIN := hid hfin
      clear hfin HX5 HY5
      by_cases ha2 : a ≤ m2
      · have ha3 : D.length ≤ a := by omega
        clear hin
        go_wp2_with fail
        go_ret
        exact HFIN.out _ rfl
      · clear hin
        have ha3 : m2 < a := by omega
        go_wp2_with fail
        go_ret
        exact HFIN.out _ rfl
end Go.Proofs.YtccndnckceagfabDoor
