/-
  The program's reading of one instruction.
-/
import Derived.Test.YtccndnckceagfabGreatDoorRG02
namespace Go.Proofs.YtccndnckceagfabGreatDoorR
open Go.RowKit

def insA (i : Sp.Ins) : Value := .agg #[.int .u8 i.o, .int .i64 i.d, .int .i64 i.x, .int .i64 i.y, .int .i64 i.n, .int .i64 i.k, .int .i64 i.m]

theorem row_cells {w : World} {b t : Nat} {i : Sp.Ins} (h : w.rowIs b t 7 (insF i)) : w.cell? ⟨b, 0, none⟩ = some (.int .u8 i.o) ∧ w.cell? ⟨b, 1, none⟩ = some (.int .i64 i.d) ∧ w.cell? ⟨b, 2, none⟩ = some (.int .i64 i.x) ∧ w.cell? ⟨b, 3, none⟩ = some (.int .i64 i.y) ∧ w.cell? ⟨b, 4, none⟩ = some (.int .i64 i.n) ∧ w.cell? ⟨b, 5, none⟩ = some (.int .i64 i.k) ∧ w.cell? ⟨b, 6, none⟩ = some (.int .i64 i.m) :=
  ⟨h.cell (i := 0) (by omega), h.cell (i := 1) (by omega), h.cell (i := 2) (by omega), h.cell (i := 3) (by omega), h.cell (i := 4) (by omega), h.cell (i := 5) (by omega), h.cell (i := 6) (by omega)⟩

def ReadPost (K : Int) (x : ByteArray) (w : World) (e : Ending) (w' : World) : Prop :=
  ∃ i ok, e = .returned (.tuple #[insA i, .bool ok]) ∧ ok = Sp.dokBK K (Sp.B x 0) (fun j => Sp.B x (j + 1)) ∧ (ok = true → i = Sp.tkNK K (Sp.B x 0) (fun j => Sp.B x (j + 1)) 3) ∧ Below w.heap.size w w'
theorem readPost_mk {K : Int} {x : ByteArray} {w : World} {e : Ending} {w' : World} (i : Sp.Ins) (ok : Bool) {o : Int} (ho : Sp.B x 0 = o) (he : e = .returned (.tuple #[insA i, .bool ok])) (h1 : Sp.dokBK K o (fun j => Sp.B x (j + 1)) = ok) (h2 : ok = true → i = Sp.tkNK K o (fun j => Sp.B x (j + 1)) 3) (h3 : Below w.heap.size w w') : ReadPost K x w e w' := by
  subst ho
  exact ⟨i, ok, he, h1.symm, h2, h3⟩

theorem row_gram (w : World) (g : Bool) (k : Int) : (w.alloc (.cells #[.bool g, .int .i64 k] 78)).rowIs w.heap.size 78 2 (fun j => if j = 0 then .bool g else .int .i64 k) :=
  World.rowIs_alloc w #[.bool g, .int .i64 k] 78 _ (fun j hj => by
    have hj' : j = 0 ∨ j = 1 := by simp at hj; omega
    rcases hj' with rfl | rfl <;> rfl)
theorem row_seven (w : World) (o d x y n k m : Int) : (w.alloc (.cells #[.int .u8 o, .int .i64 d, .int .i64 x, .int .i64 y, .int .i64 n, .int .i64 k, .int .i64 m] 74)).rowIs w.heap.size 74 7 (insF ⟨o, d, x, y, n, k, m⟩) :=
  World.rowIs_alloc w #[.int .u8 o, .int .i64 d, .int .i64 x, .int .i64 y, .int .i64 n, .int .i64 k, .int .i64 m] 74 _ (fun j hj => by
    have hj' : j = 0 ∨ j = 1 ∨ j = 2 ∨ j = 3 ∨ j = 4 ∨ j = 5 ∨ j = 6 := by simp at hj; omega
    rcases hj' with rfl | rfl | rfl | rfl | rfl | rfl | rfl <;> rfl)

set_option maxHeartbeats 400000 in
theorem bare_any (o : Int) (w : World) : Calls Tryz.prog 69 #[.int .u8 o] w fun e w' => e = .returned (.agg #[.int .u8 o, .int .i64 (-1), .int .i64 (-1), .int .i64 (-1), .int .i64 0, .int .i64 (-1), .int .i64 (-1)]) ∧ w' = w.alloc (.cells #[.int .u8 o, .int .i64 (-1), .int .i64 (-1), .int .i64 (-1), .int .i64 0, .int .i64 (-1), .int .i64 (-1)] 74) := by
  go_enter Tryz.func69, Tryz.ntmps69
  go_wp2_with fail
  obtain ⟨c0, c1, c2, c3, c4, c5, c6⟩ := row_cells (row_seven w o (-1) (-1) (-1) 0 (-1) (-1))
  exact bodyPost_ret (v := .agg #[.int .u8 o, .int .i64 (-1), .int .i64 (-1), .int .i64 (-1), .int .i64 0, .int .i64 (-1), .int .i64 (-1)]) (by simp [results, Tryz.results69, go_sem, c0, c1, c2, c3, c4, c5, c6]) rfl ⟨rfl, rfl⟩

set_option maxHeartbeats 2000000 in
theorem readIns_any (K : Int) (g : Bool) (hg : g = decide (K ≠ 0)) (x : ByteArray) (w : World) (hx : x.size = 4) :
    Calls Tryz.prog 52 #[.agg #[.bool g, .int .i64 K], .string x] w fun e w' => ReadPost K x w e w' := by
  have HG := hid hg
  clear hg
  have hx0 := Sp.B_get x 0 (by omega)
  have hb0 := Sp.B_bd x 0
  obtain ⟨o, hO⟩ : ∃ o, Sp.B x 0 = o := ⟨_, rfl⟩
  rw [hO] at hx0 hb0
  have HO := hid hO
  clear hO
  go_enter Tryz.func52, Tryz.ntmps52
  go_wp2_with (go_at_call 69; refine (bare_any o _).mono ?_; rintro e w' ⟨rfl, rfl⟩)
  refine (gshape_any K g HG.out o _).mono ?_
  rintro e w1 ⟨rfl, hb1⟩
  have hszA : ((((w.alloc (.cells #[.bool g, .int .i64 K] 78)).alloc (.cells #[.int .u8 0, .int .i64 0, .int .i64 0, .int .i64 0, .int .i64 0, .int .i64 0, .int .i64 0] 74)).alloc (.cells #[.int .u8 o, .int .i64 (-1), .int .i64 (-1), .int .i64 (-1), .int .i64 0, .int .i64 (-1), .int .i64 (-1)] 74)).alloc (.cells #[.int .u8 o, .int .i64 (-1), .int .i64 (-1), .int .i64 (-1), .int .i64 0, .int .i64 (-1), .int .i64 (-1)] 74)).heap.size = w.heap.size + 4 := by simp
  have hbA : Below w.heap.size w ((((w.alloc (.cells #[.bool g, .int .i64 K] 78)).alloc (.cells #[.int .u8 0, .int .i64 0, .int .i64 0, .int .i64 0, .int .i64 0, .int .i64 0, .int .i64 0] 74)).alloc (.cells #[.int .u8 o, .int .i64 (-1), .int .i64 (-1), .int .i64 (-1), .int .i64 0, .int .i64 (-1), .int .i64 (-1)] 74)).alloc (.cells #[.int .u8 o, .int .i64 (-1), .int .i64 (-1), .int .i64 (-1), .int .i64 0, .int .i64 (-1), .int .i64 (-1)] 74)) := ((((Below.refl _ _).alloc (Nat.le_refl _) _).alloc (by simp) _).alloc (by simp; omega) _).alloc (by simp; omega) _
  rw [hszA] at hb1
  have r0 := ((((row_gram w g K).alloc _).alloc _).alloc _).of_block (hb1.block _ (by omega))
  have r1 : w1.rowIs (w.heap.size + 1) 74 7 (insF ⟨0, 0, 0, 0, 0, 0, 0⟩) := by
    have := (((row_seven (w.alloc (.cells #[.bool g, .int .i64 K] 78)) 0 0 0 0 0 0 0).alloc (.cells #[.int .u8 o, .int .i64 (-1), .int .i64 (-1), .int .i64 (-1), .int .i64 0, .int .i64 (-1), .int .i64 (-1)] 74)).alloc (.cells #[.int .u8 o, .int .i64 (-1), .int .i64 (-1), .int .i64 (-1), .int .i64 0, .int .i64 (-1), .int .i64 (-1)] 74)).of_block (hb1.block _ (by simp))
    simpa using this
  have r2 : w1.rowIs (w.heap.size + 1 + 1 + 1) 74 7 (insF ⟨o, -1, -1, -1, 0, -1, -1⟩) := by
    have := (row_seven (((w.alloc (.cells #[.bool g, .int .i64 K] 78)).alloc (.cells #[.int .u8 0, .int .i64 0, .int .i64 0, .int .i64 0, .int .i64 0, .int .i64 0, .int .i64 0] 74)).alloc (.cells #[.int .u8 o, .int .i64 (-1), .int .i64 (-1), .int .i64 (-1), .int .i64 0, .int .i64 (-1), .int .i64 (-1)] 74)) o (-1) (-1) (-1) 0 (-1) (-1)).of_block (hb1.block _ (by simp))
    simpa using this
  have HB1 := hid (hbA.trans (hb1.mono (by omega)))
  have hs1 : w.heap.size + 4 ≤ w1.heap.size := by have := hb1.size; rw [hszA] at this; exact this
  clear hszA hbA hb1
  have HR0 := hid r0
  have HR1 := hid r1
  have HR2 := hid r2
  clear r0 r1 r2
  rcases Sp.shpK_size K o with hz | hz
  · have HD := hid (show Sp.dokBK K o (fun j => Sp.B x (j + 1)) = false by simp [Sp.dokBK, hz])
    generalize hS : Sp.shpK K o = sh at *
    have HS := hid hS
    clear hS
    obtain ⟨c0, c1, c2, c3, c4, c5, c6⟩ := row_cells HR2.out
    obtain ⟨d0, d1, d2, d3, d4, d5, d6⟩ := row_cells HR1.out
    have z0 := HR1.out.frozen 0
    have z1 := HR1.out.frozen 1
    have z2 := HR1.out.frozen 2
    have z3 := HR1.out.frozen 3
    have z4 := HR1.out.frozen 4
    have z5 := HR1.out.frozen 5
    have z6 := HR1.out.frozen 6
    go_wp2_with fail
    refine bodyPost_ret (v := .tuple #[insA ⟨o, -1, -1, -1, 0, -1, -1⟩, .bool false]) (by simp [results, Tryz.results52, go_sem, insA, d0, d1, d2, d3, d4, d5, d6]) rfl (readPost_mk _ false HO.out rfl HD.out (fun h => by cases h) ?_)
    exact ((((((HB1.out.setCell (Nat.le_succ _) _).setCell (Nat.le_succ _) _).setCell (Nat.le_succ _) _).setCell (Nat.le_succ _) _).setCell (Nat.le_succ _) _).setCell (Nat.le_succ _) _).setCell (Nat.le_succ _) _
  · have hb1 := Sp.B_bd x 1
    have hb2 := Sp.B_bd x 2
    have hb3 := Sp.B_bd x 3
    have HD := hid (show Sp.dokBK K o (fun j => Sp.B x (j + 1)) = (Sp.tkBK (Sp.B (Sp.shpK K o) 0) (Sp.B x 1) (Sp.plO K (Sp.B (Sp.shpK K o) 0) (Sp.B x 1)) && Sp.tkBK (Sp.B (Sp.shpK K o) 1) (Sp.B x 2) (Sp.plO K (Sp.B (Sp.shpK K o) 1) (Sp.B x 2)) && Sp.tkBK (Sp.B (Sp.shpK K o) 2) (Sp.B x 3) (Sp.plO K (Sp.B (Sp.shpK K o) 2) (Sp.B x 3))) by simp [Sp.dokBK, hz])
    have HN : Hid (∀ q, Sp.tkNK K o (fun j => Sp.B x (j + 1)) (q + 1) = Sp.tkIK (Sp.tkNK K o (fun j => Sp.B x (j + 1)) q) (Sp.B (Sp.shpK K o) q) (Sp.B x (q + 1)) (Sp.plO K (Sp.B (Sp.shpK K o) q) (Sp.B x (q + 1)))) := hid (fun q => rfl)
    have HNB := hid (fun q (h : q ≤ 2) => Sp.tkNK_n K o (fun j => Sp.B x (j + 1)) q h)
    have HT0 : Hid (Sp.tkNK K o (fun j => Sp.B x (j + 1)) 0 = ⟨o, -1, -1, -1, 0, -1, -1⟩) := hid rfl
    obtain ⟨T, hT⟩ : ∃ T, T = Sp.tkNK K o (fun j => Sp.B x (j + 1)) := ⟨_, rfl⟩
    rw [← hT] at HN HNB HT0
    have HTT := hid hT
    clear hT
    generalize hS : Sp.shpK K o = sh at *
    have HS := hid hS
    clear hS
    have hz0 : ((sh.size : Int) == 0) = false := beq_eq_false_iff_ne.2 (by omega)
    go_wp2_with fail
    go_loopw [8] (fun kv wr => ∃ q : Nat, q ≤ 3 ∧ kv = .int .i64 q ∧ (∀ j, j < q → Sp.tkBK (Sp.B sh j) (Sp.B x (j + 1)) (Sp.plO K (Sp.B sh j) (Sp.B x (j + 1))) = true) ∧ wr.rowIs w.heap.size 78 2 (fun j => if j = 0 then .bool g else .int .i64 K) ∧ wr.rowIs (w.heap.size + 1) 74 7 (insF ⟨0, 0, 0, 0, 0, 0, 0⟩) ∧ wr.rowIs (w.heap.size + 1 + 1 + 1) 74 7 (insF (T q)) ∧ Below w.heap.size w wr) (fun kv _ => 3 - (intOf kv).toNat)
    case atStart => exact ⟨0, by omega, rfl, (fun j hj => by omega), HR0.out, HR1.out, by rw [HT0.out]; exact HR2.out, HB1.out⟩
    case round =>
      obtain ⟨q, hq, rfl, hall, hr0, hr1, hr2, hbel⟩ := hrel
      have HALL := hid hall
      have HR0 := hid hr0
      have HR1 := hid hr1
      have HR2 := hid hr2
      have HB := hid hbel
      have hsz := hr2.lt
      clear hall hr1 hr2 hbel
      by_cases hq3 : q < 3
      · have hsq := Sp.B_get sh q (by omega)
        have hxq := Sp.B_get x (q + 1) (by omega)
        have hbq := Sp.B_bd x (q + 1)
        have hnq := HNB.out q (by omega)
        have g0 := hr0.cell (i := 0) (by omega)
        have g1 := hr0.cell (i := 1) (by omega)
        clear hr0
        have hix : ∀ W : World, (Instr.index 9 (.string x) (.int .i64 (IntKind.i64.wrap ((q : Int) + 1)))).run Tryz.prog W = .ok (.int .u8 (Sp.B x (q + 1))) W := by
          intro W
          rw [run_index_string W 9 x .i64 _ Tryz.underlying9, IntWalk.i64_in _ (by omega), dif_pos (by omega)]
          exact congrArg (fun z => Result.ok (Value.int .u8 z) W) hxq
        cases htk : Sp.tkBK (Sp.B sh q) (Sp.B x (q + 1)) (Sp.plO K (Sp.B sh q) (Sp.B x (q + 1)))
        · have HK := hid htk
          have HF : Hid (Sp.dokBK K o (fun j => Sp.B x (j + 1)) = false) := by
            show Sp.dokBK K o (fun j => Sp.B x (j + 1)) = false
            rw [HD.out]
            have : q = 0 ∨ q = 1 ∨ q = 2 := by omega
            rcases this with rfl | rfl | rfl <;> simp [htk]
          go_wp2
          go_region_with (go_at_call 76; refine (place_any K g HG.out _ _ _ (by omega) (by omega)).mono ?_; rintro e w2 ⟨rfl, hbp⟩; have HBP := hid (show Below wr.heap.size wr w2 from ⟨hbp.os, hbp.tape, hbp.output, hbp.size, hbp.block⟩); clear hbp)
          all_goals
            have HS0 := hid (HR0.out.of_block (HBP.out.block w.heap.size (by omega)))
            have HS1 := hid (HR1.out.of_block (HBP.out.block (w.heap.size + 1) (by omega)))
            have HS2 := hid (HR2.out.of_block (HBP.out.block (w.heap.size + 1 + 1 + 1) (by omega)))
            have HB2 := hid (HB.out.trans (HBP.out.mono HB.out.size))
            clear HBP g0 g1
            go_wp2_with (go_at_call 77; refine (take_any _ (T q) _ _ _ _ (by exact HS2.out) (by omega) (by omega) hnq.1 hnq.2).mono ?_; rintro e w3 ⟨rfl, hrow, honly⟩; obtain ⟨c0, c1, c2, c3, c4, c5, c6⟩ := row_cells hrow; have hrN := HS1.out.of_block (honly.block (w.heap.size + 1) (by omega)); obtain ⟨d0, d1, d2, d3, d4, d5, d6⟩ := row_cells hrN; have z0 := hrN.frozen 0; have z1 := hrN.frozen 1; have z2 := hrN.frozen 2; have z3 := hrN.frozen 3; have z4 := hrN.frozen 4; have z5 := hrN.frozen 5; have z6 := hrN.frozen 6; have HB3 := hid (HB2.out.trans (honly.below (B := w.heap.size) (by omega))); have HRW := hid hrow; have HRN := hid hrN; have HRG := hid (HS0.out.of_block (honly.block w.heap.size (by omega))); clear hrow honly hrN)
            generalize Sp.tkIK (T q) (Sp.B sh q) (Sp.B x (q + 1)) (Sp.plO K (Sp.B sh q) (Sp.B x (q + 1))) = J at *
            refine bodyPost_ret (v := .tuple #[insA J, .bool false]) (by simp [results, Tryz.results52, go_sem, insA, d0, d1, d2, d3, d4, d5, d6]) rfl (readPost_mk _ false HO.out rfl HF.out (fun h => by cases h) ?_)
            exact ((((((HB3.out.setCell (Nat.le_succ _) _).setCell (Nat.le_succ _) _).setCell (Nat.le_succ _) _).setCell (Nat.le_succ _) _).setCell (Nat.le_succ _) _).setCell (Nat.le_succ _) _).setCell (Nat.le_succ _) _
        · have HK := hid htk
          go_wp2
          go_region_with (go_at_call 76; refine (place_any K g HG.out _ _ _ (by omega) (by omega)).mono ?_; rintro e w2 ⟨rfl, hbp⟩; have HBP := hid (show Below wr.heap.size wr w2 from ⟨hbp.os, hbp.tape, hbp.output, hbp.size, hbp.block⟩); clear hbp)
          all_goals
            have HS0 := hid (HR0.out.of_block (HBP.out.block w.heap.size (by omega)))
            have HS1 := hid (HR1.out.of_block (HBP.out.block (w.heap.size + 1) (by omega)))
            have HS2 := hid (HR2.out.of_block (HBP.out.block (w.heap.size + 1 + 1 + 1) (by omega)))
            have HB2 := hid (HB.out.trans (HBP.out.mono HB.out.size))
            clear HBP g0 g1
            go_wp2_with (go_at_call 77; refine (take_any _ (T q) _ _ _ _ (by exact HS2.out) (by omega) (by omega) hnq.1 hnq.2).mono ?_; rintro e w3 ⟨rfl, hrow, honly⟩; obtain ⟨c0, c1, c2, c3, c4, c5, c6⟩ := row_cells hrow; have hrN := HS1.out.of_block (honly.block (w.heap.size + 1) (by omega)); obtain ⟨d0, d1, d2, d3, d4, d5, d6⟩ := row_cells hrN; have z0 := hrN.frozen 0; have z1 := hrN.frozen 1; have z2 := hrN.frozen 2; have z3 := hrN.frozen 3; have z4 := hrN.frozen 4; have z5 := hrN.frozen 5; have z6 := hrN.frozen 6; have HB3 := hid (HB2.out.trans (honly.below (B := w.heap.size) (by omega))); have HRW := hid hrow; have HRN := hid hrN; have HRG := hid (HS0.out.of_block (honly.block w.heap.size (by omega))); clear hrow honly hrN)
            go_roundw
            case rel => exact ⟨q + 1, by omega, by go_num, (fun j hj => by
              by_cases e : j = q
              · rw [e]; exact HK.out
              · exact HALL.out j (by omega)), HRG.out, HRN.out, by rw [HN.out q]; exact HRW.out, HB3.out⟩
            case measure => simp [intOf]; omega
      · have HQ := hid (show q = 3 by omega)
        clear hr0
        obtain ⟨c0, c1, c2, c3, c4, c5, c6⟩ := row_cells HR2.out
        obtain ⟨d0, d1, d2, d3, d4, d5, d6⟩ := row_cells HR1.out
        have z0 := HR1.out.frozen 0
        have z1 := HR1.out.frozen 1
        have z2 := HR1.out.frozen 2
        have z3 := HR1.out.frozen 3
        have z4 := HR1.out.frozen 4
        have z5 := HR1.out.frozen 5
        have z6 := HR1.out.frozen 6
        have HTR : Hid (Sp.dokBK K o (fun j => Sp.B x (j + 1)) = true) := by
          show Sp.dokBK K o (fun j => Sp.B x (j + 1)) = true
          have a0 := HALL.out 0 (by omega)
          have a1 := HALL.out 1 (by omega)
          have a2 := HALL.out 2 (by omega)
          rw [HD.out, a0, a1, a2]; rfl
        go_wp2_with fail
        refine bodyPost_ret (v := .tuple #[insA (T q), .bool true]) (by simp [results, Tryz.results52, go_sem, insA, d0, d1, d2, d3, d4, d5, d6]) rfl (readPost_mk _ true HO.out rfl HTR.out (fun _ => by rw [HQ.out, HTT.out]) ?_)
        exact ((((((HB.out.setCell (Nat.le_succ _) _).setCell (Nat.le_succ _) _).setCell (Nat.le_succ _) _).setCell (Nat.le_succ _) _).setCell (Nat.le_succ _) _).setCell (Nat.le_succ _) _).setCell (Nat.le_succ _) _
end Go.Proofs.YtccndnckceagfabGreatDoorR
