/-
  The program's reading of one instruction.
-/
import Derived.Test.YtnofommpgiildaaDoorDev2
namespace Go.Proofs.YtnofommpgiildaaDoor
open Go.RowKit

def insA (i : Sp.Ins) : Value := .agg #[.int .u8 i.o, .int .i64 i.d, .int .i64 i.x, .int .i64 i.y, .int .i64 i.n, .int .i64 i.k, .int .i64 i.m]

theorem row_cells {w : World} {b t : Nat} {i : Sp.Ins} (h : w.rowIs b t 7 (insF i)) : w.cell? ⟨b, 0, none⟩ = some (.int .u8 i.o) ∧ w.cell? ⟨b, 1, none⟩ = some (.int .i64 i.d) ∧ w.cell? ⟨b, 2, none⟩ = some (.int .i64 i.x) ∧ w.cell? ⟨b, 3, none⟩ = some (.int .i64 i.y) ∧ w.cell? ⟨b, 4, none⟩ = some (.int .i64 i.n) ∧ w.cell? ⟨b, 5, none⟩ = some (.int .i64 i.k) ∧ w.cell? ⟨b, 6, none⟩ = some (.int .i64 i.m) :=
  ⟨h.cell (i := 0) (by omega), h.cell (i := 1) (by omega), h.cell (i := 2) (by omega), h.cell (i := 3) (by omega), h.cell (i := 4) (by omega), h.cell (i := 5) (by omega), h.cell (i := 6) (by omega)⟩

def ReadPost (x : ByteArray) (w : World) (e : Ending) (w' : World) : Prop :=
  ∃ i ok, e = .returned (.tuple #[insA i, .bool ok]) ∧ ok = Sp.dokB (Sp.B x 0) (fun j => Sp.B x (j + 1)) ∧ (ok = true → i = Sp.tkN (Sp.B x 0) (fun j => Sp.B x (j + 1)) 3) ∧ Below w.heap.size w w'
theorem readPost_mk {x : ByteArray} {w : World} {e : Ending} {w' : World} (i : Sp.Ins) (ok : Bool) {o : Int} (ho : Sp.B x 0 = o) (he : e = .returned (.tuple #[insA i, .bool ok])) (h1 : Sp.dokB o (fun j => Sp.B x (j + 1)) = ok) (h2 : ok = true → i = Sp.tkN o (fun j => Sp.B x (j + 1)) 3) (h3 : Below w.heap.size w w') : ReadPost x w e w' := by
  subst ho
  exact ⟨i, ok, he, h1.symm, h2, h3⟩

set_option maxHeartbeats 2000000 in
theorem readIns_any (x : ByteArray) (w : World) (hx : x.size = 4) :
    Calls Tryd.prog 41 #[.string x] w fun e w' => ReadPost x w e w' := by
  have hx0 := Sp.B_get x 0 (by omega)
  have hb0 := Sp.B_bd x 0
  obtain ⟨o, hO⟩ : ∃ o, Sp.B x 0 = o := ⟨_, rfl⟩
  rw [hO] at hx0 hb0
  have HO := hid hO
  clear hO
  rcases Sp.dshp_size o with hz | hz
  · have HD := hid (show Sp.dokB o (fun j => Sp.B x (j + 1)) = false by simp [Sp.dokB, hz])
    generalize hS : Sp.dshp o = sh at *
    have HS := hid hS
    clear hS
    go_enter Tryd.func41, Tryd.ntmps41
    go_wp2_with (first | (go_at_call 58; refine (dshape_any _ _).mono ?_; rintro e w' ⟨rfl, rfl⟩; rw [HS.out]))
    refine bodyPost_ret (v := .tuple #[insA ⟨o, -1, -1, -1, 0, -1, -1⟩, .bool false]) (by simp [results, Tryd.results41, go_sem, insA]) rfl (readPost_mk _ false HO.out rfl HD.out (fun h => by cases h) ?_)
    exact ((Below.refl _ _).alloc (Nat.le_refl _) _).alloc (by simp) _
  · have hb1 := Sp.B_bd x 1
    have hb2 := Sp.B_bd x 2
    have hb3 := Sp.B_bd x 3
    have HD := hid (show Sp.dokB o (fun j => Sp.B x (j + 1)) = (Sp.tkB (Sp.B (Sp.dshp o) 0) (Sp.B x 1) && Sp.tkB (Sp.B (Sp.dshp o) 1) (Sp.B x 2) && Sp.tkB (Sp.B (Sp.dshp o) 2) (Sp.B x 3)) by simp [Sp.dokB, hz])
    have HN : Hid (∀ q, Sp.tkN o (fun j => Sp.B x (j + 1)) (q + 1) = Sp.tkI (Sp.tkN o (fun j => Sp.B x (j + 1)) q) (Sp.B (Sp.dshp o) q) (Sp.B x (q + 1))) := hid (fun q => rfl)
    have HNB := hid (fun q (h : q ≤ 2) => Sp.tkN_n o (fun j => Sp.B x (j + 1)) q h)
    have HT0 : Hid (Sp.tkN o (fun j => Sp.B x (j + 1)) 0 = ⟨o, -1, -1, -1, 0, -1, -1⟩) := hid rfl
    obtain ⟨T, hT⟩ : ∃ T, T = Sp.tkN o (fun j => Sp.B x (j + 1)) := ⟨_, rfl⟩
    rw [← hT] at HN HNB HT0
    have HTT := hid hT
    clear hT
    generalize hS : Sp.dshp o = sh at *
    have HS := hid hS
    clear hS
    have hz0 : ((sh.size : Int) == 0) = false := beq_eq_false_iff_ne.2 (by omega)
    go_enter Tryd.func41, Tryd.ntmps41
    go_wp2_with (first | (go_at_call 58; refine (dshape_any _ _).mono ?_; rintro e w' ⟨rfl, rfl⟩; rw [HS.out]))
    go_loopw [6] (fun kv wr => ∃ q : Nat, q ≤ 3 ∧ kv = .int .i64 q ∧ (∀ j, j < q → Sp.tkB (Sp.B sh j) (Sp.B x (j + 1)) = true) ∧ wr.rowIs w.heap.size 68 7 (insF ⟨0, 0, 0, 0, 0, 0, 0⟩) ∧ wr.rowIs (w.heap.size + 1) 68 7 (insF (T q)) ∧ Below w.heap.size w wr) (fun kv _ => 3 - (intOf kv).toNat)
    case atStart =>
      refine ⟨0, by omega, rfl, fun j hj => by omega, ?_, ?_, ?_⟩
      · refine (World.rowIs_alloc w #[.int .u8 0, .int .i64 0, .int .i64 0, .int .i64 0, .int .i64 0, .int .i64 0, .int .i64 0] 68 (insF ⟨0, 0, 0, 0, 0, 0, 0⟩) (fun j hj => ?_)).alloc _
        have hj' : j = 0 ∨ j = 1 ∨ j = 2 ∨ j = 3 ∨ j = 4 ∨ j = 5 ∨ j = 6 := by simp at hj; omega
        rcases hj' with rfl | rfl | rfl | rfl | rfl | rfl | rfl <;> rfl
      · rw [HT0.out]
        have hsz : (w.alloc (.cells #[.int .u8 0, .int .i64 0, .int .i64 0, .int .i64 0, .int .i64 0, .int .i64 0, .int .i64 0] 68)).heap.size = w.heap.size + 1 := by simp
        rw [← hsz]
        refine World.rowIs_alloc (w.alloc (.cells #[.int .u8 0, .int .i64 0, .int .i64 0, .int .i64 0, .int .i64 0, .int .i64 0, .int .i64 0] 68)) #[.int .u8 o, .int .i64 (-1), .int .i64 (-1), .int .i64 (-1), .int .i64 0, .int .i64 (-1), .int .i64 (-1)] 68 (insF ⟨o, -1, -1, -1, 0, -1, -1⟩) (fun j hj => ?_)
        have hj' : j = 0 ∨ j = 1 ∨ j = 2 ∨ j = 3 ∨ j = 4 ∨ j = 5 ∨ j = 6 := by simp at hj; omega
        rcases hj' with rfl | rfl | rfl | rfl | rfl | rfl | rfl <;> rfl
      · exact ((Below.refl _ _).alloc (Nat.le_refl _) _).alloc (by simp) _
    case round =>
      obtain ⟨q, hq, rfl, hall, hr0, hr1, hbel⟩ := hrel
      have HALL := hid hall
      have HR0 := hid hr0
      have HR1 := hid hr1
      have HB := hid hbel
      clear hall hr0 hr1 hbel
      by_cases hq3 : q < 3
      · have hsq := Sp.B_get sh q (by omega)
        have hxq := Sp.B_get x (q + 1) (by omega)
        have hbq := Sp.B_bd x (q + 1)
        have hnq := HNB.out q (by omega)
        have hix : ∀ W : World, (Instr.index 9 (.string x) (.int .i64 (IntKind.i64.wrap ((q : Int) + 1)))).run Tryd.prog W = .ok (.int .u8 (Sp.B x (q + 1))) W := by
          intro W
          rw [run_index_string W 9 x .i64 _ Tryd.underlying9, IntWalk.i64_in _ (by omega), dif_pos (by omega)]
          exact congrArg (fun z => Result.ok (Value.int .u8 z) W) hxq
        cases htk : Sp.tkB (Sp.B sh q) (Sp.B x (q + 1))
        · have HK := hid htk
          have HF : Hid (Sp.dokB o (fun j => Sp.B x (j + 1)) = false) := by
            show Sp.dokB o (fun j => Sp.B x (j + 1)) = false
            rw [HD.out]
            have : q = 0 ∨ q = 1 ∨ q = 2 := by omega
            rcases this with rfl | rfl | rfl <;> simp [htk]
          go_wp2
          go_region_with (go_at_call 59; refine (take_any _ (T q) _ _ _ (by exact HR1.out) (by omega) (by omega) hnq.1 hnq.2).mono ?_; rintro e w1 ⟨rfl, hrow, honly⟩)
          all_goals
            obtain ⟨c0, c1, c2, c3, c4, c5, c6⟩ := row_cells hrow
            have hrN := HR0.out.of_block (honly.block w.heap.size (by omega))
            obtain ⟨d0, d1, d2, d3, d4, d5, d6⟩ := row_cells hrN
            have z0 := hrN.frozen 0
            have z1 := hrN.frozen 1
            have z2 := hrN.frozen 2
            have z3 := hrN.frozen 3
            have z4 := hrN.frozen 4
            have z5 := hrN.frozen 5
            have z6 := hrN.frozen 6
            have HB1 := hid (HB.out.drew.trans (honly.below (B := w.heap.size) (by omega)))
            clear hrow honly hrN
            generalize Sp.tkI (T q) (Sp.B sh q) (Sp.B x (q + 1)) = I at *
            go_wp2_with fail
            refine bodyPost_ret (v := .tuple #[insA I, .bool false]) (by simp [results, Tryd.results41, go_sem, insA, d0, d1, d2, d3, d4, d5, d6]) rfl (readPost_mk _ false HO.out rfl HF.out (fun h => by cases h) ?_)
            exact ((((((HB1.out.setCell (Nat.le_refl _) _).setCell (Nat.le_refl _) _).setCell (Nat.le_refl _) _).setCell (Nat.le_refl _) _).setCell (Nat.le_refl _) _).setCell (Nat.le_refl _) _).setCell (Nat.le_refl _) _
        · have HK := hid htk
          go_wp2
          go_region_with (go_at_call 59; refine (take_any _ (T q) _ _ _ (by exact HR1.out) (by omega) (by omega) hnq.1 hnq.2).mono ?_; rintro e w1 ⟨rfl, hrow, honly⟩)
          all_goals
            have HRN := hid (HR0.out.of_block (honly.block w.heap.size (by omega)))
            have HB1 := hid (HB.out.drew.trans (honly.below (B := w.heap.size) (by omega)))
            have HRW := hid hrow
            clear hrow honly
            go_wp2_with fail
            go_roundw
            case rel => exact ⟨q + 1, by omega, by go_num, (fun j hj => by
              by_cases e : j = q
              · rw [e]; exact HK.out
              · exact HALL.out j (by omega)), HRN.out, by rw [HN.out q]; exact HRW.out, HB1.out⟩
            case measure => simp [intOf]; omega
      · have HQ := hid (show q = 3 by omega)
        obtain ⟨c0, c1, c2, c3, c4, c5, c6⟩ := row_cells HR1.out
        obtain ⟨d0, d1, d2, d3, d4, d5, d6⟩ := row_cells HR0.out
        have z0 := HR0.out.frozen 0
        have z1 := HR0.out.frozen 1
        have z2 := HR0.out.frozen 2
        have z3 := HR0.out.frozen 3
        have z4 := HR0.out.frozen 4
        have z5 := HR0.out.frozen 5
        have z6 := HR0.out.frozen 6
        have HTR : Hid (Sp.dokB o (fun j => Sp.B x (j + 1)) = true) := by
          show Sp.dokB o (fun j => Sp.B x (j + 1)) = true
          have a0 := HALL.out 0 (by omega)
          have a1 := HALL.out 1 (by omega)
          have a2 := HALL.out 2 (by omega)
          rw [HD.out, a0, a1, a2]; rfl
        go_wp2_with fail
        refine bodyPost_ret (v := .tuple #[insA (T q), .bool true]) (by simp [results, Tryd.results41, go_sem, insA, d0, d1, d2, d3, d4, d5, d6]) rfl (readPost_mk _ true HO.out rfl HTR.out (fun _ => by rw [HQ.out, HTT.out]) ?_)
        exact ((((((HB.out.setCell (Nat.le_refl _) _).setCell (Nat.le_refl _) _).setCell (Nat.le_refl _) _).setCell (Nat.le_refl _) _).setCell (Nat.le_refl _) _).setCell (Nat.le_refl _) _).setCell (Nat.le_refl _) _
end Go.Proofs.YtnofommpgiildaaDoor
