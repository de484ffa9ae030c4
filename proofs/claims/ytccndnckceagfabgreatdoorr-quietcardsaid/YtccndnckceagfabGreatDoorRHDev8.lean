/-
  The program's reading of a whole text.
-/
import Derived.Test.YtccndnckceagfabGreatDoorRHDev5
import Derived.Test.YtccndnckceagfabGreatDoorRHDev7
import Derived.Test.YtccndnckceagfabGreatDoorRHDSpecK
namespace Go.Proofs.YtccndnckceagfabGreatDoorR
open Go.RowKit

/-- what the program's reading of the text s for a machine of K registers (0: of a source program) leaves -/
def RdPost (K : Int) (s : ByteArray) (w : World) (e : Ending) (w' : World) : Prop :=
  ∃ vC vB ok, e = .returned (.tuple #[.agg #[vC, vB], .bool ok]) ∧ ok = Sp.progB (Sp.B s) s.size K ∧ (ok = true → w'.ownsRow w.heap.size 74 7 vC (s.size / 4) (insV (Sp.codeK K (Sp.B s) (s.size / 4))) ∧ w'.ownsRow w.heap.size 117 2 vB (Sp.blocksTo (Sp.B s) (s.size / 4)) (blkV (Sp.blksTo (Sp.B s) (s.size / 4))) ∧ (Sp.blksTo (Sp.B s) (s.size / 4) = [] → vB = .slice none 0 0)) ∧ Below w.heap.size w w' ∧ (∃ a n c, vC = .slice a n c) ∧ (∃ a n c, vB = .slice a n c)
theorem rdPost_no {K : Int} {s : ByteArray} {w : World} {e : Ending} {w' : World} (he : e = .returned (.tuple #[.agg #[.slice none 0 0, .slice none 0 0], .bool false])) (h : Sp.progB (Sp.B s) s.size K = false) (hb : Below w.heap.size w w') : RdPost K s w e w' :=
  ⟨_, _, false, he, h.symm, (fun h => by cases h), hb, ⟨_, _, _, rfl⟩, ⟨_, _, _, rfl⟩⟩

theorem read_ins (K : Int) (g : Bool) (hg : g = decide (K ≠ 0)) (s : ByteArray) (k : Nat) (w : World) (h : 4 * k + 4 ≤ s.size) :
    Calls Tryz.prog 52 #[.agg #[.bool g, .int .i64 K], .string (s.extract (4 * k) (4 * k + 4))] w fun e w' => ∃ i ok, e = .returned (.tuple #[.agg #[.int .u8 i.o, .int .i64 i.d, .int .i64 i.x, .int .i64 i.y, .int .i64 i.n, .int .i64 i.k, .int .i64 i.m], .bool ok]) ∧ ok = Sp.dokK K (Sp.B s) k ∧ (ok = true → i = Sp.insK K (Sp.B s) k) ∧ Below w.heap.size w w' := by
  have hx := Sp.insAt_ext s k h
  refine (readIns_any K g hg _ w hx.size).mono ?_
  rintro e w' ⟨i, ok, rfl, h1, h2, h3⟩
  have e1 : ∀ j, j < 3 → Sp.B (s.extract (4 * k) (4 * k + 4)) (j + 1) = Sp.B s (4 * k + j + 1) := fun j hj => hx.all (j + 1) (by omega)
  refine ⟨i, ok, rfl, ?_, fun h => ?_, h3⟩
  · rw [h1, hx.B0]; exact Sp.dokBK_congr e1
  · rw [h2 h, hx.B0]; exact Sp.tkNK_congr 3 e1
theorem set_seven {w : World} {b : Nat} (h : w.rowIs b 74 7 (insF ⟨0, 0, 0, 0, 0, 0, 0⟩)) (i : Sp.Ins) : (((((((w.setCell ⟨b, 0, none⟩ (.int .u8 i.o)).setCell ⟨b, 1, none⟩ (.int .i64 i.d)).setCell ⟨b, 2, none⟩ (.int .i64 i.x)).setCell ⟨b, 3, none⟩ (.int .i64 i.y)).setCell ⟨b, 4, none⟩ (.int .i64 i.n)).setCell ⟨b, 5, none⟩ (.int .i64 i.k)).setCell ⟨b, 6, none⟩ (.int .i64 i.m)).rowIs b 74 7 (insF i) :=
  (((((((h.set 0 _).set 1 _).set 2 _).set 3 _).set 4 _).set 5 _).set 6 _).congr fun j hj => by
    have hj' : j = 0 ∨ j = 1 ∨ j = 2 ∨ j = 3 ∨ j = 4 ∨ j = 5 ∨ j = 6 := by omega
    rcases hj' with rfl | rfl | rfl | rfl | rfl | rfl | rfl <;> rfl
theorem below_seven (w : World) {b B : Nat} (hB : B ≤ b) (i : Sp.Ins) : Below B w (((((((w.setCell ⟨b, 0, none⟩ (.int .u8 i.o)).setCell ⟨b, 1, none⟩ (.int .i64 i.d)).setCell ⟨b, 2, none⟩ (.int .i64 i.x)).setCell ⟨b, 3, none⟩ (.int .i64 i.y)).setCell ⟨b, 4, none⟩ (.int .i64 i.n)).setCell ⟨b, 5, none⟩ (.int .i64 i.k)).setCell ⟨b, 6, none⟩ (.int .i64 i.m)) :=
  (((((((Below.refl B w).setCell hB _).setCell hB _).setCell hB _).setCell hB _).setCell hB _).setCell hB _).setCell hB _
theorem below_new1 {w w1 : World} {X : Obj} (h : Below ((w.alloc X).drew).heap.size ((w.alloc X).drew) w1) : Below w.heap.size w w1 :=
  ((Below.refl _ _).alloc (Nat.le_refl _) X).trans ⟨h.os, h.tape, h.output, h.size, fun k hk => h.block k (by simp; omega)⟩
theorem below_drew0 {w w1 : World} (h : Below w.drew.heap.size w.drew w1) : Below w.heap.size w w1 := ⟨h.os, h.tape, h.output, h.size, h.block⟩
theorem row_nils (w : World) : (w.alloc (.cells #[.slice none 0 0, .slice none 0 0] 47)).rowIs w.heap.size 47 2 (fun _ => .slice none 0 0) :=
  World.rowIs_alloc w #[.slice none 0 0, .slice none 0 0] 47 _ (fun j hj => by
    have hj' : j = 0 ∨ j = 1 := by simp at hj; omega
    rcases hj' with rfl | rfl <;> rfl)
theorem But.below {B p N : Nat} {u v : World} (h : But B p u v) (hp : N ≤ p) (hN : N ≤ B) : Below N u v := ⟨h.os, h.tape, h.output, h.size, fun k hk => h.block k (by omega) (by omega)⟩
theorem own_base {w : World} {B B' e size n : Nat} {v : Value} {xs : List Value} (h : w.ownsRow B e size v n xs) (hB : B' ≤ B) : w.ownsRow B' e size v n xs := by
  obtain ⟨h1, h2⟩ := h
  refine ⟨h1, ?_⟩
  rcases h2 with h2 | ⟨g, cap, cur, rfl, hg, r⟩
  · exact Or.inl h2
  · exact Or.inr ⟨g, cap, cur, rfl, by omega, r⟩

set_option maxHeartbeats 4000000 in
theorem gread_any (K : Int) (hK : 0 ≤ K) (g : Bool) (hg : g = decide (K ≠ 0)) (s : ByteArray) (w : World) (hs : s.size ≤ 4096) :
    Calls Tryz.prog 33 #[.agg #[.bool g, .int .i64 K], .string s] w fun e w' => RdPost K s w e w' := by
  have HG := hid hg
  clear hg
  by_cases h4 : s.size % 4 = 0
  · have h4' : ((s.size : Int) % 4 != 0) = false := by simp; omega
    go_enter Tryz.func33, Tryz.ntmps33
    go_wp2_with fail
    go_loopw [7] (fun kv wr => ∃ k : Nat, k ≤ s.size / 4 ∧ kv = .int .i64 (4 * (k : Int)) ∧ (∀ i, i < k → Sp.dokK K (Sp.B s) i = true) ∧ ProgAt wr (w.heap.size + 3) (w.heap.size + 1 + 1) (Sp.codeK K (Sp.B s) k) (Sp.blksTo (Sp.B s) k) ∧ wr.rowIs w.heap.size 78 2 (fun j => if j = 0 then .bool g else .int .i64 K) ∧ wr.rowIs (w.heap.size + 1) 47 2 (fun _ => .slice none 0 0) ∧ w.heap.size + 3 ≤ wr.heap.size ∧ Below w.heap.size w wr) (fun kv _ => s.size / 4 - (intOf kv / 4).toNat)
    case atStart =>
      have hsz : ((w.alloc (.cells #[.bool g, .int .i64 K] 78)).alloc (.cells #[.slice none 0 0, .slice none 0 0] 47)).heap.size = w.heap.size + 1 + 1 := by simp
      refine ⟨0, by omega, by simp, (fun i hi => by omega), ⟨.slice none 0 0, .slice none 0 0, ?_, World.ownsRow_nil _ _ _ _, World.ownsRow_nil _ _ _ _, fun _ => rfl⟩, ((row_gram w g K).alloc _).alloc _, ?_, by simp, ?_⟩
      · rw [← hsz]
        exact (row_nils _).congr (fun j hj => by by_cases e : j = 0 <;> simp [e])
      · have := (row_nils (w.alloc (.cells #[.bool g, .int .i64 K] 78))).alloc (.cells #[.slice none 0 0, .slice none 0 0] 47)
        simpa using this
      · exact (((Below.refl _ _).alloc (Nat.le_refl _) _).alloc (by simp) _).alloc (by simp; omega) _
    case round =>
      obtain ⟨k, hk, rfl, hall, hP, hgr, hrow, hsz, hbel⟩ := hrel
      have g0 := hgr.cell (i := 0) (by omega)
      have g1 := hgr.cell (i := 1) (by omega)
      have HGR := hid hgr
      clear hgr
      have HALL := hid hall
      have HP := hid hP
      have HR := hid hrow
      have HB := hid hbel
      clear hall hP hrow hbel
      by_cases hlt : k < s.size / 4
      · have hsl : ∀ W : World, (Instr.slice 9 (.string s) (some (.int .i64 (4 * (k : Int)))) (some (.int .i64 (IntKind.i64.wrap (4 * (k : Int) + 4)))) none).run Tryz.prog W = .ok (.string (s.extract (4 * k) (4 * k + 4))) W := by
          intro W
          rw [IntWalk.i64_in _ (by omega), run_slice_string W 9 s .i64 .i64 (4 * (k : Int)) (4 * (k : Int) + 4) Tryz.underlying9 (by omega) (by omega) (by omega)]
          rw [show (4 * (k : Int)).toNat = 4 * k by omega, show (4 * (k : Int) + 4).toNat = 4 * k + 4 by omega]
        have hlt0 : w.heap.size < wr.heap.size := by omega
        have hne0 : w.heap.size ≠ wr.heap.size := by omega
        go_wp2_with fail
        go_region_with (go_at_call 52; refine (read_ins K g HG.out s k _ (by omega)).mono ?_; rintro e w1 ⟨i, ok, rfl, hok, hi, hb1⟩; subst hok; have HI := hid hi; (first | (have hzz := (row_seven wr 0 0 0 0 0 0 0).of_block (hb1.block wr.heap.size (by simp)); have y0 := hzz.frozen 0; have y1 := hzz.frozen 1; have y2 := hzz.frozen 2; have y3 := hzz.frozen 3; have y4 := hzz.frozen 4; have y5 := hzz.frozen 5; have y6 := hzz.frozen 6; obtain ⟨x0, x1, x2, x3, x4, x5, x6⟩ := row_cells hzz; have HZZ := hid hzz; clear hzz) | (have hzz := row_seven w1 0 0 0 0 0 0 0; have y0 := hzz.frozen 0; have y1 := hzz.frozen 1; have y2 := hzz.frozen 2; have y3 := hzz.frozen 3; have y4 := hzz.frozen 4; have y5 := hzz.frozen 5; have y6 := hzz.frozen 6; clear hzz)); have HB1 := hid hb1; clear hi hb1)
        all_goals
          first
          | (have R3 := hid (set_seven HZZ.out i)
             have B3 := hid ((below_new1 HB1.out).trans (below_seven w1 (Nat.le_refl wr.heap.size) i))
             clear y0 y1 y2 y3 y4 y5 y6 x0 x1 x2 x3 x4 x5 x6 HZZ HB1
             generalize (((((((w1.setCell ⟨wr.heap.size, 0, none⟩ (.int .u8 i.o)).setCell ⟨wr.heap.size, 1, none⟩ (.int .i64 i.d)).setCell ⟨wr.heap.size, 2, none⟩ (.int .i64 i.x)).setCell ⟨wr.heap.size, 3, none⟩ (.int .i64 i.y)).setCell ⟨wr.heap.size, 4, none⟩ (.int .i64 i.n)).setCell ⟨wr.heap.size, 5, none⟩ (.int .i64 i.k)).setCell ⟨wr.heap.size, 6, none⟩ (.int .i64 i.m)) = w3 at *
             generalize hq : wr.heap.size = q at R3 ⊢)
          | (have R3 := hid (row_seven w1 i.o i.d i.x i.y i.n i.k i.m)
             have B3 := hid ((below_drew0 HB1.out).alloc HB1.out.size (.cells #[.int .u8 i.o, .int .i64 i.d, .int .i64 i.x, .int .i64 i.y, .int .i64 i.n, .int .i64 i.k, .int .i64 i.m] 74))
             clear y0 y1 y2 y3 y4 y5 y6 HB1
             generalize w1.alloc (.cells #[.int .u8 i.o, .int .i64 i.d, .int .i64 i.x, .int .i64 i.y, .int .i64 i.n, .int .i64 i.k, .int .i64 i.m] 74) = w3 at *
             generalize hq : w1.heap.size = q at R3 ⊢)
          have hszq : q < w3.heap.size := R3.out.lt
          have hs3 := B3.out.size
          obtain ⟨c0, c1, c2, c3, c4, c5, c6⟩ := row_cells R3.out
          have hr3 := HR.out.of_block (B3.out.block (w.heap.size + 1) (by omega))
          have d0 := hr3.cell (i := 0) (by omega)
          have d1 := hr3.cell (i := 1) (by omega)
          have z0 := hr3.frozen 0
          have z1 := hr3.frozen 1
          have HR3 := hid hr3
          have HG3 := hid (HGR.out.of_block (B3.out.block w.heap.size (by omega)))
          have HBW := hid (HB.out.trans (B3.out.mono HB.out.size))
          have HP3 := hid (HP.out.move B3.out)
          clear hr3 g0 g1 hq
          cases hdk : Sp.dokK K (Sp.B s) k
          · have HDK := hid hdk
            clear hdk
            go_wp2_with fail
            refine bodyPost_ret (v := .tuple #[.agg #[.slice none 0 0, .slice none 0 0], .bool false]) (by simp [results, Tryz.results33, go_sem, d0, d1]) rfl (rdPost_no rfl (Sp.progK_bad K hK _ _ k hlt HDK.out) ?_)
            exact (HBW.out.setCell (Nat.le_succ _) _).setCell (Nat.le_succ _) _
          · have HDK := hid hdk
            have hi' := HI.out hdk
            have HI' := hid hi'
            clear hdk hi'
            cases hend : Sp.endB i.o
            · have HE := hid hend
              clear hend
              go_wp2_with fail
              refine (add_code (w.heap.size + 3) (w.heap.size + 1 + 1) (Sp.codeK K (Sp.B s) k) (Sp.blksTo (Sp.B s) k) _ _ _ _ _ _ _ _ (by exact HP3.out) (by omega) (by omega) (by rw [Sp.codeK_len]; omega) HE.out).mono ?_
              rintro e w2 ⟨rfl, hP2, hb2⟩
              have HP2 := hid hP2
              have HB2 := hid hb2
              clear hP2 hb2
              go_wp2_with fail
              go_roundw
              case rel =>
                have hi' := HI'.out
                have eo : Sp.endB (Sp.B s (4 * k)) = false := by have h := HE.out; rw [hi', Sp.insK_o] at h; exact h
                refine ⟨k + 1, by omega, by go_num, (fun j hj => ?_), ?_, HG3.out.of_block (HB2.out.block _ (by omega) (by omega)), HR3.out.of_block (HB2.out.block _ (by omega) (by omega)), Nat.le_trans (by omega) HB2.out.size, ?_⟩
                · by_cases e : j = k
                  · rw [e]; exact HDK.out
                  · exact HALL.out j (by omega)
                · rw [Sp.codeK_succ, show Sp.blksTo (Sp.B s) (k + 1) = Sp.blksTo (Sp.B s) k from by simp only [Sp.blksTo]; rw [eo]; rfl, ← hi']
                  exact HP2.out
                · exact HBW.out.trans (HB2.out.below (by omega) (by omega))
              case measure => simp [intOf]; omega
            · have HE := hid hend
              clear hend
              go_wp2_with fail
              refine (add_end (w.heap.size + 3) (w.heap.size + 1 + 1) (Sp.codeK K (Sp.B s) k) (Sp.blksTo (Sp.B s) k) _ _ _ _ _ _ _ _ (by exact HP3.out) (by omega) (by omega) (by rw [Sp.codeK_len]; omega) HE.out (by rw [Sp.blksTo_len]; have := Sp.blocksTo_le (Sp.B s) k; omega) (fun b hb => by have := Sp.blksTo_lt (Sp.B s) k b hb; omega)).mono ?_
              rintro e w2 ⟨rfl, hP2, hb2⟩
              have HP2 := hid hP2
              have HB2 := hid hb2
              clear hP2 hb2
              go_wp2_with fail
              go_roundw
              case rel =>
                have hi' := HI'.out
                have eo : Sp.endB (Sp.B s (4 * k)) = true := by have h := HE.out; rw [hi', Sp.insK_o] at h; exact h
                refine ⟨k + 1, by omega, by go_num, (fun j hj => ?_), ?_, HG3.out.of_block (HB2.out.block _ (by omega) (by omega)), HR3.out.of_block (HB2.out.block _ (by omega) (by omega)), Nat.le_trans (by omega) HB2.out.size, ?_⟩
                · by_cases e : j = k
                  · rw [e]; exact HDK.out
                  · exact HALL.out j (by omega)
                · have hP3 := HP2.out
                  rw [Sp.codeK_len] at hP3
                  rw [Sp.codeK_succ, show Sp.blksTo (Sp.B s) (k + 1) = Sp.blksTo (Sp.B s) k ++ [(((Sp.blksTo (Sp.B s) k).getLast?.map (fun b => b.2 + 1)).getD 0, k)] from by simp only [Sp.blksTo]; rw [if_pos eo], ← hi']
                  exact hP3
                · exact HBW.out.trans (HB2.out.below (by omega) (by omega))
              case measure => simp [intOf]; omega
      · obtain rfl : k = s.size / 4 := by omega
        have hll := Sp.blksTo_len (Sp.B s) (s.size / 4)
        have hble := Sp.blocksTo_le (Sp.B s) (s.size / 4)
        have HLL := hid hll
        clear hll
        by_cases hnone : Sp.blksTo (Sp.B s) (s.size / 4) = []
        · have HPN : Hid (Sp.progB (Sp.B s) s.size K = false) := by
            show Sp.progB (Sp.B s) s.size K = false
            by_cases h0 : s.size = 0
            · simp [Sp.progB, h0]
            · cases he : Sp.endB (Sp.B s (4 * (s.size / 4 - 1)))
              · exact Sp.progK_open K _ _ he
              · have := Sp.blocks_pos _ _ (show 1 ≤ s.size / 4 by omega) he
                rw [← HLL.out, hnone] at this
                simp at this
          have HPP := hid (show ProgAt wr (w.heap.size + 3) (w.heap.size + 1 + 1) (Sp.codeK K (Sp.B s) (s.size / 4)) [] by rw [← hnone]; exact HP.out)
          clear hnone
          go_wp2_with fail
          refine (isWhole_none _ _ _ _ HPP.out).mono ?_
          rintro e w1 ⟨rfl, hb1⟩
          have HB1 := hid hb1
          have hr1 := HR.out.of_block (HB1.out.block _ HR.out.lt)
          have d0 := hr1.cell (i := 0) (by omega)
          have d1 := hr1.cell (i := 1) (by omega)
          have z0 := hr1.frozen 0
          have z1 := hr1.frozen 1
          clear hr1 hb1
          go_wp2_with fail
          refine bodyPost_ret (v := .tuple #[.agg #[.slice none 0 0, .slice none 0 0], .bool false]) (by simp [results, Tryz.results33, go_sem, d0, d1]) rfl (rdPost_no rfl HPN.out ?_)
          exact ((HB.out.trans (HB1.out.mono HB.out.size)).setCell (Nat.le_succ _) _).setCell (Nat.le_succ _) _
        · have hpos : 1 ≤ Sp.blocksTo (Sp.B s) (s.size / 4) := by
            rw [← HLL.out]
            exact Nat.pos_of_ne_zero (fun h => hnone (List.eq_nil_of_length_eq_zero h))
          clear hnone
          by_cases h10 : 10 < Sp.blocksTo (Sp.B s) (s.size / 4)
          · go_wp2_with fail
            refine (isWhole_many _ _ _ _ _ HP.out (by rw [HLL.out]; exact h10) (by rw [HLL.out]; omega)).mono ?_
            rintro e w1 ⟨rfl, hb1⟩
            have HB1 := hid hb1
            have hr1 := HR.out.of_block (HB1.out.block _ HR.out.lt)
            have d0 := hr1.cell (i := 0) (by omega)
            have d1 := hr1.cell (i := 1) (by omega)
            have z0 := hr1.frozen 0
            have z1 := hr1.frozen 1
            clear hr1 hb1
            go_wp2_with fail
            refine bodyPost_ret (v := .tuple #[.agg #[.slice none 0 0, .slice none 0 0], .bool false]) (by simp [results, Tryz.results33, go_sem, d0, d1]) rfl (rdPost_no rfl (Sp.progK_many K _ _ h10) ?_)
            exact ((HB.out.trans (HB1.out.mono HB.out.size)).setCell (Nat.le_succ _) _).setCell (Nat.le_succ _) _
          · cases he : Sp.endB (Sp.B s (4 * (s.size / 4 - 1)))
            · have HE := hid he
              clear he
              go_wp2_with fail
              refine (isWhole_open _ _ _ _ _ HP.out (by rw [Sp.codeK_len]; omega) (by rw [HLL.out]; omega) (by rw [HLL.out]; omega) (by rw [Sp.codeK_len]; omega) (by rw [Sp.codeK_len]; exact Sp.blksTo_no _ _ (by omega) HE.out _)).mono ?_
              rintro e w1 ⟨rfl, hb1⟩
              have HB1 := hid hb1
              have hr1 := HR.out.of_block (HB1.out.block _ HR.out.lt)
              have d0 := hr1.cell (i := 0) (by omega)
              have d1 := hr1.cell (i := 1) (by omega)
              have z0 := hr1.frozen 0
              have z1 := hr1.frozen 1
              clear hr1 hb1
              go_wp2_with fail
              refine bodyPost_ret (v := .tuple #[.agg #[.slice none 0 0, .slice none 0 0], .bool false]) (by simp [results, Tryz.results33, go_sem, d0, d1]) rfl (rdPost_no rfl (Sp.progK_open K _ _ HE.out) ?_)
              exact ((HB.out.trans (HB1.out.mono HB.out.size)).setCell (Nat.le_succ _) _).setCell (Nat.le_succ _) _
            · have HE := hid he
              clear he
              go_wp2_with fail
              refine (isWhole_loop _ _ _ _ _ HP.out (by rw [Sp.codeK_len]; omega) (by rw [HLL.out]; omega) (by rw [HLL.out]; omega) (by rw [Sp.codeK_len]; omega) (by rw [Sp.codeK_len]; exact Sp.blksTo_end _ _ (by omega) HE.out _)).mono ?_
              rintro e w1 ⟨rfl, hb1⟩
              have HPB : Hid (Sp.progB (Sp.B s) s.size K = (Sp.codeK K (Sp.B s) (s.size / 4)).all fun i => Sp.isTgt i.k ((Sp.blksTo (Sp.B s) (s.size / 4)).length : Nat) && Sp.isTgt i.m ((Sp.blksTo (Sp.B s) (s.size / 4)).length : Nat)) := by
                show Sp.progB (Sp.B s) s.size K = _
                rw [HLL.out]
                exact Sp.progK_all K hK _ _ (by omega) h4 HALL.out (by omega) HE.out
              generalize ((Sp.codeK K (Sp.B s) (s.size / 4)).all fun i => Sp.isTgt i.k ((Sp.blksTo (Sp.B s) (s.size / 4)).length : Nat) && Sp.isTgt i.m ((Sp.blksTo (Sp.B s) (s.size / 4)).length : Nat)) = ok at *
              have HB1 := hid hb1
              have hr1 := HR.out.of_block (HB1.out.block _ HR.out.lt)
              have d0 := hr1.cell (i := 0) (by omega)
              have d1 := hr1.cell (i := 1) (by omega)
              have z0 := hr1.frozen 0
              have z1 := hr1.frozen 1
              clear hr1 hb1
              cases ok
              · go_wp2_with fail
                refine bodyPost_ret (v := .tuple #[.agg #[.slice none 0 0, .slice none 0 0], .bool false]) (by simp [results, Tryz.results33, go_sem, d0, d1]) rfl (rdPost_no rfl HPB.out ?_)
                exact ((HB.out.trans (HB1.out.mono HB.out.size)).setCell (Nat.le_succ _) _).setCell (Nat.le_succ _) _
              · obtain ⟨vC, vB, p1, p2, p3, p4⟩ := HP.out.move HB1.out
                have q0 := p1.cell (i := 0) (by omega)
                have q1 := p1.cell (i := 1) (by omega)
                have HP2 := hid p2
                have HP3 := hid p3
                have HP4 := hid p4
                obtain ⟨g, cap, rfl⟩ := Joins.ownsRow_form p2 (by rw [Sp.codeK_len]; omega)
                obtain ⟨gb, capb, rfl⟩ := Joins.ownsRow_form p3 (by rw [HLL.out]; omega)
                clear p1 p2 p3 p4
                go_wp2_with fail
                refine bodyPost_ret (v := .tuple #[.agg #[.slice (some ⟨g, 0, none⟩) (Sp.codeK K (Sp.B s) (s.size / 4)).length cap, .slice (some ⟨gb, 0, none⟩) (Sp.blksTo (Sp.B s) (s.size / 4)).length capb], .bool true]) (by simp [results, Tryz.results33, go_sem, d0, d1]) rfl ⟨_, _, true, rfl, HPB.out.symm, (fun _ => ⟨?_, ?_, HP4.out⟩), ?_, ⟨_, _, _, rfl⟩, ⟨_, _, _, rfl⟩⟩
                · have h := own_base HP2.out (show w.heap.size ≤ w.heap.size + 3 by omega)
                  rw [Sp.codeK_len] at h ⊢
                  exact own_move h (fun k hk => by rw [set_other (by have := (HP2.out.lt k (by rw [Sp.codeK_len]; exact hk)).1; omega), set_other (by have := (HP2.out.lt k (by rw [Sp.codeK_len]; exact hk)).1; omega)])
                · have h := own_base HP3.out (show w.heap.size ≤ w.heap.size + 3 by omega)
                  rw [HLL.out] at h ⊢
                  exact own_move h (fun k hk => by rw [set_other (by have := (HP3.out.lt k (by rw [HLL.out]; exact hk)).1; omega), set_other (by have := (HP3.out.lt k (by rw [HLL.out]; exact hk)).1; omega)])
                · exact ((HB.out.trans (HB1.out.mono HB.out.size)).setCell (Nat.le_succ _) _).setCell (Nat.le_succ _) _
  · have HN := hid (show Sp.progB (Sp.B s) s.size K = false by simp [Sp.progB, h4])
    have h4' : ((s.size : Int) % 4 != 0) = true := by simp; omega
    go_enter Tryz.func33, Tryz.ntmps33
    go_wp2_with fail
    refine bodyPost_ret (v := .tuple #[.agg #[.slice none 0 0, .slice none 0 0], .bool false]) (by simp [results, Tryz.results33, go_sem]) rfl (rdPost_no rfl HN.out ?_)
    exact (((Below.refl _ _).alloc (Nat.le_refl _) _).alloc (by simp) _).alloc (by simp; omega) _

set_option maxHeartbeats 1000000 in
theorem readMachine_any (s : ByteArray) (K : Int) (hK : 0 < K) (w : World) (hs : s.size ≤ 4096) :
    Calls Tryz.prog 19 #[.string s, .int .i64 K] w fun e w' => RdPost K s w e w' := by
  go_enter Tryz.func19, Tryz.ntmps19
  go_wp2_with fail
  refine (gread_any K (by omega) true (by simp; omega) s _ hs).mono ?_
  rintro e w1 ⟨vC, vB, ok, rfl, hok, hsrc, hb1, ⟨aC, nC, cC, rfl⟩, ⟨aB, nB, cB, rfl⟩⟩
  have hsz : ((w.alloc (.cells #[.slice none 0 0, .slice none 0 0] 47)).alloc (.cells #[.bool true, .int .i64 K] 78)).heap.size = w.heap.size + 2 := by simp
  rw [hsz] at hb1 hsrc
  have r0 := ((row_nils w).alloc (.cells #[.bool true, .int .i64 K] 78)).of_block (hb1.block _ (by omega))
  have HB := hid ((((Below.refl w.heap.size w).alloc (Nat.le_refl _) (.cells #[.slice none 0 0, .slice none 0 0] 47)).alloc (by simp) (.cells #[.bool true, .int .i64 K] 78)).trans (hb1.mono (by omega)))
  have d0 := r0.cell (i := 0) (by omega)
  have d1 := r0.cell (i := 1) (by omega)
  have z0 := r0.frozen 0
  have z1 := r0.frozen 1
  have HOK := hid hok
  have HSRC := hid hsrc
  clear hok hsrc hb1 r0 hsz
  go_wp2_with fail
  refine bodyPost_ret (v := .tuple #[.agg #[.slice aC nC cC, .slice aB nB cB], .bool ok]) (by simp [results, Tryz.results19, go_sem, d0, d1]) rfl ⟨_, _, ok, rfl, HOK.out, (fun h => ?_), (HB.out.setCell (Nat.le_refl _) _).setCell (Nat.le_refl _) _, ⟨_, _, _, rfl⟩, ⟨_, _, _, rfl⟩⟩
  obtain ⟨h1, h2, h3⟩ := HSRC.out h
  refine ⟨own_base (own_move h1 (fun k hk => ?_)) (by omega), own_base (own_move h2 (fun k hk => ?_)) (by omega), h3⟩
  · have := (h1.lt k hk).1
    rw [set_other (by omega), set_other (by omega)]
  · have := (h2.lt k hk).1
    rw [set_other (by omega), set_other (by omega)]

set_option maxHeartbeats 1000000 in
theorem readSource0_any (s : ByteArray) (w : World) (hs : s.size ≤ 4096) :
    Calls Tryz.prog 22 #[.string s] w fun e w' => RdPost 0 s w e w' := by
  go_enter Tryz.func22, Tryz.ntmps22
  go_wp2_with fail
  refine (gread_any 0 (by omega) false rfl s _ hs).mono ?_
  rintro e w1 ⟨vC, vB, ok, rfl, hok, hsrc, hb1, ⟨aC, nC, cC, rfl⟩, ⟨aB, nB, cB, rfl⟩⟩
  have hsz : ((w.alloc (.cells #[.slice none 0 0, .slice none 0 0] 47)).alloc (.cells #[.bool false, .int .i64 0] 78)).heap.size = w.heap.size + 2 := by simp
  rw [hsz] at hb1 hsrc
  have r0 := ((row_nils w).alloc (.cells #[.bool false, .int .i64 0] 78)).of_block (hb1.block _ (by omega))
  have HB := hid ((((Below.refl w.heap.size w).alloc (Nat.le_refl _) (.cells #[.slice none 0 0, .slice none 0 0] 47)).alloc (by simp) (.cells #[.bool false, .int .i64 0] 78)).trans (hb1.mono (by omega)))
  have d0 := r0.cell (i := 0) (by omega)
  have d1 := r0.cell (i := 1) (by omega)
  have z0 := r0.frozen 0
  have z1 := r0.frozen 1
  have HOK := hid hok
  have HSRC := hid hsrc
  clear hok hsrc hb1 r0 hsz
  go_wp2_with fail
  refine bodyPost_ret (v := .tuple #[.agg #[.slice aC nC cC, .slice aB nB cB], .bool ok]) (by simp [results, Tryz.results22, go_sem, d0, d1]) rfl ⟨_, _, ok, rfl, HOK.out, (fun h => ?_), (HB.out.setCell (Nat.le_refl _) _).setCell (Nat.le_refl _) _, ⟨_, _, _, rfl⟩, ⟨_, _, _, rfl⟩⟩
  obtain ⟨h1, h2, h3⟩ := HSRC.out h
  refine ⟨own_base (own_move h1 (fun k hk => ?_)) (by omega), own_base (own_move h2 (fun k hk => ?_)) (by omega), h3⟩
  · have := (h1.lt k hk).1
    rw [set_other (by omega), set_other (by omega)]
  · have := (h2.lt k hk).1
    rw [set_other (by omega), set_other (by omega)]

theorem okAt_of_progB {c : Nat → Int} {size : Nat} (h : Sp.progB c size 0 = true) (i : Nat) (hi : i < size / 4) : Sp.dokAt c i = true := by
  have := Sp.okIns_of_progB h i hi
  rw [Sp.okIns_eq, Bool.and_eq_true] at this
  exact this.1
/-- a source program, in the words of the texts on Check -/
theorem read_any (s : ByteArray) (w : World) (hs : s.size ≤ 256) :
    Calls Tryz.prog 22 #[.string s] w fun e w' => ∃ vC vB ok, e = .returned (.tuple #[.agg #[vC, vB], .bool ok]) ∧ ok = Sp.progB (Sp.B s) s.size 0 ∧ (ok = true → w'.ownsRow w.heap.size 74 7 vC (s.size / 4) (insV (Sp.codeTo (Sp.B s) (s.size / 4))) ∧ w'.ownsRow w.heap.size 117 2 vB (Sp.blocksTo (Sp.B s) (s.size / 4)) (blkV (Sp.blksTo (Sp.B s) (s.size / 4))) ∧ (Sp.blksTo (Sp.B s) (s.size / 4) = [] → vB = .slice none 0 0)) ∧ Below w.heap.size w w' ∧ (∃ a n c, vC = .slice a n c) ∧ (∃ a n c, vB = .slice a n c) := by
  refine (readSource0_any s w (by omega)).mono ?_
  rintro e w' ⟨vC, vB, ok, h1, h2, h3, h4, h5, h6⟩
  refine ⟨vC, vB, ok, h1, h2, fun h => ?_, h4, h5, h6⟩
  obtain ⟨a, b, c⟩ := h3 h
  rw [Sp.codeK_src _ _ (fun i hi => okAt_of_progB (h2.symm.trans h) i hi)] at a
  exact ⟨a, b, c⟩
end Go.Proofs.YtccndnckceagfabGreatDoorR
