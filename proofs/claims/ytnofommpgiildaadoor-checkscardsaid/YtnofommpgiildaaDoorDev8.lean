/-
  The program's reading of a whole text.
-/
import Derived.Test.YtnofommpgiildaaDoorDev5
import Derived.Test.YtnofommpgiildaaDoorDev7
import Derived.Test.YtnofommpgiildaaDoorDProg
namespace Go.Proofs.YtnofommpgiildaaDoor
open Go.RowKit

def RdPost (s : ByteArray) (w : World) (e : Ending) (w' : World) : Prop :=
  ∃ vC vB ok, e = .returned (.tuple #[.agg #[vC, vB], .bool ok]) ∧ ok = Sp.progB (Sp.B s) s.size 0 ∧ (ok = true → w'.ownsRow w.heap.size 68 7 vC (s.size / 4) (insV (Sp.codeTo (Sp.B s) (s.size / 4))) ∧ w'.ownsRow w.heap.size 99 2 vB (Sp.blocksTo (Sp.B s) (s.size / 4)) (blkV (Sp.blksTo (Sp.B s) (s.size / 4))) ∧ (Sp.blksTo (Sp.B s) (s.size / 4) = [] → vB = .slice none 0 0)) ∧ Below w.heap.size w w' ∧ (∃ a n c, vC = .slice a n c) ∧ (∃ a n c, vB = .slice a n c)
theorem rdPost_no {s : ByteArray} {w : World} {e : Ending} {w' : World} (he : e = .returned (.tuple #[.agg #[.slice none 0 0, .slice none 0 0], .bool false])) (h : Sp.progB (Sp.B s) s.size 0 = false) (hb : Below w.heap.size w w') : RdPost s w e w' :=
  ⟨_, _, false, he, h.symm, (fun h => by cases h), hb, ⟨_, _, _, rfl⟩, ⟨_, _, _, rfl⟩⟩

theorem read_ins (s : ByteArray) (k : Nat) (w : World) (h : 4 * k + 4 ≤ s.size) :
    Calls Tryd.prog 41 #[.string (s.extract (4 * k) (4 * k + 4))] w fun e w' => ∃ i ok, e = .returned (.tuple #[.agg #[.int .u8 i.o, .int .i64 i.d, .int .i64 i.x, .int .i64 i.y, .int .i64 i.n, .int .i64 i.k, .int .i64 i.m], .bool ok]) ∧ ok = Sp.dokAt (Sp.B s) k ∧ (ok = true → i = Sp.insAt (Sp.B s) k) ∧ Below w.heap.size w w' := by
  have hx := Sp.insAt_ext s k h
  refine (readIns_any _ w hx.size).mono ?_
  rintro e w' ⟨i, ok, rfl, h1, h2, h3⟩
  have e1 : ∀ j, j < 3 → Sp.B (s.extract (4 * k) (4 * k + 4)) (j + 1) = Sp.B s (4 * k + j + 1) := fun j hj => hx.all (j + 1) (by omega)
  refine ⟨i, ok, rfl, ?_, fun h => ?_, h3⟩
  · rw [h1, hx.B0]; exact Sp.dokB_congr e1
  · rw [h2 h, hx.B0]; exact Sp.tkN_congr 3 e1
theorem But.below {B p N : Nat} {u v : World} (h : But B p u v) (hp : N ≤ p) (hN : N ≤ B) : Below N u v := ⟨h.os, h.tape, h.output, h.size, fun k hk => h.block k (by omega) (by omega)⟩
theorem own_base {w : World} {B B' e size n : Nat} {v : Value} {xs : List Value} (h : w.ownsRow B e size v n xs) (hB : B' ≤ B) : w.ownsRow B' e size v n xs := by
  obtain ⟨h1, h2⟩ := h
  refine ⟨h1, ?_⟩
  rcases h2 with h2 | ⟨g, cap, cur, rfl, hg, r⟩
  · exact Or.inl h2
  · exact Or.inr ⟨g, cap, cur, rfl, by omega, r⟩

set_option maxHeartbeats 4000000 in
theorem read_any (s : ByteArray) (w : World) (hs : s.size ≤ 256) :
    Calls Tryd.prog 29 #[.string s] w fun e w' => RdPost s w e w' := by
  by_cases h4 : s.size % 4 = 0
  · have h4' : ((s.size : Int) % 4 != 0) = false := by simp; omega
    go_enter Tryd.func29, Tryd.ntmps29
    go_wp2_with fail
    go_loopw [5] (fun kv wr => ∃ k : Nat, k ≤ s.size / 4 ∧ kv = .int .i64 (4 * (k : Int)) ∧ (∀ i, i < k → Sp.dokAt (Sp.B s) i = true) ∧ ProgAt wr (w.heap.size + 2) (w.heap.size + 1) (Sp.codeTo (Sp.B s) k) (Sp.blksTo (Sp.B s) k) ∧ wr.rowIs w.heap.size 49 2 (fun _ => .slice none 0 0) ∧ w.heap.size + 2 ≤ wr.heap.size ∧ Below w.heap.size w wr) (fun kv _ => s.size / 4 - (intOf kv / 4).toNat)
    case atStart =>
      have hsz : (w.alloc (.cells #[.slice none 0 0, .slice none 0 0] 49)).heap.size = w.heap.size + 1 := by simp
      refine ⟨0, by omega, by simp, (fun i hi => by omega), ⟨.slice none 0 0, .slice none 0 0, ?_, World.ownsRow_nil _ _ _ _, World.ownsRow_nil _ _ _ _, fun _ => rfl⟩, ?_, by simp, ?_⟩
      · rw [← hsz]
        refine World.rowIs_alloc (w.alloc (.cells #[.slice none 0 0, .slice none 0 0] 49)) #[.slice none 0 0, .slice none 0 0] 49 _ (fun j hj => ?_)
        have hj' : j = 0 ∨ j = 1 := by simp at hj; omega
        rcases hj' with rfl | rfl <;> rfl
      · refine (World.rowIs_alloc w #[.slice none 0 0, .slice none 0 0] 49 _ (fun j hj => ?_)).alloc _
        have hj' : j = 0 ∨ j = 1 := by simp at hj; omega
        rcases hj' with rfl | rfl <;> rfl
      · exact ((Below.refl _ _).alloc (Nat.le_refl _) _).alloc (by simp) _
    case round =>
      obtain ⟨k, hk, rfl, hall, hP, hrow, hsz, hbel⟩ := hrel
      have HALL := hid hall
      have HP := hid hP
      have HR := hid hrow
      have HB := hid hbel
      clear hall hP hrow hbel
      by_cases hlt : k < s.size / 4
      · go_wp2_with fail
        refine (read_ins s k _ (by omega)).mono ?_
        rintro e w1 ⟨i, ok, rfl, hok, hi, hb1⟩
        have HOK := hid hok
        have HI := hid hi
        have HB1 := hid hb1
        have hsz1 := hb1.size
        have hlt1 : w.heap.size < w1.heap.size := by omega
        have hne1 : w.heap.size ≠ w1.heap.size := by omega
        clear hok hi hb1
        have hr1 := HR.out.of_block (HB1.out.block _ HR.out.lt)
        have d0 := hr1.cell (i := 0) (by omega)
        have d1 := hr1.cell (i := 1) (by omega)
        have z0 := hr1.frozen 0
        have z1 := hr1.frozen 1
        have HR1 := hid hr1
        clear hr1
        cases ok
        · go_wp2_with fail
          refine bodyPost_ret (v := .tuple #[.agg #[.slice none 0 0, .slice none 0 0], .bool false]) (by simp [results, Tryd.results29, go_sem, d0, d1, hlt1]) rfl (rdPost_no rfl (Sp.progB_bad _ _ k hlt HOK.out.symm) ?_)
          exact (((HB.out.trans (HB1.out.mono HB.out.size)).setCell (Nat.le_refl _) _).setCell (Nat.le_refl _) _).alloc (by simp [World.setCell]; omega) _
        · cases hend : Sp.endB i.o
          · have HE := hid hend
            clear hend
            go_wp2_with fail
            refine (add_code (w.heap.size + 2) (w.heap.size + 1) (Sp.codeTo (Sp.B s) k) (Sp.blksTo (Sp.B s) k) _ _ _ _ _ _ _ _ (by exact HP.out.move ((HB1.out).alloc HB1.out.size _)) (by omega) (by simp; omega) (by rw [Sp.codeTo_len]; omega) HE.out).mono ?_
            rintro e w2 ⟨rfl, hP2, hb2⟩
            have HP2 := hid hP2
            have HB2 := hid hb2
            clear hP2 hb2
            go_wp2_with fail
            go_roundw
            case rel =>
              have hi' := HI.out (by first | rfl | trivial)
              have eo : Sp.endB (Sp.B s (4 * k)) = false := by have h := HE.out; rw [hi', Sp.insAt_o] at h; exact h
              refine ⟨k + 1, by omega, by go_num, (fun j hj => ?_), ?_, HR1.out.alloc _ |>.of_block (HB2.out.block _ (by omega) (by omega)), Nat.le_trans (by simp; omega) HB2.out.size, ?_⟩
              · by_cases e : j = k
                · rw [e]; exact HOK.out.symm
                · exact HALL.out j (by omega)
              · rw [Sp.codeTo_succ, show Sp.blksTo (Sp.B s) (k + 1) = Sp.blksTo (Sp.B s) k from by simp only [Sp.blksTo]; rw [eo]; rfl, ← hi']
                exact HP2.out
              · exact (HB.out.trans (HB1.out.mono HB.out.size) |>.alloc (by have := HB.out.size; omega) _).trans (HB2.out.below (by omega) (by omega))
            case measure => simp [intOf]; omega
          · have HE := hid hend
            clear hend
            go_wp2_with fail
            refine (add_end (w.heap.size + 2) (w.heap.size + 1) (Sp.codeTo (Sp.B s) k) (Sp.blksTo (Sp.B s) k) _ _ _ _ _ _ _ _ (by exact HP.out.move ((HB1.out).alloc HB1.out.size _)) (by omega) (by simp; omega) (by rw [Sp.codeTo_len]; omega) HE.out (by rw [Sp.blksTo_len]; have := Sp.blocksTo_le (Sp.B s) k; omega) (fun b hb => by have := Sp.blksTo_lt (Sp.B s) k b hb; omega)).mono ?_
            rintro e w2 ⟨rfl, hP2, hb2⟩
            have HP2 := hid hP2
            have HB2 := hid hb2
            clear hP2 hb2
            go_wp2_with fail
            go_roundw
            case rel =>
              have hi' := HI.out (by first | rfl | trivial)
              have eo : Sp.endB (Sp.B s (4 * k)) = true := by have h := HE.out; rw [hi', Sp.insAt_o] at h; exact h
              refine ⟨k + 1, by omega, by go_num, (fun j hj => ?_), ?_, HR1.out.alloc _ |>.of_block (HB2.out.block _ (by omega) (by omega)), Nat.le_trans (by simp; omega) HB2.out.size, ?_⟩
              · by_cases e : j = k
                · rw [e]; exact HOK.out.symm
                · exact HALL.out j (by omega)
              · have hP3 := HP2.out
                rw [Sp.codeTo_len] at hP3
                rw [Sp.codeTo_succ, show Sp.blksTo (Sp.B s) (k + 1) = Sp.blksTo (Sp.B s) k ++ [(((Sp.blksTo (Sp.B s) k).getLast?.map (fun b => b.2 + 1)).getD 0, k)] from by simp only [Sp.blksTo]; rw [if_pos eo], ← hi']
                exact hP3
              · exact (HB.out.trans (HB1.out.mono HB.out.size) |>.alloc (by have := HB.out.size; omega) _).trans (HB2.out.below (by omega) (by omega))
            case measure => simp [intOf]; omega
      · obtain rfl : k = s.size / 4 := by omega
        have hll := Sp.blksTo_len (Sp.B s) (s.size / 4)
        have hble := Sp.blocksTo_le (Sp.B s) (s.size / 4)
        have HLL := hid hll
        clear hll
        by_cases hnone : Sp.blksTo (Sp.B s) (s.size / 4) = []
        · have HPN : Hid (Sp.progB (Sp.B s) s.size 0 = false) := by
            show Sp.progB (Sp.B s) s.size 0 = false
            by_cases h0 : s.size = 0
            · simp [Sp.progB, h0]
            · cases he : Sp.endB (Sp.B s (4 * (s.size / 4 - 1)))
              · exact Sp.progB_open _ _ he
              · have := Sp.blocks_pos _ _ (show 1 ≤ s.size / 4 by omega) he
                rw [← HLL.out, hnone] at this
                simp at this
          have HPP := hid (show ProgAt wr (w.heap.size + 2) (w.heap.size + 1) (Sp.codeTo (Sp.B s) (s.size / 4)) [] by rw [← hnone]; exact HP.out)
          clear hnone
          go_wp2_with fail
          refine (isWhole_none _ _ _ _ HPP.out).mono ?_
          rintro e w1 ⟨rfl, hb1⟩
          have HB1 := hid hb1
          have hr1 := HR.out.of_block (HB1.out.block _ HR.out.lt)
          have d0 := hr1.cell (i := 0) (by omega)
          have d1 := hr1.cell (i := 1) (by omega)
          have z0 := hr1.frozen 0
          have z1 := hr1.frozen 1
          clear hr1 hb1
          go_wp2_with fail
          refine bodyPost_ret (v := .tuple #[.agg #[.slice none 0 0, .slice none 0 0], .bool false]) (by simp [results, Tryd.results29, go_sem, d0, d1]) rfl (rdPost_no rfl HPN.out ?_)
          exact ((HB.out.trans (HB1.out.mono HB.out.size)).setCell (Nat.le_refl _) _).setCell (Nat.le_refl _) _
        · have hpos : 1 ≤ Sp.blocksTo (Sp.B s) (s.size / 4) := by
            rw [← HLL.out]
            exact Nat.pos_of_ne_zero (fun h => hnone (List.eq_nil_of_length_eq_zero h))
          clear hnone
          by_cases h10 : 10 < Sp.blocksTo (Sp.B s) (s.size / 4)
          · go_wp2_with fail
            refine (isWhole_many _ _ _ _ _ HP.out (by rw [HLL.out]; exact h10) (by rw [HLL.out]; omega)).mono ?_
            rintro e w1 ⟨rfl, hb1⟩
            have HB1 := hid hb1
            have hr1 := HR.out.of_block (HB1.out.block _ HR.out.lt)
            have d0 := hr1.cell (i := 0) (by omega)
            have d1 := hr1.cell (i := 1) (by omega)
            have z0 := hr1.frozen 0
            have z1 := hr1.frozen 1
            clear hr1 hb1
            go_wp2_with fail
            refine bodyPost_ret (v := .tuple #[.agg #[.slice none 0 0, .slice none 0 0], .bool false]) (by simp [results, Tryd.results29, go_sem, d0, d1]) rfl (rdPost_no rfl (Sp.progB_many _ _ h10) ?_)
            exact ((HB.out.trans (HB1.out.mono HB.out.size)).setCell (Nat.le_refl _) _).setCell (Nat.le_refl _) _
          · cases he : Sp.endB (Sp.B s (4 * (s.size / 4 - 1)))
            · have HE := hid he
              clear he
              go_wp2_with fail
              refine (isWhole_open _ _ _ _ _ HP.out (by rw [Sp.codeTo_len]; omega) (by rw [HLL.out]; omega) (by rw [HLL.out]; omega) (by rw [Sp.codeTo_len]; omega) (by rw [Sp.codeTo_len]; exact Sp.blksTo_no _ _ (by omega) HE.out _)).mono ?_
              rintro e w1 ⟨rfl, hb1⟩
              have HB1 := hid hb1
              have hr1 := HR.out.of_block (HB1.out.block _ HR.out.lt)
              have d0 := hr1.cell (i := 0) (by omega)
              have d1 := hr1.cell (i := 1) (by omega)
              have z0 := hr1.frozen 0
              have z1 := hr1.frozen 1
              clear hr1 hb1
              go_wp2_with fail
              refine bodyPost_ret (v := .tuple #[.agg #[.slice none 0 0, .slice none 0 0], .bool false]) (by simp [results, Tryd.results29, go_sem, d0, d1]) rfl (rdPost_no rfl (Sp.progB_open _ _ HE.out) ?_)
              exact ((HB.out.trans (HB1.out.mono HB.out.size)).setCell (Nat.le_refl _) _).setCell (Nat.le_refl _) _
            · have HE := hid he
              clear he
              go_wp2_with fail
              refine (isWhole_loop _ _ _ _ _ HP.out (by rw [Sp.codeTo_len]; omega) (by rw [HLL.out]; omega) (by rw [HLL.out]; omega) (by rw [Sp.codeTo_len]; omega) (by rw [Sp.codeTo_len]; exact Sp.blksTo_end _ _ (by omega) HE.out _)).mono ?_
              rintro e w1 ⟨rfl, hb1⟩
              have HPB : Hid (Sp.progB (Sp.B s) s.size 0 = (Sp.codeTo (Sp.B s) (s.size / 4)).all fun i => Sp.isTgt i.k ((Sp.blksTo (Sp.B s) (s.size / 4)).length : Nat) && Sp.isTgt i.m ((Sp.blksTo (Sp.B s) (s.size / 4)).length : Nat)) := by
                show Sp.progB (Sp.B s) s.size 0 = _
                rw [HLL.out]
                exact Sp.progB_all _ _ (by omega) h4 HALL.out (by omega) HE.out
              generalize ((Sp.codeTo (Sp.B s) (s.size / 4)).all fun i => Sp.isTgt i.k ((Sp.blksTo (Sp.B s) (s.size / 4)).length : Nat) && Sp.isTgt i.m ((Sp.blksTo (Sp.B s) (s.size / 4)).length : Nat)) = ok at *
              have HB1 := hid hb1
              have hr1 := HR.out.of_block (HB1.out.block _ HR.out.lt)
              have d0 := hr1.cell (i := 0) (by omega)
              have d1 := hr1.cell (i := 1) (by omega)
              have z0 := hr1.frozen 0
              have z1 := hr1.frozen 1
              clear hr1 hb1
              cases ok
              · go_wp2_with fail
                refine bodyPost_ret (v := .tuple #[.agg #[.slice none 0 0, .slice none 0 0], .bool false]) (by simp [results, Tryd.results29, go_sem, d0, d1]) rfl (rdPost_no rfl HPB.out ?_)
                exact ((HB.out.trans (HB1.out.mono HB.out.size)).setCell (Nat.le_refl _) _).setCell (Nat.le_refl _) _
              · obtain ⟨vC, vB, p1, p2, p3, p4⟩ := HP.out.move HB1.out
                have q0 := p1.cell (i := 0) (by omega)
                have q1 := p1.cell (i := 1) (by omega)
                have HP2 := hid p2
                have HP3 := hid p3
                have HP4 := hid p4
                obtain ⟨g, cap, rfl⟩ := Joins.ownsRow_form p2 (by rw [Sp.codeTo_len]; omega)
                obtain ⟨gb, capb, rfl⟩ := Joins.ownsRow_form p3 (by rw [HLL.out]; omega)
                clear p1 p2 p3 p4
                go_wp2_with fail
                refine bodyPost_ret (v := .tuple #[.agg #[.slice (some ⟨g, 0, none⟩) (Sp.codeTo (Sp.B s) (s.size / 4)).length cap, .slice (some ⟨gb, 0, none⟩) (Sp.blksTo (Sp.B s) (s.size / 4)).length capb], .bool true]) (by simp [results, Tryd.results29, go_sem, d0, d1]) rfl ⟨_, _, true, rfl, HPB.out.symm, (fun _ => ⟨?_, ?_, HP4.out⟩), ?_, ⟨_, _, _, rfl⟩, ⟨_, _, _, rfl⟩⟩
                · have h := own_base HP2.out (show w.heap.size ≤ w.heap.size + 2 by omega)
                  rw [Sp.codeTo_len] at h ⊢
                  exact own_move h (fun k hk => by rw [set_other (by have := (HP2.out.lt k (by rw [Sp.codeTo_len]; exact hk)).1; omega), set_other (by have := (HP2.out.lt k (by rw [Sp.codeTo_len]; exact hk)).1; omega)])
                · have h := own_base HP3.out (show w.heap.size ≤ w.heap.size + 2 by omega)
                  rw [HLL.out] at h ⊢
                  exact own_move h (fun k hk => by rw [set_other (by have := (HP3.out.lt k (by rw [HLL.out]; exact hk)).1; omega), set_other (by have := (HP3.out.lt k (by rw [HLL.out]; exact hk)).1; omega)])
                · exact ((HB.out.trans (HB1.out.mono HB.out.size)).setCell (Nat.le_refl _) _).setCell (Nat.le_refl _) _
  · have HN := hid (show Sp.progB (Sp.B s) s.size 0 = false by simp [Sp.progB, h4])
    have h4' : ((s.size : Int) % 4 != 0) = true := by simp; omega
    go_enter Tryd.func29, Tryd.ntmps29
    go_wp2_with fail
    refine bodyPost_ret (v := .tuple #[.agg #[.slice none 0 0, .slice none 0 0], .bool false]) (by simp [results, Tryd.results29, go_sem]) rfl (rdPost_no rfl HN.out ?_)
    exact ((Below.refl _ _).alloc (Nat.le_refl _) _).alloc (by simp) _
end Go.Proofs.YtnofommpgiildaaDoor
