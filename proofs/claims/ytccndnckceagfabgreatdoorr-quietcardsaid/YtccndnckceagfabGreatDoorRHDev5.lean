/-
  The program's own append of an instruction that ends a block.
-/
import Derived.Test.YtccndnckceagfabGreatDoorRHDev4
namespace Go.Proofs.YtccndnckceagfabGreatDoorR
open Go.RowKit

set_option maxHeartbeats 4000000 in
theorem add_end (B p : Nat) (C : List Sp.Ins) (L : List (Nat × Nat)) (o d x y n k m : Int) (w : World) (hP : ProgAt w B p C L) (hp : p < B) (hB : B ≤ w.heap.size) (hC : C.length ≤ 1100) (he : Sp.endB o = true) (hL : L.length ≤ 1100) (hl : ∀ b, b ∈ L → b.2 ≤ 1100) :
    Calls Tryz.prog 53 #[.pointer (some ⟨p, 0, none⟩), .agg #[.int .u8 o, .int .i64 d, .int .i64 x, .int .i64 y, .int .i64 n, .int .i64 k, .int .i64 m]] w fun e w' => e = .returned (.tuple #[]) ∧ ProgAt w' B p (C ++ [⟨o, d, x, y, n, k, m⟩]) (L ++ [((L.getLast?.map (fun b => b.2 + 1)).getD 0, C.length)]) ∧ But B p w w' := by
  obtain ⟨vC, vB, hrow, hoC, hoB, hnil⟩ := hP
  have HNIL := hid hnil
  clear hnil
  have c0 : w.cell? ⟨p, 0, none⟩ = some vC := hrow.cell (i := 0) (by omega)
  have c1 : w.cell? ⟨p, 1, none⟩ = some vB := hrow.cell (i := 1) (by omega)
  have z0 := hrow.frozen 0
  have hpl := hrow.lt
  obtain ⟨ib, zb, jb1, jb2, jb3, jb4, jb5⟩ := info_blk
  have HIB := hid (And.intro jb1 (And.intro jb2 (And.intro jb3 (And.intro jb4 jb5))))
  clear jb1 jb2 jb3 jb4 jb5
  obtain ⟨ii, zz, hi1, hi2, hi3, hi4, hi5⟩ := info_ins
  have HI := hid (And.intro hi1 (And.intro hi2 (And.intro hi3 (And.intro hi4 hi5))))
  clear hi1 hi2 hi3 hi4 hi5
  have HC := hid hoC
  have HBk := hid hoB
  have HR := hid hrow
  have HG : Hid (∀ w', (((w.alloc (.cells #[.int .u8 o, .int .i64 d, .int .i64 x, .int .i64 y, .int .i64 n, .int .i64 k, .int .i64 m] 74)).alloc (.cells #[.int .u8 o, .int .i64 d, .int .i64 x, .int .i64 y, .int .i64 n, .int .i64 k, .int .i64 m] 74)).drew).grownBy w' vC.ownBlock → w'.rowIs p 47 2 (fun j => if j = 0 then vC else vB) ∧ w'.rowIs w.heap.size 74 7 (insF ⟨o, d, x, y, n, k, m⟩)) := by
    intro w' hg
    have hbn := below_new2 w (.cells #[.int .u8 o, .int .i64 d, .int .i64 x, .int .i64 y, .int .i64 n, .int .i64 k, .int .i64 m] 74) (.cells #[.int .u8 o, .int .i64 d, .int .i64 x, .int .i64 y, .int .i64 n, .int .i64 k, .int .i64 m] 74)
    have hsz : ((((w.alloc (.cells #[.int .u8 o, .int .i64 d, .int .i64 x, .int .i64 y, .int .i64 n, .int .i64 k, .int .i64 m] 74)).alloc (.cells #[.int .u8 o, .int .i64 d, .int .i64 x, .int .i64 y, .int .i64 n, .int .i64 k, .int .i64 m] 74)).drew)).heap.size = w.heap.size + 2 := by simp
    refine ⟨hrow.of_block ((grown_old hoC hg (Or.inl hp) (by rw [hsz]; omega)).trans (hbn.block p hpl)), (row_new1 w o d x y n k m _).of_block (grown_old hoC hg (Or.inr (Nat.le_refl _)) (by rw [hsz]; omega))⟩
  have hf := Joins.ownsRow_forms hoC
  clear hoC hoB hrow
  rcases hf with ⟨rfl, hn0⟩ | ⟨g, cap, rfl⟩
  · have HN0 := hid hn0
    clear hn0
    go_enter Tryz.func53, Tryz.ntmps53
    go_wp2_with fail
    go_region_law (refine step_append_own rfl (.tmp 16) (.tmp 18) 44 rfl B 74 ii zz 7 56 Tryz.underlying44 HI.out.1 HI.out.2.1 HI.out.2.2.1 HI.out.2.2.2.1 HI.out.2.2.2.2 (by decide) (.slice none 0 0) C.length (insV C) (by simp [Act.eval]) (by exact own_below HC.out (below_new2 _ _ _)) ⟨w.heap.size + 1, 0, none⟩ 1 1 (insL ⟨o, d, x, y, n, k, m⟩) (by simp [Act.eval]) rfl (by exact insL_at (row_new2 w o d x y n k m 74)) (insL_cells _) (by unfold maxLen; omega) (by omega) (by simp; omega) ?_; intro v' w' hown hgrow; obtain ⟨g', cap', hv⟩ := Joins.ownsRow_form hown (by omega); subst hv; obtain ⟨r1, r2⟩ := HG.out w' hgrow; have q0 := r1.cell (i := 0) (by omega); have q1 := r1.cell (i := 1) (by omega); have q2 := r1.frozen 0; obtain ⟨b0, b1, b2, b3, b4, b5, b6⟩ := row_cells r2)
    all_goals
      obtain ⟨f1, f2, f3, f4⟩ := add_fin HC.out HBk.out HR.out hp hB (below_new2 w _ _) hgrow hown
      have HF := hid (And.intro f1 (And.intro f2 (And.intro f3 f4)))
      clear f1 f2 f3 f4 hown hgrow r1 r2
      go_wp2_with fail
      refine (endsBlock_any _ _ _ _ _ _ _ _).mono ?_
      rintro e w2 ⟨rfl, hb2⟩
      rw [he]
      have HB2 := hid hb2
      have hszw : w.heap.size ≤ w2.heap.size := Nat.le_trans HF.out.2.2.2.size hb2.size
      have F1 := HF.out.1.of_block (HB2.out.block _ HF.out.1.lt)
      have F2 := own_below HF.out.2.1 HB2.out
      have F3 := own_below HF.out.2.2.1 HB2.out
      have F4 := HF.out.2.2.2.trans (But.of_below (p := p) (HB2.out.mono (Nat.le_trans hB HF.out.2.2.2.size)))
      clear hb2 HB2 HF q0 q1 q2 b0 b1 b2 b3 b4 b5 b6
      have q0 := F1.cell (i := 0) (by omega)
      have q1 := F1.cell (i := 1) (by omega)
      have q2 := F1.frozen 1
      have HF1 := hid F1
      have HF2 := hid F2
      have HF3 := hid F3
      have HF4 := hid F4
      have hfB := Joins.ownsRow_forms F3
      clear F1 F2 F3 F4 HC HBk HR HG HI c0 c1 z0
      rcases hfB with ⟨rfl, hb0⟩ | ⟨gb, capb, rfl⟩
      · have HB0 := hid hb0
        clear hb0
        go_wp2_with (at_builtin; refine wpList_append_own _ rfl (.tmp 46) (.tmp 50) 45 rfl B 117 ib zb 2 16 Tryz.underlying45 HIB.out.1 HIB.out.2.1 HIB.out.2.2.1 HIB.out.2.2.2.1 HIB.out.2.2.2.2 (by decide) (.slice none 0 0) L.length (blkV L) (by simp [Act.eval]) (by exact own_below HF3.out ((Below.refl _ _).alloc (Nat.le_refl _) _)) ⟨w2.heap.size, 0, none⟩ 1 1 [.int .i64 (0), .int .i64 (0)] (by simp [Act.eval]) rfl (by exact alloc_at w2 #[.int .i64 (0), .int .i64 (0)] 117) (by intro u hu; simp only [List.mem_cons, List.not_mem_nil, or_false] at hu; rcases hu with rfl | rfl <;> rfl) (by unfold maxLen; omega) (by omega) (by simp; omega) ?_; intro v' w3 hown hgrow _; obtain ⟨g3, cap3, hv⟩ := Joins.ownsRow_form hown (by omega); subst hv; obtain ⟨f1, f2, f3, f4⟩ := add_fin2 HF2.out HF3.out HF1.out hp (Nat.le_trans hB hszw) ((Below.refl _ _).alloc (Nat.le_refl _) _) hgrow hown; have r1 := HF1.out.of_block ((grown_old HF3.out hgrow (Or.inl hp) (by simp; omega)).trans (((Below.refl w2.heap.size w2).alloc (Nat.le_refl _) _).block p (by omega))); have s1 := r1.cell (i := 1) (by omega); have s2 := r1.frozen 1; have HFF := hid (And.intro f1 (And.intro f2 (And.intro f3 f4))); clear f1 f2 f3 f4 hown hgrow r1)
        go_end0
        obtain ⟨f1, f2, f3, f4⟩ := HFF.out
        refine ⟨rfl, ⟨_, _, f1, ?_, ?_, fun h => absurd h (by simp)⟩, HF4.out.trans f4⟩
        · rw [List.length_append, show insV (C ++ [⟨o, d, x, y, n, k, m⟩]) = insV C ++ insL ⟨o, d, x, y, n, k, m⟩ from by simp [insV]]
          exact f2
        · rw [show ((L.getLast?.map (fun b => b.2 + 1)).getD 0, C.length) = ((0, 0) : Nat × Nat) from by rw [List.eq_nil_of_length_eq_zero HB0.out]; rw [HN0.out]; rfl]
          rw [List.length_append, show ∀ z : Nat × Nat, blkV (L ++ [z]) = blkV L ++ blkL z from fun z => by simp [blkV]]
          exact f3
      · have hLne : L ≠ [] := fun h => by have := HNIL.out h; cases this
        obtain ⟨L0, b, hLL⟩ : ∃ L0 b, L = L0 ++ [b] := ⟨L.dropLast, L.getLast hLne, (List.dropLast_concat_getLast hLne).symm⟩
        have hlb := hl b (by rw [hLL]; simp)
        have hlen : 1 ≤ L.length := by rw [hLL]; simp
        have hcl : w2.cell? ⟨gb, (L.length - 1) * 2 + 1, none⟩ = some (.int .i64 (b.2 : Nat)) := by
          have := HF3.out.cells (g := gb) rfl (2 * L0.length + 1) _ (by rw [hLL]; exact blk_last L0 b)
          rw [show ((⟨gb, 0, none⟩ : Addr).add (2 * L0.length + 1)) = ⟨gb, (L.length - 1) * 2 + 1, none⟩ from by rw [hLL]; simp [Addr.add]; omega] at this
          exact this
        have HLL := hid hLL
        clear hLL hLne hl
        go_wp2_with (at_builtin; refine wpList_append_own _ rfl (.tmp 46) (.tmp 50) 45 rfl B 117 ib zb 2 16 Tryz.underlying45 HIB.out.1 HIB.out.2.1 HIB.out.2.2.1 HIB.out.2.2.2.1 HIB.out.2.2.2.2 (by decide) (.slice (some ⟨gb, 0, none⟩) L.length capb) L.length (blkV L) (by simp [Act.eval]) (by exact own_below HF3.out ((Below.refl _ _).alloc (Nat.le_refl _) _)) ⟨w2.heap.size, 0, none⟩ 1 1 [.int .i64 ((b.2 : Int) + 1), .int .i64 (0)] (by simp [Act.eval]) rfl (by exact alloc_at w2 #[.int .i64 ((b.2 : Int) + 1), .int .i64 (0)] 117) (by intro u hu; simp only [List.mem_cons, List.not_mem_nil, or_false] at hu; rcases hu with rfl | rfl <;> rfl) (by unfold maxLen; omega) (by omega) (by simp; omega) ?_; intro v' w3 hown hgrow _; obtain ⟨g3, cap3, hv⟩ := Joins.ownsRow_form hown (by omega); subst hv; obtain ⟨f1, f2, f3, f4⟩ := add_fin2 HF2.out HF3.out HF1.out hp (Nat.le_trans hB hszw) ((Below.refl _ _).alloc (Nat.le_refl _) _) hgrow hown; have r1 := HF1.out.of_block ((grown_old HF3.out hgrow (Or.inl hp) (by simp; omega)).trans (((Below.refl w2.heap.size w2).alloc (Nat.le_refl _) _).block p (by omega))); have s1 := r1.cell (i := 1) (by omega); have s2 := r1.frozen 1; have HFF := hid (And.intro f1 (And.intro f2 (And.intro f3 f4))); clear f1 f2 f3 f4 hown hgrow r1)
        go_end0
        obtain ⟨f1, f2, f3, f4⟩ := HFF.out
        refine ⟨rfl, ⟨_, _, f1, ?_, ?_, fun h => absurd h (by simp)⟩, HF4.out.trans f4⟩
        · rw [List.length_append, show insV (C ++ [⟨o, d, x, y, n, k, m⟩]) = insV C ++ insL ⟨o, d, x, y, n, k, m⟩ from by simp [insV]]
          exact f2
        · rw [show ((L.getLast?.map (fun b => b.2 + 1)).getD 0, C.length) = ((b.2 + 1, 0) : Nat × Nat) from by rw [HLL.out, List.getLast?_concat]; rw [HN0.out]; rfl]
          rw [List.length_append, show ∀ z : Nat × Nat, blkV (L ++ [z]) = blkV L ++ blkL z from fun z => by simp [blkV]]
          exact f3
  · go_enter Tryz.func53, Tryz.ntmps53
    go_wp2_with fail
    go_region_law (refine step_append_own rfl (.tmp 16) (.tmp 18) 44 rfl B 74 ii zz 7 56 Tryz.underlying44 HI.out.1 HI.out.2.1 HI.out.2.2.1 HI.out.2.2.2.1 HI.out.2.2.2.2 (by decide) (.slice (some ⟨g, 0, none⟩) C.length cap) C.length (insV C) (by simp [Act.eval]) (by exact own_below HC.out (below_new2 _ _ _)) ⟨w.heap.size + 1, 0, none⟩ 1 1 (insL ⟨o, d, x, y, n, k, m⟩) (by simp [Act.eval]) rfl (by exact insL_at (row_new2 w o d x y n k m 74)) (insL_cells _) (by unfold maxLen; omega) (by omega) (by simp; omega) ?_; intro v' w' hown hgrow; obtain ⟨g', cap', hv⟩ := Joins.ownsRow_form hown (by omega); subst hv; obtain ⟨r1, r2⟩ := HG.out w' hgrow; have q0 := r1.cell (i := 0) (by omega); have q1 := r1.cell (i := 1) (by omega); have q2 := r1.frozen 0; obtain ⟨b0, b1, b2, b3, b4, b5, b6⟩ := row_cells r2)
    all_goals
      obtain ⟨f1, f2, f3, f4⟩ := add_fin HC.out HBk.out HR.out hp hB (below_new2 w _ _) hgrow hown
      have HF := hid (And.intro f1 (And.intro f2 (And.intro f3 f4)))
      clear f1 f2 f3 f4 hown hgrow r1 r2
      go_wp2_with fail
      refine (endsBlock_any _ _ _ _ _ _ _ _).mono ?_
      rintro e w2 ⟨rfl, hb2⟩
      rw [he]
      have HB2 := hid hb2
      have hszw : w.heap.size ≤ w2.heap.size := Nat.le_trans HF.out.2.2.2.size hb2.size
      have F1 := HF.out.1.of_block (HB2.out.block _ HF.out.1.lt)
      have F2 := own_below HF.out.2.1 HB2.out
      have F3 := own_below HF.out.2.2.1 HB2.out
      have F4 := HF.out.2.2.2.trans (But.of_below (p := p) (HB2.out.mono (Nat.le_trans hB HF.out.2.2.2.size)))
      clear hb2 HB2 HF q0 q1 q2 b0 b1 b2 b3 b4 b5 b6
      have q0 := F1.cell (i := 0) (by omega)
      have q1 := F1.cell (i := 1) (by omega)
      have q2 := F1.frozen 1
      have HF1 := hid F1
      have HF2 := hid F2
      have HF3 := hid F3
      have HF4 := hid F4
      have hfB := Joins.ownsRow_forms F3
      clear F1 F2 F3 F4 HC HBk HR HG HI c0 c1 z0
      rcases hfB with ⟨rfl, hb0⟩ | ⟨gb, capb, rfl⟩
      · have HB0 := hid hb0
        clear hb0
        go_wp2_with (at_builtin; refine wpList_append_own _ rfl (.tmp 46) (.tmp 50) 45 rfl B 117 ib zb 2 16 Tryz.underlying45 HIB.out.1 HIB.out.2.1 HIB.out.2.2.1 HIB.out.2.2.2.1 HIB.out.2.2.2.2 (by decide) (.slice none 0 0) L.length (blkV L) (by simp [Act.eval]) (by exact own_below HF3.out ((Below.refl _ _).alloc (Nat.le_refl _) _)) ⟨w2.heap.size, 0, none⟩ 1 1 [.int .i64 (0), .int .i64 ((C.length : Int))] (by simp [Act.eval]) rfl (by exact alloc_at w2 #[.int .i64 (0), .int .i64 ((C.length : Int))] 117) (by intro u hu; simp only [List.mem_cons, List.not_mem_nil, or_false] at hu; rcases hu with rfl | rfl <;> rfl) (by unfold maxLen; omega) (by omega) (by simp; omega) ?_; intro v' w3 hown hgrow _; obtain ⟨g3, cap3, hv⟩ := Joins.ownsRow_form hown (by omega); subst hv; obtain ⟨f1, f2, f3, f4⟩ := add_fin2 HF2.out HF3.out HF1.out hp (Nat.le_trans hB hszw) ((Below.refl _ _).alloc (Nat.le_refl _) _) hgrow hown; have r1 := HF1.out.of_block ((grown_old HF3.out hgrow (Or.inl hp) (by simp; omega)).trans (((Below.refl w2.heap.size w2).alloc (Nat.le_refl _) _).block p (by omega))); have s1 := r1.cell (i := 1) (by omega); have s2 := r1.frozen 1; have HFF := hid (And.intro f1 (And.intro f2 (And.intro f3 f4))); clear f1 f2 f3 f4 hown hgrow r1)
        go_end0
        obtain ⟨f1, f2, f3, f4⟩ := HFF.out
        refine ⟨rfl, ⟨_, _, f1, ?_, ?_, fun h => absurd h (by simp)⟩, HF4.out.trans f4⟩
        · rw [List.length_append, show insV (C ++ [⟨o, d, x, y, n, k, m⟩]) = insV C ++ insL ⟨o, d, x, y, n, k, m⟩ from by simp [insV]]
          exact f2
        · rw [show ((L.getLast?.map (fun b => b.2 + 1)).getD 0, C.length) = ((0, C.length) : Nat × Nat) from by rw [List.eq_nil_of_length_eq_zero HB0.out]; rfl]
          rw [List.length_append, show ∀ z : Nat × Nat, blkV (L ++ [z]) = blkV L ++ blkL z from fun z => by simp [blkV]]
          exact f3
      · have hLne : L ≠ [] := fun h => by have := HNIL.out h; cases this
        obtain ⟨L0, b, hLL⟩ : ∃ L0 b, L = L0 ++ [b] := ⟨L.dropLast, L.getLast hLne, (List.dropLast_concat_getLast hLne).symm⟩
        have hlb := hl b (by rw [hLL]; simp)
        have hlen : 1 ≤ L.length := by rw [hLL]; simp
        have hcl : w2.cell? ⟨gb, (L.length - 1) * 2 + 1, none⟩ = some (.int .i64 (b.2 : Nat)) := by
          have := HF3.out.cells (g := gb) rfl (2 * L0.length + 1) _ (by rw [hLL]; exact blk_last L0 b)
          rw [show ((⟨gb, 0, none⟩ : Addr).add (2 * L0.length + 1)) = ⟨gb, (L.length - 1) * 2 + 1, none⟩ from by rw [hLL]; simp [Addr.add]; omega] at this
          exact this
        have HLL := hid hLL
        clear hLL hLne hl
        go_wp2_with (at_builtin; refine wpList_append_own _ rfl (.tmp 46) (.tmp 50) 45 rfl B 117 ib zb 2 16 Tryz.underlying45 HIB.out.1 HIB.out.2.1 HIB.out.2.2.1 HIB.out.2.2.2.1 HIB.out.2.2.2.2 (by decide) (.slice (some ⟨gb, 0, none⟩) L.length capb) L.length (blkV L) (by simp [Act.eval]) (by exact own_below HF3.out ((Below.refl _ _).alloc (Nat.le_refl _) _)) ⟨w2.heap.size, 0, none⟩ 1 1 [.int .i64 ((b.2 : Int) + 1), .int .i64 ((C.length : Int))] (by simp [Act.eval]) rfl (by exact alloc_at w2 #[.int .i64 ((b.2 : Int) + 1), .int .i64 ((C.length : Int))] 117) (by intro u hu; simp only [List.mem_cons, List.not_mem_nil, or_false] at hu; rcases hu with rfl | rfl <;> rfl) (by unfold maxLen; omega) (by omega) (by simp; omega) ?_; intro v' w3 hown hgrow _; obtain ⟨g3, cap3, hv⟩ := Joins.ownsRow_form hown (by omega); subst hv; obtain ⟨f1, f2, f3, f4⟩ := add_fin2 HF2.out HF3.out HF1.out hp (Nat.le_trans hB hszw) ((Below.refl _ _).alloc (Nat.le_refl _) _) hgrow hown; have r1 := HF1.out.of_block ((grown_old HF3.out hgrow (Or.inl hp) (by simp; omega)).trans (((Below.refl w2.heap.size w2).alloc (Nat.le_refl _) _).block p (by omega))); have s1 := r1.cell (i := 1) (by omega); have s2 := r1.frozen 1; have HFF := hid (And.intro f1 (And.intro f2 (And.intro f3 f4))); clear f1 f2 f3 f4 hown hgrow r1)
        go_end0
        obtain ⟨f1, f2, f3, f4⟩ := HFF.out
        refine ⟨rfl, ⟨_, _, f1, ?_, ?_, fun h => absurd h (by simp)⟩, HF4.out.trans f4⟩
        · rw [List.length_append, show insV (C ++ [⟨o, d, x, y, n, k, m⟩]) = insV C ++ insL ⟨o, d, x, y, n, k, m⟩ from by simp [insV]]
          exact f2
        · rw [show ((L.getLast?.map (fun b => b.2 + 1)).getD 0, C.length) = ((b.2 + 1, C.length) : Nat × Nat) from by rw [HLL.out, List.getLast?_concat]; rfl]
          rw [List.length_append, show ∀ z : Nat × Nat, blkV (L ++ [z]) = blkV L ++ blkL z from fun z => by simp [blkV]]
          exact f3
end Go.Proofs.YtccndnckceagfabGreatDoorR
