/-
  Functions of the program that look at a program in memory: whether a secret may show.
  Whether what was read is whole.
-/
import Derived.Test.YtccndnckceagfabGreatDoorRHDev4
namespace Go.Proofs.YtccndnckceagfabGreatDoorR
open Go.RowKit

theorem insV_len (C : List Sp.Ins) : (insV C).length = 7 * C.length := by
  induction C with
  | nil => rfl
  | cons c l ih => simp only [insV, List.flatMap_cons, List.length_append, List.length_cons] at ih ⊢; rw [ih]; simp [insL]; omega
theorem insV_at (C : List Sp.Ins) (j t : Nat) (ht : t < 7) (hj : j < C.length) : (insV C)[j * 7 + t]? = some (insF C[j] t) := by
  induction C generalizing j with
  | nil => simp at hj
  | cons c l ih =>
    rw [show insV (c :: l) = insL c ++ insV l from by simp [insV]]
    cases j with
    | zero =>
      rw [List.getElem?_append_left (by simp [insL]; omega)]
      have ht' : t = 0 ∨ t = 1 ∨ t = 2 ∨ t = 3 ∨ t = 4 ∨ t = 5 ∨ t = 6 := by omega
      rcases ht' with rfl | rfl | rfl | rfl | rfl | rfl | rfl <;> rfl
    | succ j =>
      rw [List.getElem?_append_right (by simp [insL]; omega)]
      rw [show (j + 1) * 7 + t - (insL c).length = j * 7 + t from by simp [insL]; omega]
      exact ih j (by simpa using hj)
theorem ins_cell {w : World} {B g n cap : Nat} {C : List Sp.Ins} (h : w.ownsRow B 74 7 (.slice (some ⟨g, 0, none⟩) n cap) n (insV C)) (j : Nat) (hj : j < C.length) (t : Nat) (ht : t < 7) : w.cell? ⟨g, j * 7 + t, none⟩ = some (insF C[j] t) := by
  have := h.cells (g := g) rfl (j * 7 + t) _ (insV_at C j t ht hj)
  rw [show ((⟨g, 0, none⟩ : Addr).add (j * 7 + t)) = ⟨g, j * 7 + t, none⟩ from by simp only [Addr.add, Nat.zero_add]; split <;> simp_all] at this
  exact this
theorem ins_cells {w : World} {B g n cap : Nat} {C : List Sp.Ins} (h : w.ownsRow B 74 7 (.slice (some ⟨g, 0, none⟩) n cap) n (insV C)) (j : Nat) (hj : j < C.length) :
    w.cell? ⟨g, j * 7, none⟩ = some (.int .u8 C[j].o) ∧ w.cell? ⟨g, j * 7 + 1, none⟩ = some (.int .i64 C[j].d) ∧ w.cell? ⟨g, j * 7 + 2, none⟩ = some (.int .i64 C[j].x) ∧ w.cell? ⟨g, j * 7 + 3, none⟩ = some (.int .i64 C[j].y) ∧ w.cell? ⟨g, j * 7 + 4, none⟩ = some (.int .i64 C[j].n) ∧ w.cell? ⟨g, j * 7 + 5, none⟩ = some (.int .i64 C[j].k) ∧ w.cell? ⟨g, j * 7 + 6, none⟩ = some (.int .i64 C[j].m) :=
  ⟨ins_cell h j hj 0 (by omega), ins_cell h j hj 1 (by omega), ins_cell h j hj 2 (by omega), ins_cell h j hj 3 (by omega), ins_cell h j hj 4 (by omega), ins_cell h j hj 5 (by omega), ins_cell h j hj 6 (by omega)⟩
theorem ProgAt.move {w w' : World} {B p : Nat} {C : List Sp.Ins} {L : List (Nat × Nat)} (h : ProgAt w B p C L) (hb : Below w.heap.size w w') : ProgAt w' B p C L := by
  obtain ⟨vC, vB, h1, h2, h3, h4⟩ := h
  exact ⟨vC, vB, h1.of_block (hb.block _ h1.lt), own_below h2 hb, own_below h3 hb, h4⟩

set_option maxHeartbeats 1000000 in
theorem mayShow_any (B p : Nat) (C : List Sp.Ins) (L : List (Nat × Nat)) (w : World) (hP : ProgAt w B p C L) (hC : C.length ≤ 1100) :
    Calls Tryz.prog 21 #[.pointer (some ⟨p, 0, none⟩)] w fun e w' => e = .returned (.bool (C.any Sp.showI)) ∧ Below w.heap.size w w' := by
  obtain ⟨vC, vB, hrow, hoC, hoB, _⟩ := hP
  have c0 : w.cell? ⟨p, 0, none⟩ = some vC := hrow.cell (i := 0) (by omega)
  have HR := hid hrow
  have HC := hid hoC
  have hf := Joins.ownsRow_forms hoC
  clear hoC hoB hrow
  rcases hf with ⟨rfl, hn0⟩ | ⟨g, cap, rfl⟩
  · have HN0 := hid hn0
    clear hn0
    go_enter Tryz.func21, Tryz.ntmps21
    go_wp2_with fail
    go_loopw [10] (fun kv wr => kv = .int .i64 0 ∧ wr = w) (fun _ _ => 0)
    case atStart => exact ⟨rfl, rfl⟩
    case round =>
      obtain ⟨rfl, rfl⟩ := hrel
      go_wp2_with fail
      go_ret
      exact ⟨ret_bool (by rw [List.eq_nil_of_length_eq_zero HN0.out]; rfl), Below.refl _ _⟩
  · go_enter Tryz.func21, Tryz.ntmps21
    go_wp2_with fail
    go_loopw [10] (fun kv wr => ∃ j : Nat, j ≤ C.length ∧ kv = .int .i64 j ∧ (∀ i (h : i < C.length), i < j → Sp.showI C[i] = false) ∧ Below w.heap.size w wr) (fun kv _ => C.length - (intOf kv).toNat)
    case atStart => exact ⟨0, by omega, rfl, fun i _ hi => by omega, Below.refl _ _⟩
    case round =>
      obtain ⟨j, hj, rfl, hall, hbel⟩ := hrel
      have HALL := hid hall
      have HB := hid hbel
      clear hall
      by_cases hlt : j < C.length
      · obtain ⟨c1, c2, c3, c4, c5, c6, c7⟩ := ins_cells (own_below HC.out hbel) j hlt
        clear hbel
        generalize hI : C[j] = I at *
        have HI := hid hI
        clear hI
        go_wp2_with fail
        refine (dshows_any _ _ _ _ _ _ _ _).mono ?_
        rintro e w1 ⟨rfl, hb1⟩
        have HB1 := hid (HB.out.trans (((Below.refl _ _).alloc (Nat.le_refl _) _).trans (hb1.mono (by simp)) |>.mono HB.out.size))
        clear hb1
        cases hsh : Sp.showI ⟨I.o, I.d, I.x, I.y, I.n, I.k, I.m⟩
        · have HS := hid hsh
          clear hsh
          go_wp2_with fail
          go_roundw
          case rel => exact ⟨j + 1, by omega, by go_num, (fun i h hi => by
            by_cases e : i = j
            · subst e; rw [HI.out]; exact HS.out
            · exact HALL.out i h (by omega)), HB1.out⟩
          case measure => simp [intOf]; omega
        · have HS := hid hsh
          clear hsh
          go_wp2_with fail
          go_ret
          refine ⟨ret_bool ?_, HB1.out⟩
          rw [eq_comm, List.any_eq_true]
          exact ⟨C[j], List.getElem_mem hlt, by rw [HI.out]; exact HS.out⟩
      · have HK := hid (show j = C.length by omega)
        clear hbel
        go_wp2_with fail
        go_ret
        refine ⟨ret_bool ?_, HB.out⟩
        rw [eq_comm, List.any_eq_false]
        intro x hx
        obtain ⟨i, hi, rfl⟩ := List.getElem_of_mem hx
        rw [HALL.out i hi (by rw [HK.out]; exact hi)]
        simp
end Go.Proofs.YtccndnckceagfabGreatDoorR

namespace Go.Proofs.YtccndnckceagfabGreatDoorR
open Go.RowKit

theorem blkV_at (L : List (Nat × Nat)) (j : Nat) (hj : j < L.length) : (blkV L)[j * 2 + 1]? = some (.int .i64 (L[j].2 : Nat)) ∧ (blkV L)[j * 2]? = some (.int .i64 (L[j].1 : Nat)) := by
  induction L generalizing j with
  | nil => simp at hj
  | cons c l ih =>
    rw [show blkV (c :: l) = blkL c ++ blkV l from by simp [blkV]]
    cases j with
    | zero => exact ⟨rfl, rfl⟩
    | succ j =>
      rw [List.getElem?_append_right (by simp [blkL]; omega), List.getElem?_append_right (by simp [blkL]; omega)]
      rw [show (j + 1) * 2 + 1 - (blkL c).length = j * 2 + 1 from by simp [blkL]; omega, show (j + 1) * 2 - (blkL c).length = j * 2 from by simp [blkL]; omega]
      exact ih j (by simpa using hj)
theorem blk_cells {w : World} {B g n cap : Nat} {L : List (Nat × Nat)} (h : w.ownsRow B 117 2 (.slice (some ⟨g, 0, none⟩) n cap) n (blkV L)) (j : Nat) (hj : j < L.length) :
    w.cell? ⟨g, j * 2, none⟩ = some (.int .i64 (L[j].1 : Nat)) ∧ w.cell? ⟨g, j * 2 + 1, none⟩ = some (.int .i64 (L[j].2 : Nat)) := by
  have h1 := h.cells (g := g) rfl (j * 2) _ (blkV_at L j hj).2
  have h2 := h.cells (g := g) rfl (j * 2 + 1) _ (blkV_at L j hj).1
  rw [show ((⟨g, 0, none⟩ : Addr).add (j * 2)) = ⟨g, j * 2, none⟩ from by simp only [Addr.add, Nat.zero_add]; split <;> simp_all] at h1
  rw [show ((⟨g, 0, none⟩ : Addr).add (j * 2 + 1)) = ⟨g, j * 2 + 1, none⟩ from by simp only [Addr.add, Nat.zero_add]; split <;> simp_all] at h2
  exact ⟨h1, h2⟩

set_option maxHeartbeats 1000000 in
theorem isWhole_loop (B p : Nat) (C : List Sp.Ins) (L : List (Nat × Nat)) (w : World) (hP : ProgAt w B p C L) (hC : C.length ≤ 1100) (h1 : 1 ≤ L.length) (h10 : L.length ≤ 10) (hC0 : 1 ≤ C.length)
    (hlast : (L[L.length - 1]'(by omega)).2 = C.length - 1) :
    Calls Tryz.prog 54 #[.pointer (some ⟨p, 0, none⟩)] w fun e w' => e = .returned (.bool (C.all fun i => Sp.isTgt i.k L.length && Sp.isTgt i.m L.length)) ∧ Below w.heap.size w w' := by
  obtain ⟨vC, vB, hrow, hoC, hoB, hnil⟩ := hP
  clear hnil
  have c0 : w.cell? ⟨p, 0, none⟩ = some vC := hrow.cell (i := 0) (by omega)
  have c1 : w.cell? ⟨p, 1, none⟩ = some vB := hrow.cell (i := 1) (by omega)
  have HR := hid hrow
  have HC := hid hoC
  obtain ⟨g, cap, rfl⟩ := Joins.ownsRow_form hoC (by omega)
  obtain ⟨gb, capb, rfl⟩ := Joins.ownsRow_form hoB (by omega)
  have d1 := (blk_cells hoB (L.length - 1) (by omega)).2
  rw [hlast] at d1
  clear hoB hrow hlast
  obtain ⟨nb, hnb⟩ : ∃ nb, L.length = nb + 1 := ⟨L.length - 1, by omega⟩
  obtain ⟨nc, hnc⟩ : ∃ nc, C.length = nc + 1 := ⟨C.length - 1, by omega⟩
  have HCC : Hid (C.length = nc + 1) := hid hnc
  rw [hnb] at c1 d1 ⊢
  rw [hnc] at c0 d1
  rw [Nat.add_sub_cancel, Nat.add_sub_cancel] at d1
  have hnb9 : nb ≤ 9 := by omega
  have hnc9 : nc ≤ 1099 := by omega
  have e1 : IntKind.i64.wrap (nb : Int) = nb := IntWalk.i64_in _ (by omega)
  have e2 : IntKind.i64.wrap (nc : Int) = nc := IntWalk.i64_in _ (by omega)
  have g1 : decide ((nb : Int) + 1 < 1) = false := by simp; omega
  have g2 : decide ((10 : Int) < (nb : Int) + 1) = false := by simp; omega
  clear hnb hnc h1 h10 hC0 hoC hC
  go_enter Tryz.func54, Tryz.ntmps54
  go_wp2_with fail
  go_quiet (fail)
  go_wp2_with fail
  go_loopw [40] (fun kv wr => ∃ j : Nat, j ≤ nc + 1 ∧ kv = .int .i64 j ∧ (∀ i (h : i < C.length), i < j → (Sp.isTgt C[i].k ((nb : Int) + 1) = true ∧ Sp.isTgt C[i].m ((nb : Int) + 1) = true)) ∧ Below w.heap.size w wr) (fun kv _ => nc + 1 - (intOf kv).toNat)
  case atStart => exact ⟨0, by omega, rfl, (fun i _ hi => by omega), below_drewN (Below.refl _ _) _⟩
  case round =>
    obtain ⟨j, hj, rfl, hall, hbel⟩ := hrel
    have HALL := hid hall
    have HB := hid hbel
    clear hall
    by_cases hlt : j < nc + 1
    · obtain ⟨c1, c2, c3, c4, c5, c6, c7⟩ := ins_cells (own_below HC.out hbel) j (by rw [HCC.out]; exact hlt)
      clear hbel
      generalize hI : C[j]'(by rw [HCC.out]; exact hlt) = I at *
      have HI := hid hI
      clear hI
      cases hk : Sp.isTgt I.k ((nb : Int) + 1)
      · have HK := hid hk
        go_wp2_with (go_at_call 79; refine (isTarget_any _ _ _).mono ?_; rintro e w' ⟨rfl, rfl⟩)
        go_ret
        refine ⟨ret_bool ?_, HB.out.alloc HB.out.size _⟩
        rw [eq_comm, List.all_eq_false]
        exact ⟨I, by rw [← HI.out]; exact List.getElem_mem _, by rw [show ((nb + 1 : Nat) : Int) = (nb : Int) + 1 from rfl, HK.out]; simp⟩
      · have HK := hid hk
        cases hm : Sp.isTgt I.m ((nb : Int) + 1)
        · have HM := hid hm
          go_wp2_with (go_at_call 79; refine (isTarget_any _ _ _).mono ?_; rintro e w' ⟨rfl, rfl⟩)
          go_ret
          refine ⟨ret_bool ?_, HB.out.alloc HB.out.size _⟩
          rw [eq_comm, List.all_eq_false]
          exact ⟨I, by rw [← HI.out]; exact List.getElem_mem _, by rw [show ((nb + 1 : Nat) : Int) = (nb : Int) + 1 from rfl, HM.out]; simp⟩
        · have HM := hid hm
          go_wp2_with (go_at_call 79; refine (isTarget_any _ _ _).mono ?_; rintro e w' ⟨rfl, rfl⟩)
          go_roundw
          case rel => exact ⟨j + 1, by omega, by go_num, (fun i h hi => by
            by_cases e : i = j
            · subst e; rw [HI.out]; exact ⟨HK.out, HM.out⟩
            · exact HALL.out i h (by omega)), HB.out.alloc HB.out.size _⟩
          case measure => simp [intOf]; omega
    · have HK := hid (show j = nc + 1 by omega)
      clear hbel
      go_wp2_with fail
      go_ret
      refine ⟨ret_bool ?_, HB.out⟩
      rw [eq_comm, List.all_eq_true]
      intro x hx
      obtain ⟨i, hi, rfl⟩ := List.getElem_of_mem hx
      obtain ⟨h1, h2⟩ := HALL.out i hi (by rw [HK.out, ← HCC.out]; exact hi)
      rw [show ((nb + 1 : Nat) : Int) = (nb : Int) + 1 from rfl, h1, h2]; rfl

set_option maxHeartbeats 1000000 in
theorem isWhole_none (B p : Nat) (C : List Sp.Ins) (w : World) (hP : ProgAt w B p C []) :
    Calls Tryz.prog 54 #[.pointer (some ⟨p, 0, none⟩)] w fun e w' => e = .returned (.bool false) ∧ Below w.heap.size w w' := by
  obtain ⟨vC, vB, hrow, hoC, hoB, hnil⟩ := hP
  have hv := hnil rfl
  subst hv
  have c1 : w.cell? ⟨p, 1, none⟩ = some (.slice none 0 0) := hrow.cell (i := 1) (by omega)
  clear hoC hoB hrow hnil
  go_enter Tryz.func54, Tryz.ntmps54
  go_wp2_with fail
  go_quiet (fail)
  go_wp2_with fail
  go_ret
  exact ⟨rfl, below_drewN (Below.refl _ _) _⟩

set_option maxHeartbeats 1000000 in
theorem isWhole_many (B p : Nat) (C : List Sp.Ins) (L : List (Nat × Nat)) (w : World) (hP : ProgAt w B p C L) (h10 : 10 < L.length) (h1000 : L.length ≤ 1100) :
    Calls Tryz.prog 54 #[.pointer (some ⟨p, 0, none⟩)] w fun e w' => e = .returned (.bool false) ∧ Below w.heap.size w w' := by
  obtain ⟨vC, vB, hrow, hoC, hoB, hnil⟩ := hP
  have c1 : w.cell? ⟨p, 1, none⟩ = some vB := hrow.cell (i := 1) (by omega)
  obtain ⟨gb, capb, rfl⟩ := Joins.ownsRow_form hoB (by omega)
  clear hoC hoB hrow hnil
  have g1 : decide ((L.length : Int) < 1) = false := by simp; omega
  have g2 : decide ((10 : Int) < (L.length : Int)) = true := by simp; omega
  go_enter Tryz.func54, Tryz.ntmps54
  go_wp2_with fail
  go_quiet (fail)
  go_wp2_with fail
  go_ret
  exact ⟨rfl, below_drewN (Below.refl _ _) _⟩

set_option maxHeartbeats 1000000 in
theorem isWhole_open (B p : Nat) (C : List Sp.Ins) (L : List (Nat × Nat)) (w : World) (hP : ProgAt w B p C L) (hC : C.length ≤ 1100) (h1 : 1 ≤ L.length) (h10 : L.length ≤ 10) (hC0 : 1 ≤ C.length)
    (hlast : (L[L.length - 1]'(by omega)).2 ≠ C.length - 1) :
    Calls Tryz.prog 54 #[.pointer (some ⟨p, 0, none⟩)] w fun e w' => e = .returned (.bool false) ∧ Below w.heap.size w w' := by
  obtain ⟨vC, vB, hrow, hoC, hoB, hnil⟩ := hP
  clear hnil
  have c0 : w.cell? ⟨p, 0, none⟩ = some vC := hrow.cell (i := 0) (by omega)
  have c1 : w.cell? ⟨p, 1, none⟩ = some vB := hrow.cell (i := 1) (by omega)
  obtain ⟨g, cap, rfl⟩ := Joins.ownsRow_form hoC (by omega)
  obtain ⟨gb, capb, rfl⟩ := Joins.ownsRow_form hoB (by omega)
  have d1 := (blk_cells hoB (L.length - 1) (by omega)).2
  generalize (L[L.length - 1]'(by omega)).2 = la at *
  obtain ⟨nb, hnb⟩ : ∃ nb, L.length = nb + 1 := ⟨L.length - 1, by omega⟩
  obtain ⟨nc, hnc⟩ : ∃ nc, C.length = nc + 1 := ⟨C.length - 1, by omega⟩
  rw [hnb] at c1 d1
  rw [hnc] at c0 hlast
  rw [Nat.add_sub_cancel] at d1 hlast
  have hnb9 : nb ≤ 9 := by omega
  have hnc9 : nc ≤ 1099 := by omega
  have e1 : IntKind.i64.wrap (nb : Int) = nb := IntWalk.i64_in _ (by omega)
  have e2 : IntKind.i64.wrap (nc : Int) = nc := IntWalk.i64_in _ (by omega)
  have g1 : decide ((nb : Int) + 1 < 1) = false := by simp; omega
  have g2 : decide ((10 : Int) < (nb : Int) + 1) = false := by simp; omega
  have g3 : ((la : Int) != (nc : Int)) = true := by rw [bne_iff_ne]; omega
  clear hnb hnc h1 h10 hC0 hoC hC hoB hrow hlast
  go_enter Tryz.func54, Tryz.ntmps54
  go_wp2_with fail
  go_quiet (fail)
  go_wp2_with fail
  go_ret
  exact ⟨rfl, below_drewN (Below.refl _ _) _⟩
end Go.Proofs.YtccndnckceagfabGreatDoorR
