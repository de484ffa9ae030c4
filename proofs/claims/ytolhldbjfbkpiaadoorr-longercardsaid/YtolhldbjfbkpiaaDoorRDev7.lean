/-
  Whether what was read is whole.
-/
import Derived.Test.YtolhldbjfbkpiaaDoorRDev6
namespace Go.Proofs.YtolhldbjfbkpiaaDoorR
open Go.RowKit

theorem blkV_at (L : List (Nat × Nat)) (j : Nat) (hj : j < L.length) : (blkV L)[j * 2 + 1]? = some (.int .i64 (L[j].2 : Nat)) ∧ (blkV L)[j * 2]? = some (.int .i64 (L[j].1 : Nat)) := by
  induction L generalizing j with
  | nil => simp at hj
  | cons c l ih =>
    rw [show blkV (c :: l) = blkL c ++ blkV l from by simp [blkV]]
    cases j with
    | zero => exact ⟨rfl, rfl⟩
    | succ j =>
      rw [List.getElem?_append_right (by simp [blkL]; omega), List.getElem?_append_right (by simp [blkL]; omega)]
      rw [show (j + 1) * 2 + 1 - (blkL c).length = j * 2 + 1 from by simp [blkL]; omega, show (j + 1) * 2 - (blkL c).length = j * 2 from by simp [blkL]; omega]
      exact ih j (by simpa using hj)
theorem blk_cells {w : World} {B g n cap : Nat} {L : List (Nat × Nat)} (h : w.ownsRow B 130 2 (.slice (some ⟨g, 0, none⟩) n cap) n (blkV L)) (j : Nat) (hj : j < L.length) :
    w.cell? ⟨g, j * 2, none⟩ = some (.int .i64 (L[j].1 : Nat)) ∧ w.cell? ⟨g, j * 2 + 1, none⟩ = some (.int .i64 (L[j].2 : Nat)) := by
  have h1 := h.cells (g := g) rfl (j * 2) _ (blkV_at L j hj).2
  have h2 := h.cells (g := g) rfl (j * 2 + 1) _ (blkV_at L j hj).1
  rw [show ((⟨g, 0, none⟩ : Addr).add (j * 2)) = ⟨g, j * 2, none⟩ from by simp only [Addr.add, Nat.zero_add]; split <;> simp_all] at h1
  rw [show ((⟨g, 0, none⟩ : Addr).add (j * 2 + 1)) = ⟨g, j * 2 + 1, none⟩ from by simp only [Addr.add, Nat.zero_add]; split <;> simp_all] at h2
  exact ⟨h1, h2⟩

set_option maxHeartbeats 1000000 in
theorem isWhole_loop (B p : Nat) (C : List Sp.Ins) (L : List (Nat × Nat)) (w : World) (hP : ProgAt w B p C L) (hC : C.length ≤ 1100) (h1 : 1 ≤ L.length) (h10 : L.length ≤ 10) (hC0 : 1 ≤ C.length)
    (hlast : (L[L.length - 1]'(by omega)).2 = C.length - 1) :
    Calls Tryd.prog 80 #[.pointer (some ⟨p, 0, none⟩)] w fun e w' => e = .returned (.bool (C.all fun i => Sp.isTgt i.k L.length && Sp.isTgt i.m L.length)) ∧ Below w.heap.size w w' := by
  obtain ⟨vC, vB, hrow, hoC, hoB, hnil⟩ := hP
  clear hnil
  have c0 : w.cell? ⟨p, 0, none⟩ = some vC := hrow.cell (i := 0) (by omega)
  have c1 : w.cell? ⟨p, 1, none⟩ = some vB := hrow.cell (i := 1) (by omega)
  have HR := hid hrow
  have HC := hid hoC
  obtain ⟨g, cap, rfl⟩ := Joins.ownsRow_form hoC (by omega)
  obtain ⟨gb, capb, rfl⟩ := Joins.ownsRow_form hoB (by omega)
  have d1 := (blk_cells hoB (L.length - 1) (by omega)).2
  rw [hlast] at d1
  clear hoB hrow hlast
  obtain ⟨nb, hnb⟩ : ∃ nb, L.length = nb + 1 := ⟨L.length - 1, by omega⟩
  obtain ⟨nc, hnc⟩ : ∃ nc, C.length = nc + 1 := ⟨C.length - 1, by omega⟩
  have HCC : Hid (C.length = nc + 1) := hid hnc
  rw [hnb] at c1 d1 ⊢
  rw [hnc] at c0 d1
  rw [Nat.add_sub_cancel, Nat.add_sub_cancel] at d1
  have hnb9 : nb ≤ 9 := by omega
  have hnc9 : nc ≤ 1099 := by omega
  have e1 : IntKind.i64.wrap (nb : Int) = nb := IntWalk.i64_in _ (by omega)
  have e2 : IntKind.i64.wrap (nc : Int) = nc := IntWalk.i64_in _ (by omega)
  have g1 : decide ((nb : Int) + 1 < 1) = false := by simp; omega
  have g2 : decide ((10 : Int) < (nb : Int) + 1) = false := by simp; omega
  clear hnb hnc h1 h10 hC0 hoC hC
  go_enter Tryd.func80, Tryd.ntmps80
  go_wp2_with fail
  go_quiet (fail)
  go_wp2_with fail
  go_loopw [40] (fun kv wr => ∃ j : Nat, j ≤ nc + 1 ∧ kv = .int .i64 j ∧ (∀ i (h : i < C.length), i < j → (Sp.isTgt C[i].k ((nb : Int) + 1) = true ∧ Sp.isTgt C[i].m ((nb : Int) + 1) = true)) ∧ Below w.heap.size w wr) (fun kv _ => nc + 1 - (intOf kv).toNat)
  case atStart => exact ⟨0, by omega, rfl, (fun i _ hi => by omega), below_drewN (Below.refl _ _) _⟩
  case round =>
    obtain ⟨j, hj, rfl, hall, hbel⟩ := hrel
    have HALL := hid hall
    have HB := hid hbel
    clear hall
    by_cases hlt : j < nc + 1
    · obtain ⟨c1, c2, c3, c4, c5, c6, c7⟩ := ins_cells (own_below HC.out hbel) j (by rw [HCC.out]; exact hlt)
      clear hbel
      generalize hI : C[j]'(by rw [HCC.out]; exact hlt) = I at *
      have HI := hid hI
      clear hI
      cases hk : Sp.isTgt I.k ((nb : Int) + 1)
      · have HK := hid hk
        go_wp2_with (go_at_call 102; refine (isTarget_any _ _ _).mono ?_; rintro e w' ⟨rfl, rfl⟩)
        go_ret
        refine ⟨ret_bool ?_, HB.out.alloc HB.out.size _⟩
        rw [eq_comm, List.all_eq_false]
        exact ⟨I, by rw [← HI.out]; exact List.getElem_mem _, by rw [show ((nb + 1 : Nat) : Int) = (nb : Int) + 1 from rfl, HK.out]; simp⟩
      · have HK := hid hk
        cases hm : Sp.isTgt I.m ((nb : Int) + 1)
        · have HM := hid hm
          go_wp2_with (go_at_call 102; refine (isTarget_any _ _ _).mono ?_; rintro e w' ⟨rfl, rfl⟩)
          go_ret
          refine ⟨ret_bool ?_, HB.out.alloc HB.out.size _⟩
          rw [eq_comm, List.all_eq_false]
          exact ⟨I, by rw [← HI.out]; exact List.getElem_mem _, by rw [show ((nb + 1 : Nat) : Int) = (nb : Int) + 1 from rfl, HM.out]; simp⟩
        · have HM := hid hm
          go_wp2_with (go_at_call 102; refine (isTarget_any _ _ _).mono ?_; rintro e w' ⟨rfl, rfl⟩)
          go_roundw
          case rel => exact ⟨j + 1, by omega, by go_num, (fun i h hi => by
            by_cases e : i = j
            · subst e; rw [HI.out]; exact ⟨HK.out, HM.out⟩
            · exact HALL.out i h (by omega)), HB.out.alloc HB.out.size _⟩
          case measure => simp [intOf]; omega
    · have HK := hid (show j = nc + 1 by omega)
      clear hbel
      go_wp2_with fail
      go_ret
      refine ⟨ret_bool ?_, HB.out⟩
      rw [eq_comm, List.all_eq_true]
      intro x hx
      obtain ⟨i, hi, rfl⟩ := List.getElem_of_mem hx
      obtain ⟨h1, h2⟩ := HALL.out i hi (by rw [HK.out, ← HCC.out]; exact hi)
      rw [show ((nb + 1 : Nat) : Int) = (nb : Int) + 1 from rfl, h1, h2]; rfl

set_option maxHeartbeats 1000000 in
theorem isWhole_none (B p : Nat) (C : List Sp.Ins) (w : World) (hP : ProgAt w B p C []) :
    Calls Tryd.prog 80 #[.pointer (some ⟨p, 0, none⟩)] w fun e w' => e = .returned (.bool false) ∧ Below w.heap.size w w' := by
  obtain ⟨vC, vB, hrow, hoC, hoB, hnil⟩ := hP
  have hv := hnil rfl
  subst hv
  have c1 : w.cell? ⟨p, 1, none⟩ = some (.slice none 0 0) := hrow.cell (i := 1) (by omega)
  clear hoC hoB hrow hnil
  go_enter Tryd.func80, Tryd.ntmps80
  go_wp2_with fail
  go_quiet (fail)
  go_wp2_with fail
  go_ret
  exact ⟨rfl, below_drewN (Below.refl _ _) _⟩

set_option maxHeartbeats 1000000 in
theorem isWhole_many (B p : Nat) (C : List Sp.Ins) (L : List (Nat × Nat)) (w : World) (hP : ProgAt w B p C L) (h10 : 10 < L.length) (h1000 : L.length ≤ 1100) :
    Calls Tryd.prog 80 #[.pointer (some ⟨p, 0, none⟩)] w fun e w' => e = .returned (.bool false) ∧ Below w.heap.size w w' := by
  obtain ⟨vC, vB, hrow, hoC, hoB, hnil⟩ := hP
  have c1 : w.cell? ⟨p, 1, none⟩ = some vB := hrow.cell (i := 1) (by omega)
  obtain ⟨gb, capb, rfl⟩ := Joins.ownsRow_form hoB (by omega)
  clear hoC hoB hrow hnil
  have g1 : decide ((L.length : Int) < 1) = false := by simp; omega
  have g2 : decide ((10 : Int) < (L.length : Int)) = true := by simp; omega
  go_enter Tryd.func80, Tryd.ntmps80
  go_wp2_with fail
  go_quiet (fail)
  go_wp2_with fail
  go_ret
  exact ⟨rfl, below_drewN (Below.refl _ _) _⟩

set_option maxHeartbeats 1000000 in
theorem isWhole_open (B p : Nat) (C : List Sp.Ins) (L : List (Nat × Nat)) (w : World) (hP : ProgAt w B p C L) (hC : C.length ≤ 1100) (h1 : 1 ≤ L.length) (h10 : L.length ≤ 10) (hC0 : 1 ≤ C.length)
    (hlast : (L[L.length - 1]'(by omega)).2 ≠ C.length - 1) :
    Calls Tryd.prog 80 #[.pointer (some ⟨p, 0, none⟩)] w fun e w' => e = .returned (.bool false) ∧ Below w.heap.size w w' := by
  obtain ⟨vC, vB, hrow, hoC, hoB, hnil⟩ := hP
  clear hnil
  have c0 : w.cell? ⟨p, 0, none⟩ = some vC := hrow.cell (i := 0) (by omega)
  have c1 : w.cell? ⟨p, 1, none⟩ = some vB := hrow.cell (i := 1) (by omega)
  obtain ⟨g, cap, rfl⟩ := Joins.ownsRow_form hoC (by omega)
  obtain ⟨gb, capb, rfl⟩ := Joins.ownsRow_form hoB (by omega)
  have d1 := (blk_cells hoB (L.length - 1) (by omega)).2
  generalize (L[L.length - 1]'(by omega)).2 = la at *
  obtain ⟨nb, hnb⟩ : ∃ nb, L.length = nb + 1 := ⟨L.length - 1, by omega⟩
  obtain ⟨nc, hnc⟩ : ∃ nc, C.length = nc + 1 := ⟨C.length - 1, by omega⟩
  rw [hnb] at c1 d1
  rw [hnc] at c0 hlast
  rw [Nat.add_sub_cancel] at d1 hlast
  have hnb9 : nb ≤ 9 := by omega
  have hnc9 : nc ≤ 1099 := by omega
  have e1 : IntKind.i64.wrap (nb : Int) = nb := IntWalk.i64_in _ (by omega)
  have e2 : IntKind.i64.wrap (nc : Int) = nc := IntWalk.i64_in _ (by omega)
  have g1 : decide ((nb : Int) + 1 < 1) = false := by simp; omega
  have g2 : decide ((10 : Int) < (nb : Int) + 1) = false := by simp; omega
  have g3 : ((la : Int) != (nc : Int)) = true := by rw [bne_iff_ne]; omega
  clear hnb hnc h1 h10 hC0 hoC hC hoB hrow hlast
  go_enter Tryd.func80, Tryd.ntmps80
  go_wp2_with fail
  go_quiet (fail)
  go_wp2_with fail
  go_ret
  exact ⟨rfl, below_drewN (Below.refl _ _) _⟩
end Go.Proofs.YtolhldbjfbkpiaaDoorR
