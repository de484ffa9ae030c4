/-
  What is live at the beginning of all blocks: the program's rounds.
-/
import Derived.Test.YtolhldbjfbkpiaaDoorRFlow2
namespace Go.Proofs.YtolhldbjfbkpiaaDoorR
open Go.RowKit

theorem info_set3 : ∃ i, Tryd.prog.info? 99 = some i ∧ i.zero = some (.agg (setL (fun _ => false)).toArray) ∧ i.size = 52 ∧ i.bytes = 52 := by
  have h : (Tryd.prog.info? 99).map (fun i => (i.zero, i.size, i.bytes)) = some (some (.agg (setL (fun _ => false)).toArray), 52, 52) := by kernel_rfl
  obtain ⟨i, hi, hz⟩ := Option.map_eq_some_iff.1 h
  simp only [Prod.mk.injEq] at hz
  exact ⟨i, hi, hz.1, hz.2.1, hz.2.2⟩
theorem run_make_sets (nb : Nat) (h : nb ≤ 10) (w : World) : (Instr.makeSlice 95 (.int .i64 (nb : Int)) (.int .i64 (nb : Int))).run Tryd.prog w = .ok (.slice (some ⟨w.heap.size, 0, none⟩) nb nb) (w.alloc (.cells (madeCells (setL (fun _ => false)).toArray (nb * 52)) 99)) := by
  obtain ⟨i, h1, h2, h3, h4⟩ := info_set3
  have := run_make (P := Tryd.prog) w 95 99 i _ Tryd.underlying95 h1 h2 .i64 .i64 nb nb (by omega) (by omega) (by rw [h4]; omega) (by omega)
  rw [h3, Int.toNat_natCast] at this
  exact this
theorem made_false (n j : Nat) (hj : j < n) : (madeCells (setL (fun _ => false)).toArray n)[j]? = some (.bool false) := by
  have hs : (setL (fun _ => false)).toArray.size = 52 := by simp [setL_len]
  have hl : ∀ k, k < 52 → (setL (fun _ => false)).toArray[k]! = .bool false := fun k hk => by
    rw [getElem!_def, List.getElem?_toArray, setL_at _ k hk]
  simp only [madeCells, Array.getElem?_map, Array.getElem?_range, hs]
  rw [if_pos hj]
  simp only [Option.map_some, Option.some.injEq]
  exact hl _ (Nat.mod_lt _ (by omega))
theorem sets_new (w : World) (nb t : Nat) : ∀ k, k < nb → SetAt (w.alloc (.cells (madeCells (setL (fun _ => false)).toArray (nb * 52)) t)) w.heap.size (k * 52) (fun _ => false) := by
  intro k hk
  have h := World.rowIs_alloc w (madeCells (setL (fun _ => false)).toArray (nb * 52)) t (fun _ => .bool false) (fun j hj => made_false _ j (by simpa [size_madeCells] using hj))
  rw [size_madeCells] at h
  have : k * 52 + 52 ≤ nb * 52 := by omega
  exact ⟨fun r hr => h.cell (by omega), fun r _ => h.frozen _⟩

set_option maxHeartbeats 1000000 in
theorem liveAtStarts_any (p nb B : Nat) (C : List Sp.Ins) (L : List (Nat × Nat)) (w : World) (hP : ProgAt w B p C L) (hnb : L.length = nb) (hnb10 : nb ≤ 10) (hnb1 : 1 ≤ nb)
    (hL : ∀ b (h : b < L.length), L[b].1 ≤ L[b].2 ∧ L[b].2 < C.length) (hC : C.length ≤ 1000) (hr : ∀ i, i ∈ C → i.d < 52 ∧ i.x < 52 ∧ i.y < 52) :
    Calls Tryd.prog 64 #[.pointer (some ⟨p, 0, none⟩)] w fun e w' => e = .returned (.slice (some ⟨w.heap.size, 0, none⟩) nb nb) ∧ (∀ k, k < nb → SetAt w' w.heap.size (k * 52) (Sp.rounds C L nb nb k)) ∧ Below w.heap.size w w' := by
  obtain ⟨vC, vB, hrow, hoC, hoB, hnil⟩ := hP
  have c1 : w.cell? ⟨p, 1, none⟩ = some vB := hrow.cell (i := 1) (by omega)
  have hpl := hrow.lt
  have HP := hid (show ProgAt w B p C L from ⟨vC, vB, hrow, hoC, hoB, hnil⟩)
  obtain ⟨gb, capb, rfl⟩ := Joins.ownsRow_form hoB (by omega)
  rw [hnb] at c1
  have HL := hid hL
  have HRG := hid hr
  have HNB := hid hnb
  clear hrow hoC hoB hnil hL hr hnb
  have HC1 := hid (show ∀ wx : World, Below w.heap.size w wx → wx.cell? ⟨p, 1, none⟩ = some (.slice (some ⟨gb, 0, none⟩) nb capb) from fun wx hb => (hb.cell (p := ⟨p, 1, none⟩) hpl).trans c1)
  have hmk := run_make_sets nb hnb10
  go_enter Tryd.func64, Tryd.ntmps64
  go_wp2_with fail
  have hb0 := (Below.refl w.heap.size w).alloc (Nat.le_refl _) (.cells (madeCells (setL (fun _ => false)).toArray (nb * 52)) 99)
  have HB0 := hid hb0
  have HS0 := hid (sets_new w nb 99)
  clear hb0
  go_loopw [4] (fun tv wr => ∃ t : Nat, t ≤ nb ∧ tv = .int .i64 t ∧ (∀ k, k < nb → SetAt wr w.heap.size (k * 52) (Sp.rounds C L nb t k)) ∧ Below w.heap.size w wr) (fun tv _ => nb - (intOf tv).toNat)
  case atStart => exact ⟨0, by omega, rfl, HS0.out, HB0.out⟩
  case round =>
    obtain ⟨t, ht, rfl, hs, hbel⟩ := hrel
    have HS := hid hs
    have HB := hid hbel
    clear hs HB0 HS0 hmk c1
    have c1 := HC1.out wr hbel
    clear hbel
    by_cases hlt : t < nb
    · go_wp2_with fail
      go_loopw [5] (fun bv wq => ∃ (j : Nat), j ≤ nb ∧ bv = .int .i64 ((nb : Int) - 1 - j) ∧ (∀ k, k < nb → SetAt wq w.heap.size (k * 52) (Sp.sweep C L nb (Sp.rounds C L nb t) j k)) ∧ Below w.heap.size w wq) (fun bv _ => (intOf bv + 1).toNat)
      case atStart => exact ⟨0, by omega, by simp, HS.out, HB.out⟩
      case round =>
        obtain ⟨j, hj, rfl, hs, hbel⟩ := hrel
        have HS' := hid hs
        have HB' := hid hbel
        clear hs
        by_cases hjl : j < nb
        · obtain ⟨b, hb⟩ : ∃ b : Nat, (nb : Int) - 1 - j = b := ⟨nb - 1 - j, by omega⟩
          have HBB := hid (show b = nb - 1 - j by omega)
          have hbn : b < nb := by omega
          rw [hb]
          have HBI := hid hb
          clear hb hbel
          have hbl : b < L.length := by rw [HNB.out]; exact hbn
          obtain ⟨l1, l2⟩ := HL.out b hbl
          have HLB := hid (show L.getD b (0, 0) = L[b] by rw [List.getD_eq_getElem?_getD, List.getElem?_eq_getElem hbl]; rfl)
          go_wp2_with fail
          refine (liveAtStart_any p w.heap.size nb B b L[b].1 L[b].2 C L _ _ (HP.out.move HB'.out) HS'.out HNB.out hnb10 hbn rfl l1 l2 hC HRG.out).mono ?_
          rintro e w1 ⟨rfl, hb1⟩
          have HB1 := hid hb1
          clear hb1
          have hlb1 := (HS'.out b hbn).lt
          have HS1 := hid (fun k (hk : k < nb) => (HS'.out k hk).of_block (HB1.out.block _ hlb1))
          go_wp2_with (refine wpList_store_set rfl (.tmp 37) (.tmp 36) rfl w.heap.size (b * 52) _ _ (by rfl) (by rfl) (HS1.out b hbn) ?_; intro w2 hs2 hs2' ho2; have HS2 := hid hs2; have HS2' := hid hs2'; have HO2 := hid ho2; clear hs2 hs2' ho2)
          go_roundw
          case rel =>
            refine ⟨j + 1, by omega, ?_, fun k hk => ?_, (HB'.out.trans (HB1.out.mono HB'.out.size)).trans (HO2.out.below (Nat.le_refl _))⟩
            · have := HBI.out
              exact congrArg (Value.int .i64) (by omega)
            · by_cases e : k = b
              · refine (show SetAt w2 w.heap.size (k * 52) _ by rw [e]; exact HS2.out).congr (fun r _ => ?_)
                simp only [Sp.sweep]
                rw [if_pos (by rw [e]; exact HBB.out), e, Sp.lsB, HLB.out]
              · refine (HS2'.out (k * 52) _ ?_ (HS1.out k hk)).congr (fun r _ => ?_)
                · rcases Nat.lt_or_gt_of_ne e with h | h
                  · exact Or.inl (by omega)
                  · exact Or.inr (by omega)
                · simp only [Sp.sweep]
                  rw [if_neg (by rw [← HBB.out]; exact e)]
          case measure => have := HBI.out; simp [intOf]
        · have HJ := hid (show j = nb by omega)
          have hneg : (nb : Int) - 1 - j < 0 := by omega
          clear hbel
          go_wp2_with fail
          go_roundw
          case rel => exact ⟨t + 1, by omega, by go_num, fun k hk => by have := HS'.out k hk; rw [HJ.out] at this; exact this, HB'.out⟩
          case measure => simp [intOf]; omega
    · have HT := hid (show t = nb by omega)
      go_wp2_with fail
      go_ret
      exact ⟨rfl, fun k hk => by have := HS.out k hk; rw [HT.out] at this; exact this, HB.out⟩
end Go.Proofs.YtolhldbjfbkpiaaDoorR
