/-
  Texts within texts, and the slots that a machine program names: the walks.
-/
import Derived.Test.YtccndnckceagfabDoorHThrM
namespace Go.Proofs.YtccndnckceagfabDoor
open Go.RowKit

set_option maxHeartbeats 1000000 in
theorem kletter_any (c : Int) (w : World) :
    Calls Tryd.prog 27 #[.int .u8 c] w fun e w' => e = .returned (.bool (Sp.letB c)) ∧ w = w' := by
  by_cases h1 : 97 ≤ c
  · by_cases h2 : c ≤ 122
    · have HE := hid (show Sp.letB c = true by simp [Sp.letB, Sp.lowB, Sp.uppB]; omega)
      go_enter Tryd.func27, Tryd.ntmps27
      go_wp2_with fail
      go_ret
      exact ⟨by rw [HE.out]; rfl, rfl⟩
    · have HE := hid (show Sp.letB c = false by simp [Sp.letB, Sp.lowB, Sp.uppB]; omega)
      have h3 : 65 ≤ c := by omega
      have h4 : ¬ c ≤ 90 := by omega
      go_enter Tryd.func27, Tryd.ntmps27
      go_wp2_with fail
      go_ret
      exact ⟨by rw [HE.out]; rfl, rfl⟩
  · by_cases h3 : 65 ≤ c
    · by_cases h4 : c ≤ 90
      · have HE := hid (show Sp.letB c = true by simp [Sp.letB, Sp.lowB, Sp.uppB]; omega)
        go_enter Tryd.func27, Tryd.ntmps27
        go_wp2_with fail
        go_ret
        exact ⟨by rw [HE.out]; rfl, rfl⟩
      · have HE := hid (show Sp.letB c = false by simp [Sp.letB, Sp.lowB, Sp.uppB]; omega)
        go_enter Tryd.func27, Tryd.ntmps27
        go_wp2_with fail
        go_ret
        exact ⟨by rw [HE.out]; rfl, rfl⟩
    · have HE := hid (show Sp.letB c = false by simp [Sp.letB, Sp.lowB, Sp.uppB]; omega)
      go_enter Tryd.func27, Tryd.ntmps27
      go_wp2_with fail
      go_ret
      exact ⟨by rw [HE.out]; rfl, rfl⟩

set_option maxRecDepth 20000 in
set_option maxHeartbeats 2000000 in
theorem within_any (a b : ByteArray) (w : World) (ha : a.size ≤ 100000) (hb : b.size ≤ 100000) :
    Calls Tryd.prog 12 #[.string a, .string b] w fun e w' => ∃ r, e = .returned (.bool r) ∧ (r = true ↔ Sp.Wth a b) ∧ w'.heap = w.heap ∧ Below w.heap.size w w' := by
  go_enter Tryd.func12, Tryd.ntmps12
  go_wp2_with fail
  go_loopw [5] (fun iv wr => ∃ i : Nat, i ≤ a.size ∧ iv = .int .i64 (i : Nat) ∧ (∀ m, m < i → ∃ j, j < b.size ∧ Sp.B a m = Sp.B b j) ∧ wr.heap = w.heap ∧ Below w.heap.size w wr) (fun iv _ => a.size - (intOf iv).toNat)
  case atStart => exact ⟨0, by omega, rfl, fun m hm => by omega, rfl, Below.refl _ _⟩
  case round =>
    obtain ⟨i, hi, rfl, hall, hh, hbl⟩ := hrel
    have HALL := hid hall
    have HH0 := hid hh
    have HB0 := hid hbl
    clear hall hh hbl
    by_cases hlt : i < a.size
    · have tlt : decide ((i : Int) < (a.size : Int)) = true := by simp; omega
      have hixa := str_ix a i hlt
      generalize hva : Sp.B a i = va at *
      have HVA := hid hva
      clear hva
      go_wp2_with fail
      go_loopw [6, 7] (fun lv jv wq => ∃ (j : Nat) (y : Bool), j ≤ b.size ∧ jv = .int .i64 (j : Nat) ∧ lv = .bool y ∧ (y = true ↔ ∃ m, m < j ∧ va = Sp.B b m) ∧ wq.heap = w.heap ∧ Below w.heap.size w wq) (fun _ jv _ => b.size - (intOf jv).toNat)
      case atStart => exact ⟨0, false, by omega, rfl, rfl, ⟨fun h => (by cases h), fun ⟨m, hm, _⟩ => by omega⟩, HH0.out, HB0.out⟩
      case round =>
        clear HH0 HB0
        obtain ⟨j, y, hj, rfl, rfl, hy, hh, hbl⟩ := hrel
        have HY := hid hy
        have HH := hid hh
        have HB := hid hbl
        clear hy hh hbl
        by_cases hjl : j < b.size
        · have tjl : decide ((j : Int) < (b.size : Int)) = true := by simp; omega
          have hixb := str_ix b j hjl
          generalize hvb : Sp.B b j = vb at *
          have HVB := hid hvb
          clear hvb
          cases y
          · go_wp2_with fail
            go_quiet (fail)
            go_wp2_with fail
            go_roundw
            case rel => exact ⟨j + 1, _, by omega, by go_num, rfl, by
              rw [beq_iff_eq]
              constructor
              · exact fun e => ⟨j, by omega, by rw [HVB.out]; exact e⟩
              · rintro ⟨m, hm, e⟩
                by_cases c : m = j
                · rw [c, HVB.out] at e; exact e
                · exact absurd (HY.out.2 ⟨m, by omega, e⟩) (by simp), HH.out, ⟨HB.out.os, HB.out.tape, HB.out.output, HB.out.size, HB.out.block⟩⟩
            case measure => simp [intOf]; omega
          · go_wp2_with fail
            go_quiet (fail)
            go_wp2_with fail
            go_roundw
            case rel =>
              exact ⟨j + 1, true, by omega, by go_num, rfl, ⟨fun _ => by
                obtain ⟨m, hm, e⟩ := HY.out.1 (by first | rfl | trivial)
                exact ⟨m, by omega, e⟩, fun _ => rfl⟩, HH.out, ⟨HB.out.os, HB.out.tape, HB.out.output, HB.out.size, HB.out.block⟩⟩
            case measure => simp [intOf]; omega
        · have tjl : decide ((j : Int) < (b.size : Int)) = false := by simp; omega
          cases y
          · have HN := hid (show ¬ Sp.Wth a b from fun h => by
              obtain ⟨m, hm, e⟩ := h i hlt
              rw [HVA.out] at e
              exact absurd (HY.out.2 ⟨m, by omega, e⟩) (by simp))
            go_wp2_with fail
            go_ret
            exact ⟨false, rfl, ⟨fun h => (by cases h), fun h => absurd h HN.out⟩, HH.out, HB.out⟩
          · go_wp2_with fail
            go_roundw
            case rel => exact ⟨i + 1, by omega, by go_num, (fun m hm => by
              by_cases c : m = i
              · obtain ⟨q, hq, e⟩ := HY.out.1 rfl
                exact ⟨q, by omega, by rw [c, HVA.out]; exact e⟩
              · exact HALL.out m (by omega)), HH.out, HB.out⟩
            case measure => simp [intOf]; omega
    · have tlt : decide ((i : Int) < (a.size : Int)) = false := by simp; omega
      have HW := hid (show Sp.Wth a b from fun m hm => HALL.out m (by omega))
      go_wp2_with fail
      go_ret
      exact ⟨true, rfl, ⟨fun _ => HW.out, fun _ => rfl⟩, HH0.out, HB0.out⟩
theorem own_one (w : World) (v : Value) : (w.alloc (.cells #[v] 5)).ownsRow w.heap.size 5 1 (.slice (some ⟨w.heap.size, 0, none⟩) 1 1) 1 [v] :=
  ⟨rfl, Or.inr ⟨w.heap.size, 1, #[v], rfl, Nat.le_refl _, heap_alloc_new w _, Nat.le_refl _, by unfold maxLen; omega, rfl, rfl⟩⟩
theorem conv_one (c : Int) (h : 0 ≤ c ∧ c ≤ 255) (w : World) : (convert 48 9 (.slice (some ⟨w.heap.size, 0, none⟩) 1 1)).run Tryd.prog (w.alloc (.cells #[.int .u8 c] 5)) = .ok (.string ⟨#[UInt8.ofNat c.toNat]⟩) (w.alloc (.cells #[.int .u8 c] 5)) :=
  conv_trace (t := ⟨#[UInt8.ofNat c.toNat]⟩) rfl (by rw [one_cell c h.1 h.2]; exact own_one w (.int .u8 c))
namespace Sp
def oneB (c : Int) : ByteArray := ⟨#[UInt8.ofNat c.toNat]⟩
theorem oneB_at (c : Int) (h : 0 ≤ c ∧ c ≤ 255) : B (oneB c) 0 = c := by
  show ((UInt8.ofNat c.toNat).toNat : Int) = c
  rw [UInt8.toNat_ofNat']
  omega
theorem wth_one {c : Int} (h : 0 ≤ c ∧ c ≤ 255) (l : ByteArray) : Wth (oneB c) l ↔ ∃ j, j < l.size ∧ c = B l j := by
  constructor
  · intro hw
    obtain ⟨j, hj, e⟩ := hw 0 (show 0 < 1 by decide)
    rw [oneB_at c h] at e
    exact ⟨j, hj, e⟩
  · rintro ⟨j, hj, e⟩ i hi
    have : i = 0 := by
      have h1 : (oneB c).size = 1 := rfl
      omega
    subst this
    rw [oneB_at c h]
    exact ⟨j, hj, e⟩
/-- the slots that stand in the first q instructions -/
structure NmT (t l : ByteArray) (q : Nat) : Prop where
  once : Once l
  sz : l.size ≤ q
  nm : ∀ i, i < l.size → letB (B l i) = true ∧ ∃ p, p < q ∧ NmAt (B t) (B l i) p
theorem NmT.keep {t l : ByteArray} {q : Nat} (h : NmT t l q) : NmT t l (q + 1) :=
  ⟨h.once, by have := h.sz; omega, fun i hi => by
    obtain ⟨a, p, hp, b⟩ := h.nm i hi
    exact ⟨a, p, by omega, b⟩⟩
theorem NmT.more {t l : ByteArray} {q : Nat} (h : NmT t l q) {c : Int} (hc : 0 ≤ c ∧ c ≤ 255) (hl : letB c = true) (hn : NmAt (B t) c q) (hw : ¬ Wth (oneB c) l) : NmT t (l ++ oneB c) (q + 1) := by
  have h1 : (oneB c).size = 1 := rfl
  have hsz : (l ++ oneB c).size = l.size + 1 := by rw [ByteArray.size_append, h1]
  have old : ∀ j, j < l.size → B (l ++ oneB c) j = B l j := fun j hj => B_app_l _ _ _ hj
  have new : B (l ++ oneB c) l.size = c := by
    have := B_app_r l (oneB c) 0
    rw [Nat.add_zero, oneB_at c hc] at this
    exact this
  refine ⟨⟨fun i j hij hj e => ?_⟩, by have := h.sz; omega, fun i hi => ?_⟩
  · rw [hsz] at hj
    by_cases c1 : j < l.size
    · rw [old i (by omega), old j c1] at e
      exact h.once.dif i j hij c1 e
    · have ej : j = l.size := by omega
      rw [ej, new, old i (by omega)] at e
      exact hw ((wth_one hc l).2 ⟨i, by omega, e.symm⟩)
  · rw [hsz] at hi
    by_cases c1 : i < l.size
    · rw [old i c1]
      obtain ⟨a, p, hp, b⟩ := h.nm i c1
      exact ⟨a, p, by omega, b⟩
    · have ei : i = l.size := by omega
      rw [ei, new]
      exact ⟨hl, q, by omega, hn⟩
end Sp

set_option maxRecDepth 20000 in
set_option maxHeartbeats 4000000 in
theorem named_any (t : ByteArray) (w : World) (ht : t.size ≤ 4096) :
    Calls Tryd.prog 13 #[.string t] w fun e w' => ∃ l, e = .returned (.string l) ∧ Sp.NmR t l ∧ Below w.heap.size w w' := by
  go_enter Tryd.func13, Tryd.ntmps13
  go_wp2_with fail
  go_loopw [3, 4] (fun lv iv wr => ∃ (q : Nat) (l : ByteArray), 4 * q ≤ t.size ∧ iv = .int .i64 ((4 * q : Nat) : Int) ∧ lv = .string l ∧ Sp.NmT t l q ∧ Below w.heap.size w wr) (fun _ iv _ => t.size + 4 - (intOf iv).toNat)
  case atStart => exact ⟨0, ⟨#[]⟩, by omega, rfl, rfl, ⟨⟨fun i j _ hj => absurd hj (Nat.not_lt_zero _)⟩, Nat.le_refl _, fun i hi => absurd hi (Nat.not_lt_zero _)⟩, Below.refl _ _⟩
  case round =>
    obtain ⟨q, l, hq, rfl, rfl, hnm, hbl⟩ := hrel
    have HN := hid hnm
    have HB := hid hbl
    have hlz := hnm.sz
    have hwz := hbl.size
    clear hnm hbl
    by_cases hlt : 4 * q + 3 < t.size
    · have b0 := Sp.B_bd t (4 * q)
      have b1 := Sp.B_bd t (4 * q + 1)
      have b2 := Sp.B_bd t (4 * q + 2)
      have hi0 := str_ix t (4 * q) (by omega)
      have hi1 : ∀ W : World, (Instr.index 9 (.string t) (.int .i64 (((4 * q : Nat) : Int) + 1))).run Tryd.prog W = .ok (.int .u8 (Sp.B t (4 * q + 1))) W := str_ix t (4 * q + 1) (by omega)
      have hi2 : ∀ W : World, (Instr.index 9 (.string t) (.int .i64 (((4 * q : Nat) : Int) + 2))).run Tryd.prog W = .ok (.int .u8 (Sp.B t (4 * q + 2))) W := str_ix t (4 * q + 2) (by omega)
      obtain ⟨i, hi⟩ : ∃ i : Nat, 4 * q = i := ⟨_, rfl⟩
      have HI := hid hi
      have hib : i ≤ 4096 := by omega
      have hlt' : i + 3 < t.size := by omega
      have tlt : decide ((i : Int) + 3 < (t.size : Int)) = true := by simp; omega
      have HNM := hid (show ∀ v, ((Sp.B t i = 62 ∨ Sp.B t i = 126) ∧ Sp.B t (i + 1) = v ∨ Sp.B t i = 60 ∧ Sp.B t (i + 2) = v) → Sp.NmAt (Sp.B t) v q from fun v h => by
        unfold Sp.NmAt
        rw [HI.out]
        exact h)
      rw [hi] at hi0 hi1 hi2 b0 b1 b2
      rw [hi]
      have HNX := hid (show (((4 * (q + 1) : Nat) : Int)) = (i : Int) + 4 by omega)
      have hq1 : 4 * (q + 1) ≤ t.size := by omega
      have hqb : q ≤ 1024 := by omega
      clear hi hlt hq
      -- the byte that is looked at, and whether it is a slot's
      by_cases h60 : Sp.B t i = 60
      · have t60 : (Sp.B t i == 60) = true := by simp [h60]
        have t62 : (Sp.B t i == 62) = false := by simp [h60]
        have HC := hid (HNM.out (Sp.B t (i + 2)) (Or.inr ⟨h60, rfl⟩))
        clear HNM
        have hcb := b2
        obtain ⟨c, hc⟩ : ∃ c, Sp.B t (i + 2) = c := ⟨_, rfl⟩
        rw [hc] at HC hcb hi2
        have HLT := hid (fun (W : World) => kletter_any c W)
        have HKEEP := hid HN.out.keep
        cases hl : Sp.letB c
        · rw [hl] at HLT
          clear hl
          go_wp2_with (go_at_call 27; refine (HLT.out _).mono ?_; rintro e w' ⟨rfl, rfl⟩)
          go_roundw
          case rel => exact ⟨q + 1, l, hq1, (by first | (rw [HNX.out]; done) | (rw [HNX.out]; go_num)), rfl, HKEEP.out, HB.out⟩
          case measure => simp [intOf]; omega
        · rw [hl] at HLT
          have HL := hid hl
          clear hl
          have hcv : ∀ W : World, (convert 48 9 (.slice (some ⟨W.heap.size, 0, none⟩) 1 1)).run Tryd.prog (W.alloc (.cells #[.int .u8 c] 5)) = .ok (.string (Sp.oneB c)) (W.alloc (.cells #[.int .u8 c] 5)) := fun W => conv_one c hcb W
          have HWI := hid (fun (W : World) => within_any (Sp.oneB c) l W (show (1 : Nat) ≤ 100000 by omega) (by omega))
          have HA1 := hid (show Below wr.heap.size wr (wr.alloc (.cells #[.int .u8 c] 5)) from (Below.refl _ _).alloc (Nat.le_refl _) _)
          by_cases hw : Sp.Wth (Sp.oneB c) l
          · generalize Sp.oneB c = oc at *
            go_wp2_with (first | (go_at_call 27; refine (HLT.out _).mono ?_; rintro e w' ⟨rfl, rfl⟩) | (go_at_call 12; refine (HWI.out _).mono ?_; rintro e w5 ⟨r, rfl, hr, hh, hb5⟩; have er : r = true := hr.2 hw; subst er; have HB5 := hid ((HB.out.trans (HA1.out.mono hwz)).trans (hb5.mono (by simp; omega))); clear hr hh hb5))
            go_roundw
            case rel => exact ⟨q + 1, l, hq1, (by first | (rw [HNX.out]; done) | (rw [HNX.out]; go_num)), rfl, HKEEP.out, HB5.out⟩
            case measure => simp [intOf]; omega
          · have HMORE := hid (HN.out.more hcb HL.out HC.out hw)
            have hoc1 : (Sp.oneB c).size = 1 := rfl
            have hcat : ¬ 9223372036854775807 < l.size + (Sp.oneB c).size := by rw [hoc1]; omega
            clear hoc1
            generalize Sp.oneB c = oc at *
            go_wp2_with (first | (go_at_call 27; refine (HLT.out _).mono ?_; rintro e w' ⟨rfl, rfl⟩) | (go_at_call 12; refine (HWI.out _).mono ?_; rintro e w5 ⟨r, rfl, hr, hh, hb5⟩; have er : r = false := (Bool.eq_false_iff.2 (fun e => hw (hr.1 e))); subst er; have HB5 := hid ((HB.out.trans (HA1.out.mono hwz)).trans (hb5.mono (by simp; omega))); clear hr hh hb5))
            go_roundw
            case rel => exact ⟨q + 1, l ++ oc, hq1, (by first | (rw [HNX.out]; done) | (rw [HNX.out]; go_num)), rfl, HMORE.out, HB5.out.trans (((Below.refl _ _).alloc (Nat.le_refl _) _).mono (by have := HB5.out.size; omega))⟩
            case measure => simp [intOf]; omega
      have t60 : (Sp.B t i == 60) = false := by simp [h60]
      by_cases h62 : Sp.B t i = 62
      · have t62 : (Sp.B t i == 62) = true := by simp [h62]
        have HC := hid (HNM.out (Sp.B t (i + 1)) (Or.inl ⟨Or.inl h62, rfl⟩))
        clear HNM
        have hcb := b1
        obtain ⟨c, hc⟩ : ∃ c, Sp.B t (i + 1) = c := ⟨_, rfl⟩
        rw [hc] at HC hcb hi1
        have HLT := hid (fun (W : World) => kletter_any c W)
        have HKEEP := hid HN.out.keep
        cases hl : Sp.letB c
        · rw [hl] at HLT
          clear hl
          go_wp2_with (go_at_call 27; refine (HLT.out _).mono ?_; rintro e w' ⟨rfl, rfl⟩)
          go_roundw
          case rel => exact ⟨q + 1, l, hq1, (by first | (rw [HNX.out]; done) | (rw [HNX.out]; go_num)), rfl, HKEEP.out, HB.out⟩
          case measure => simp [intOf]; omega
        · rw [hl] at HLT
          have HL := hid hl
          clear hl
          have hcv : ∀ W : World, (convert 48 9 (.slice (some ⟨W.heap.size, 0, none⟩) 1 1)).run Tryd.prog (W.alloc (.cells #[.int .u8 c] 5)) = .ok (.string (Sp.oneB c)) (W.alloc (.cells #[.int .u8 c] 5)) := fun W => conv_one c hcb W
          have HWI := hid (fun (W : World) => within_any (Sp.oneB c) l W (show (1 : Nat) ≤ 100000 by omega) (by omega))
          have HA1 := hid (show Below wr.heap.size wr (wr.alloc (.cells #[.int .u8 c] 5)) from (Below.refl _ _).alloc (Nat.le_refl _) _)
          by_cases hw : Sp.Wth (Sp.oneB c) l
          · generalize Sp.oneB c = oc at *
            go_wp2_with (first | (go_at_call 27; refine (HLT.out _).mono ?_; rintro e w' ⟨rfl, rfl⟩) | (go_at_call 12; refine (HWI.out _).mono ?_; rintro e w5 ⟨r, rfl, hr, hh, hb5⟩; have er : r = true := hr.2 hw; subst er; have HB5 := hid ((HB.out.trans (HA1.out.mono hwz)).trans (hb5.mono (by simp; omega))); clear hr hh hb5))
            go_roundw
            case rel => exact ⟨q + 1, l, hq1, (by first | (rw [HNX.out]; done) | (rw [HNX.out]; go_num)), rfl, HKEEP.out, HB5.out⟩
            case measure => simp [intOf]; omega
          · have HMORE := hid (HN.out.more hcb HL.out HC.out hw)
            have hoc1 : (Sp.oneB c).size = 1 := rfl
            have hcat : ¬ 9223372036854775807 < l.size + (Sp.oneB c).size := by rw [hoc1]; omega
            clear hoc1
            generalize Sp.oneB c = oc at *
            go_wp2_with (first | (go_at_call 27; refine (HLT.out _).mono ?_; rintro e w' ⟨rfl, rfl⟩) | (go_at_call 12; refine (HWI.out _).mono ?_; rintro e w5 ⟨r, rfl, hr, hh, hb5⟩; have er : r = false := (Bool.eq_false_iff.2 (fun e => hw (hr.1 e))); subst er; have HB5 := hid ((HB.out.trans (HA1.out.mono hwz)).trans (hb5.mono (by simp; omega))); clear hr hh hb5))
            go_roundw
            case rel => exact ⟨q + 1, l ++ oc, hq1, (by first | (rw [HNX.out]; done) | (rw [HNX.out]; go_num)), rfl, HMORE.out, HB5.out.trans (((Below.refl _ _).alloc (Nat.le_refl _) _).mono (by have := HB5.out.size; omega))⟩
            case measure => simp [intOf]; omega
      have t62 : (Sp.B t i == 62) = false := by simp [h62]
      by_cases h126 : Sp.B t i = 126
      · have t126 : (Sp.B t i == 126) = true := by simp [h126]
        have HC := hid (HNM.out (Sp.B t (i + 1)) (Or.inl ⟨Or.inr h126, rfl⟩))
        clear HNM
        have hcb := b1
        obtain ⟨c, hc⟩ : ∃ c, Sp.B t (i + 1) = c := ⟨_, rfl⟩
        rw [hc] at HC hcb hi1
        have HLT := hid (fun (W : World) => kletter_any c W)
        have HKEEP := hid HN.out.keep
        cases hl : Sp.letB c
        · rw [hl] at HLT
          clear hl
          go_wp2_with (go_at_call 27; refine (HLT.out _).mono ?_; rintro e w' ⟨rfl, rfl⟩)
          go_roundw
          case rel => exact ⟨q + 1, l, hq1, (by first | (rw [HNX.out]; done) | (rw [HNX.out]; go_num)), rfl, HKEEP.out, HB.out⟩
          case measure => simp [intOf]; omega
        · rw [hl] at HLT
          have HL := hid hl
          clear hl
          have hcv : ∀ W : World, (convert 48 9 (.slice (some ⟨W.heap.size, 0, none⟩) 1 1)).run Tryd.prog (W.alloc (.cells #[.int .u8 c] 5)) = .ok (.string (Sp.oneB c)) (W.alloc (.cells #[.int .u8 c] 5)) := fun W => conv_one c hcb W
          have HWI := hid (fun (W : World) => within_any (Sp.oneB c) l W (show (1 : Nat) ≤ 100000 by omega) (by omega))
          have HA1 := hid (show Below wr.heap.size wr (wr.alloc (.cells #[.int .u8 c] 5)) from (Below.refl _ _).alloc (Nat.le_refl _) _)
          by_cases hw : Sp.Wth (Sp.oneB c) l
          · generalize Sp.oneB c = oc at *
            go_wp2_with (first | (go_at_call 27; refine (HLT.out _).mono ?_; rintro e w' ⟨rfl, rfl⟩) | (go_at_call 12; refine (HWI.out _).mono ?_; rintro e w5 ⟨r, rfl, hr, hh, hb5⟩; have er : r = true := hr.2 hw; subst er; have HB5 := hid ((HB.out.trans (HA1.out.mono hwz)).trans (hb5.mono (by simp; omega))); clear hr hh hb5))
            go_roundw
            case rel => exact ⟨q + 1, l, hq1, (by first | (rw [HNX.out]; done) | (rw [HNX.out]; go_num)), rfl, HKEEP.out, HB5.out⟩
            case measure => simp [intOf]; omega
          · have HMORE := hid (HN.out.more hcb HL.out HC.out hw)
            have hoc1 : (Sp.oneB c).size = 1 := rfl
            have hcat : ¬ 9223372036854775807 < l.size + (Sp.oneB c).size := by rw [hoc1]; omega
            clear hoc1
            generalize Sp.oneB c = oc at *
            go_wp2_with (first | (go_at_call 27; refine (HLT.out _).mono ?_; rintro e w' ⟨rfl, rfl⟩) | (go_at_call 12; refine (HWI.out _).mono ?_; rintro e w5 ⟨r, rfl, hr, hh, hb5⟩; have er : r = false := (Bool.eq_false_iff.2 (fun e => hw (hr.1 e))); subst er; have HB5 := hid ((HB.out.trans (HA1.out.mono hwz)).trans (hb5.mono (by simp; omega))); clear hr hh hb5))
            go_roundw
            case rel => exact ⟨q + 1, l ++ oc, hq1, (by first | (rw [HNX.out]; done) | (rw [HNX.out]; go_num)), rfl, HMORE.out, HB5.out.trans (((Below.refl _ _).alloc (Nat.le_refl _) _).mono (by have := HB5.out.size; omega))⟩
            case measure => simp [intOf]; omega
      have t126 : (Sp.B t i == 126) = false := by simp [h126]
      have HKEEP := hid HN.out.keep
      go_wp2_with fail
      go_roundw
      case rel => exact ⟨q + 1, l, hq1, (by first | (rw [HNX.out]; done) | (rw [HNX.out]; go_num)), rfl, HKEEP.out, HB.out⟩
      case measure => simp [intOf]; omega
    · have tlt : decide (((4 * q : Nat) : Int) + 3 < (t.size : Int)) = false := by simp; omega
      have HFIN := hid (show Sp.NmR t l from ⟨HN.out.once, fun i hi => by
        obtain ⟨a, p, hp, b⟩ := HN.out.nm i hi
        exact ⟨a, p, by omega, b⟩⟩)
      obtain ⟨i, hi⟩ : ∃ i : Nat, 4 * q = i := ⟨_, rfl⟩
      rw [hi] at tlt ⊢
      have hib : i ≤ 4096 := by omega
      have hlt' : ¬ i + 3 < t.size := by omega
      clear hi
      go_wp2_with fail
      go_ret
      exact ⟨l, rfl, HFIN.out, HB.out⟩
end Go.Proofs.YtccndnckceagfabDoor
