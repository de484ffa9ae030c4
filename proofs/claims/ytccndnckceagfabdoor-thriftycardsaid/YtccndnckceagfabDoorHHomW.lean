/-
  The program's table of homes: contracts of its small functions.
-/
import Derived.Test.YtccndnckceagfabDoorHHom2
import Derived.Test.YtccndnckceagfabDoorG07
namespace Go.Proofs.YtccndnckceagfabDoor
open Go.RowKit

/-- the first 52 cells of a block are homes -/
def HmC (w : World) (b : Nat) (H : Nat → Int) : Prop := ∀ r, r < 52 → w.cell? ⟨b, r, none⟩ = some (.int .i64 (H r))
def HmAt (w : World) (b : Nat) (H : Nat → Int) : Prop := w.rowIs b 84 52 (fun j => .int .i64 (H j))
theorem HmAt.c {w : World} {b : Nat} {H : Nat → Int} (h : HmAt w b H) : HmC w b H := fun _ hr => World.rowIs.cell h hr
theorem HmAt.of_block {w w' : World} {b : Nat} {H : Nat → Int} (h : HmAt w b H) (e : w'.heap[b]? = w.heap[b]?) : HmAt w' b H := World.rowIs.of_block h e
theorem HmAt.lt {w : World} {b : Nat} {H : Nat → Int} (h : HmAt w b H) : b < w.heap.size := World.rowIs.lt h
theorem HmAt.congr {w : World} {b : Nat} {H K : Nat → Int} (h : HmAt w b H) (e : ∀ j, j < 52 → H j = K j) : HmAt w b K := World.rowIs.congr h (fun j hj => by rw [e j hj])
theorem HmAt.put {w : World} {b : Nat} {H : Nat → Int} (h : HmAt w b H) (r : Nat) (v : Int) : HmAt (w.setCell ⟨b, r, none⟩ (.int .i64 v)) b (fun x => if x = r then v else H x) :=
  World.rowIs.congr (World.rowIs.set h r (.int .i64 v)) (fun x _ => by
    show (if x = r then Value.int .i64 v else .int .i64 (H x)) = .int .i64 (if x = r then v else H x)
    split <;> rfl)

set_option maxHeartbeats 1000000 in
theorem place_any' (b : Nat) (H : Nat → Int) (r : Int) (w : World) (h : HmC w b H) :
    Calls Tryd.prog 57 #[.pointer (some ⟨b, 0, none⟩), .int .i64 r] w fun e w' => e = .returned (.int .i64 (Sp.HX H r)) ∧ w = w' := by
  by_cases h0 : r < 0
  · have HE := hid (show Sp.HX H r = -1 by unfold Sp.HX; rw [if_neg (by omega)])
    clear h
    go_enter Tryd.func57, Tryd.ntmps57
    go_wp2_with fail
    go_ret
    exact ⟨by rw [HE.out]; rfl, rfl⟩
  by_cases h1 : 52 ≤ r
  · have HE := hid (show Sp.HX H r = -1 by unfold Sp.HX; rw [if_neg (by omega)])
    clear h
    go_enter Tryd.func57, Tryd.ntmps57
    go_wp2_with fail
    go_ret
    exact ⟨by rw [HE.out]; rfl, rfl⟩
  obtain ⟨q, rfl⟩ : ∃ q : Nat, r = q := ⟨r.toNat, by omega⟩
  have hq : q < 52 := by omega
  have c0 := h q hq
  have HE := hid (show Sp.HX H (q : Int) = H q by rw [Sp.HX_at H (by omega) (by omega), Int.toNat_natCast])
  clear h
  go_enter Tryd.func57, Tryd.ntmps57
  go_wp2_with fail
  go_ret
  exact ⟨by rw [HE.out]; rfl, rfl⟩

set_option maxHeartbeats 1000000 in
theorem settle_any (b : Nat) (H : Nat → Int) (r : Nat) (p : Int) (w : World) (h : HmAt w b H) (hr : r < 52) :
    Calls Tryd.prog 55 #[.pointer (some ⟨b, 0, none⟩), .int .i64 (r : Nat), .int .i64 p] w fun e w' => e = .returned (.tuple #[]) ∧ HmAt w' b (Sp.stlH H r p) ∧ Only b w w' := by
  have HH := hid h
  have c0 := h.c r hr
  have z0 := World.rowIs.frozen h r
  clear h
  have t1 : decide ((0 : Int) ≤ (r : Int)) = true := by simp
  have t2 : decide ((r : Int) < 52) = true := by simp; omega
  go_enter Tryd.func55, Tryd.ntmps55
  go_wp2_with fail
  go_end0
  exact ⟨rfl, HH.out.put r p, Only.set _ _ _ _⟩

set_option maxRecDepth 20000 in
set_option maxHeartbeats 1000000 in
theorem isFree_any (b gb : Nat) (H : Nat → Int) (G : Nat → Bool) (r : Nat) (p : Int) (w : World) (h : HmC w b H) (hG : GrAt w gb G) (hr : r < 52) :
    Calls Tryd.prog 78 #[.pointer (some ⟨b, 0, none⟩), .pointer (some ⟨gb, 0, none⟩), .int .i64 (r : Nat), .int .i64 p] w fun e w' => e = .returned (.bool (Sp.freeH (fun a b => G (52 + a * 52 + b)) H r p)) ∧ w = w' := by
  have HH := hid h
  have HG := hid hG
  clear h hG
  go_enter Tryd.func78, Tryd.ntmps78
  go_wp2_with fail
  go_loopw [9] (fun mv wr => ∃ m : Nat, m ≤ 52 ∧ mv = .int .i64 m ∧ (∀ o, o < m → H o = p → G (52 + r * 52 + o) = false) ∧ w = wr) (fun mv _ => 52 - (intOf mv).toNat)
  case atStart => exact ⟨0, by omega, rfl, fun o ho => by omega, rfl⟩
  case round =>
    obtain ⟨m, hm, rfl, hall, rfl⟩ := hrel
    have HALL := hid hall
    clear hall
    by_cases hlt : m < 52
    · have c0 := HH.out m hlt
      by_cases he : H m = p
      · have t1 : (H m == p) = true := by simp [he]
        have HM := hid (gmeet_any gb G r m w HG.out hr hlt)
        cases hg : G (52 + r * 52 + m)
        · rw [hg] at HM
          have HN := hid hg
          clear hg
          generalize H m = hm1 at *
          go_wp2_with (go_at_call 98; refine HM.out.mono ?_; rintro e w' ⟨rfl, rfl⟩)
          go_roundw
          case rel => exact ⟨m + 1, by omega, by go_num, (fun o ho e => by
            by_cases c : o = m
            · rw [c]; exact HN.out
            · exact HALL.out o (by omega) e), (by first | rfl | trivial)⟩
          case measure => simp [intOf]; omega
        · rw [hg] at HM
          have HF := hid (show Sp.freeH (fun a b => G (52 + a * 52 + b)) H r p = false by
            cases hf : Sp.freeH (fun a b => G (52 + a * 52 + b)) H r p
            · rfl
            · have := (Sp.freeH_iff _ H r p).1 hf m hlt he
              rw [hg] at this
              cases this)
          clear hg he
          generalize H m = hm1 at *
          go_wp2_with (go_at_call 98; refine HM.out.mono ?_; rintro e w' ⟨rfl, rfl⟩)
          go_ret
          exact ⟨by rw [HF.out]; rfl, rfl⟩
      · have t1 : (H m == p) = false := by simp [he]
        have HNE := hid he
        clear he
        have HMM := hid (rfl : H m = H m)
        obtain ⟨hm1, hmE⟩ : ∃ v, H m = v := ⟨_, rfl⟩
        have HME := hid hmE
        rw [hmE] at c0 t1
        clear hmE
        go_wp2_with fail
        go_roundw
        case rel => exact ⟨m + 1, by omega, by go_num, (fun o ho e => by
          by_cases c : o = m
          · rw [c] at e; exact absurd e HNE.out
          · exact HALL.out o (by omega) e), (by first | rfl | trivial)⟩
        case measure => simp [intOf]; omega
    · have HF := hid (show Sp.freeH (fun a b => G (52 + a * 52 + b)) H r p = true from (Sp.freeH_iff _ H r p).2 (fun o ho e => HALL.out o (by omega) e))
      go_wp2_with fail
      go_ret
      exact ⟨by rw [HF.out]; rfl, rfl⟩

set_option maxRecDepth 20000 in
set_option maxHeartbeats 1000000 in
theorem choose_any' (b gb : Nat) (H : Nat → Int) (G : Nat → Bool) (r c : Nat) (w : World) (h : HmC w b H) (hG : GrAt w gb G) (hr : r < 52) (hc : c ≤ 10) :
    Calls Tryd.prog 54 #[.pointer (some ⟨b, 0, none⟩), .pointer (some ⟨gb, 0, none⟩), .int .i64 (r : Nat), .int .i64 (c : Nat)] w fun e w' => e = .returned (.int .i64 (Sp.chsH (fun a b => G (52 + a * 52 + b)) H r c 0)) ∧ w = w' := by
  have HH := hid h
  have HG := hid hG
  clear h hG
  go_enter Tryd.func54, Tryd.ntmps54
  go_wp2_with fail
  go_loopw [9] (fun mv wr => ∃ m f : Nat, m + f = c ∧ mv = .int .i64 m ∧ Sp.chsH (fun a b => G (52 + a * 52 + b)) H r c 0 = Sp.chsH (fun a b => G (52 + a * 52 + b)) H r f m ∧ w = wr) (fun mv _ => c - (intOf mv).toNat)
  case atStart => exact ⟨0, c, by omega, rfl, rfl, rfl⟩
  case round =>
    obtain ⟨m, f, hm, rfl, hE, rfl⟩ := hrel
    have HE := hid hE
    clear hE
    by_cases hlt : m < c
    · obtain ⟨f', rfl⟩ : ∃ f', f = f' + 1 := ⟨f - 1, by omega⟩
      have HF := hid (isFree_any b gb H G r (m : Int) w HH.out HG.out hr)
      cases hf : Sp.freeH (fun a b => G (52 + a * 52 + b)) H r (m : Int)
      · have HE2 := hid (show Sp.chsH (fun a b => G (52 + a * 52 + b)) H r c 0 = Sp.chsH (fun a b => G (52 + a * 52 + b)) H r f' (m + 1) by
          rw [HE.out]
          simp only [Sp.chsH]
          rw [if_neg (by rw [hf]; decide)])
        rw [hf] at HF
        clear hf HE
        go_wp2_with (go_at_call 78; refine HF.out.mono ?_; rintro e w' ⟨rfl, rfl⟩)
        go_roundw
        case rel => exact ⟨m + 1, f', by omega, by go_num, HE2.out, (by first | rfl | trivial)⟩
        case measure => simp [intOf]; omega
      · have HE2 := hid (show Sp.chsH (fun a b => G (52 + a * 52 + b)) H r c 0 = (m : Int) by
          rw [HE.out]
          simp only [Sp.chsH]
          rw [if_pos hf])
        rw [hf] at HF
        clear hf HE
        go_wp2_with (go_at_call 78; refine HF.out.mono ?_; rintro e w' ⟨rfl, rfl⟩)
        go_ret
        exact ⟨by rw [HE2.out]; rfl, rfl⟩
    · obtain rfl : f = 0 := by omega
      have HE2 := hid (show Sp.chsH (fun a b => G (52 + a * 52 + b)) H r c 0 = 10 + (r : Int) by rw [HE.out]; rfl)
      clear HE
      go_wp2_with fail
      go_ret
      exact ⟨by rw [HE2.out]; rfl, rfl⟩

set_option maxRecDepth 20000 in
set_option maxHeartbeats 1000000 in
theorem exchange_any (b : Nat) (H : Nat → Int) (p q : Int) (w : World) (h : HmAt w b H) :
    Calls Tryd.prog 80 #[.pointer (some ⟨b, 0, none⟩), .int .i64 p, .int .i64 q] w fun e w' => e = .returned (.tuple #[]) ∧ HmAt w' b (Sp.excH H p q) ∧ Only b w w' := by
  have HH := hid h
  clear h
  go_enter Tryd.func80, Tryd.ntmps80
  go_wp2_with fail
  go_loopw [6] (fun mv wr => ∃ m : Nat, m ≤ 52 ∧ mv = .int .i64 m ∧ HmAt wr b (fun x => if x < m then Sp.excH H p q x else H x) ∧ Only b w wr) (fun mv _ => 52 - (intOf mv).toNat)
  case atStart => exact ⟨0, by omega, rfl, HH.out.congr (fun j _ => by rw [if_neg (by omega)]), Only.refl _ _⟩
  case round =>
    obtain ⟨m, hm, rfl, hA, hO⟩ := hrel
    have HA := hid hA
    have HO := hid hO
    by_cases hlt : m < 52
    · have c0 := hA.c m hlt
      rw [if_neg (by omega)] at c0
      have z0 := World.rowIs.frozen hA m
      clear hA hO
      have HP := hid (fun (v : Int) (hv : v = Sp.excH H p q m) => (show HmAt (wr.setCell ⟨b, m, none⟩ (.int .i64 v)) b (fun x => if x < m + 1 then Sp.excH H p q x else H x) from (HA.out.put m v).congr (fun x _ => by
        by_cases e : x = m
        · rw [if_pos e, if_pos (by omega), e, hv]
        · rw [if_neg e]
          by_cases c : x < m
          · rw [if_pos c, if_pos (by omega)]
          · rw [if_neg c, if_neg (by omega)])))
      by_cases h1 : H m = p
      · have t1 : (H m == p) = true := by simp [h1]
        have HV := hid (show q = Sp.excH H p q m by unfold Sp.excH; rw [if_pos h1])
        clear h1
        generalize H m = v at *
        go_wp2_with fail
        go_roundw
        case rel => exact ⟨m + 1, by omega, by go_num, HP.out q HV.out, HO.out.trans (Only.set _ _ _ _)⟩
        case measure => simp [intOf]; omega
      · have t1 : (H m == p) = false := by simp [h1]
        by_cases h2 : H m = q
        · have t2 : (H m == q) = true := by simp [h2]
          have HV := hid (show p = Sp.excH H p q m by unfold Sp.excH; rw [if_neg h1, if_pos h2])
          clear h1 h2
          generalize H m = v at *
          go_wp2_with fail
          go_roundw
          case rel => exact ⟨m + 1, by omega, by go_num, HP.out p HV.out, HO.out.trans (Only.set _ _ _ _)⟩
          case measure => simp [intOf]; omega
        · have t2 : (H m == q) = false := by simp [h2]
          have HN := hid (HA.out.congr (K := fun x => if x < m + 1 then Sp.excH H p q x else H x) (fun x _ => by
            by_cases e : x = m
            · rw [if_neg (by omega), if_pos (by omega), e]
              unfold Sp.excH
              rw [if_neg h1, if_neg h2]
            · by_cases c : x < m
              · rw [if_pos c, if_pos (by omega)]
              · rw [if_neg c, if_neg (by omega)]))
          clear h1 h2
          generalize H m = v at *
          go_wp2_with fail
          go_roundw
          case rel => exact ⟨m + 1, by omega, by go_num, HN.out, HO.out⟩
          case measure => simp [intOf]; omega
    · go_wp2_with fail
      go_end0
      exact ⟨rfl, HA.out.congr (fun j hj => by rw [if_pos (by omega)]), HO.out⟩
end Go.Proofs.YtccndnckceagfabDoor
