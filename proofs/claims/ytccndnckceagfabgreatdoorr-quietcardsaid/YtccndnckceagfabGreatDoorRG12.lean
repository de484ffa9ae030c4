/-
  Homes, and which registers are live: what the compiler's mathematics asks for.
  The program's table of homes: contracts of its small functions.
-/
import Derived.Test.YtccndnckceagfabGreatDoorRHHom1
import Derived.Test.YtccndnckceagfabGreatDoorRG10
import Derived.Test.YtccndnckceagfabGreatDoorRHSnd5
import Derived.Test.YtccndnckceagfabGreatDoorRHRun8
namespace Go.Proofs.YtccndnckceagfabGreatDoorR.Sp

/-- a table of homes, at any number -/
def HX (H : Nat → Int) (r : Int) : Int := if 0 ≤ r ∧ r < 52 then H r.toNat else -1
theorem HX_at (H : Nat → Int) {r : Int} (h0 : 0 ≤ r) (h1 : r < 52) : HX H r = H r.toNat := by unfold HX; rw [if_pos ⟨h0, h1⟩]
/-- which registers are live ahead of an instruction, as the program finds it -/
def lvX (R : Nat → Nat → Bool) (n q : Nat) (r : Int) : Bool := decide (q < n) && decide (0 ≤ r ∧ r < 52) && R q r.toNat
theorem lvX_iff (R : Nat → Nat → Bool) (n q : Nat) (r : Int) : lvX R n q r = true ↔ q < n ∧ (0 ≤ r ∧ r < 52) ∧ R q r.toNat = true := by
  unfold lvX
  simp only [Bool.and_eq_true, decide_eq_true_eq]
  constructor
  · rintro ⟨⟨a, b⟩, c⟩; exact ⟨a, b, c⟩
  · rintro ⟨a, b, c⟩; exact ⟨⟨a, b⟩, c⟩
theorem want_stands {c : Nat → Int} {n : Nat} (g : Good c n) {v : Int} : ∀ (k i : Nat), i < n → wantN c n v k i = true → Stands c n v
  | 0, i, hi, h => ⟨i, hi, Or.inl h⟩
  | k + 1, i, hi, h => by
    simp only [wantN, Bool.or_eq_true, Bool.and_eq_true] at h
    rcases h with h | ⟨_, h⟩
    · exact ⟨i, hi, Or.inl h⟩
    · obtain ⟨j, hj, hw⟩ := List.any_eq_true.1 h
      exact want_stands g k j (nextL_lt g hi j hj) hw
theorem arg_of {r : Nat} (hr : r < 52) (h : argB (rv r) = true) : r = 0 ∨ r = 1 ∨ r = 26 ∨ r = 27 := by
  unfold argB rv at h
  simp only [Bool.or_eq_true, beq_iff_eq] at h
  split at h <;> omega
/-- the graph and the liveness of a program that was read, and homes in it -/
theorem homes_of {s : ByteArray} (h : progB (B s) s.size 0 = true) (hu : ¬ Unset (B s) (s.size / 4)) {k : Int} (hk : 6 ≤ k ∧ k ≤ 10) {c : Nat} (hc : (c : Int) = k - 2)
    {C : List Ins} {L : List (Nat × Nat)} {nb : Nat} {R : Nat → Nat → Bool} {G : Nat → Bool} (hC : C = codeTo (B s) (s.size / 4)) (hL : L = blksTo (B s) (s.size / 4)) (hnb : nb = blocksTo (B s) (s.size / 4)) (hR : R = rounds C L nb) (hG : G = ofZ (ofTo C R C.length C.length) (R 0) 52)
    {H : Nat → Int} (hH : HomeOf (fun a b => G (52 + a * 52 + b)) c (fun r => G r) H) :
    (∀ r o, r < 52 → o < 52 → r ≠ o → R 0 r = true → R 0 o = true → G (52 + r * 52 + o) = true) ∧ (∀ r, r < 52 → R 0 r = true → G r = true) ∧
    ((∀ n, n < 4 → R 0 (argN n) = true → H (argN n) < 10 → H (argN n) = n) → Homes k C L (HX H) (lvX R C.length)) := by
  obtain ⟨s1, s2, s3, s4⟩ := size_of_progB h
  have hpos := blocks_pos (B s) (s.size / 4) (by omega) s4
  have hi : ∀ i, i < s.size / 4 → InsIs (B s) i := fun i hn => insIs_of (dok_of_progB h i hn)
  have hlen : C.length = s.size / 4 := by rw [hC, codeTo_len]
  have GD := good_of_progB h
  have LE : ∀ r, r < 52 → ∀ q, q < s.size / 4 → (R q r = true ↔ Want (B s) (s.size / 4) (rv r) q) := by
    intro r hr q hq
    rw [hR, hC, hL, hnb]
    exact live_eq h hi (by omega) hr q hq
  obtain ⟨g1, g2⟩ := graph_of h (G := G) (by rw [hG, hlen, hR, hC, hL, hnb])
  have hget : ∀ q (hq : q < C.length), C[q] = insAt (B s) q := by
    intro q hq
    have : C[q] = (codeTo (B s) (s.size / 4))[q]'(by rw [← hC]; exact hq) := by simp only [hC]
    rw [this, codeTo_get]
  have stands_of : ∀ (r : Int), 0 ≤ r → r < 52 → Stands (B s) (s.size / 4) (rv r.toNat) → HX H r ≠ -1 := by
    intro r h0 h1 hst
    rw [HX_at H h0 h1]
    have hg := (g1 r.toNat (by omega)).2 hst
    rcases hH.yes r.toNat (by omega) hg with e | e <;> omega
  have live_stands : ∀ r, r < 52 → ∀ q, q < s.size / 4 → R q r = true → Stands (B s) (s.size / 4) (rv r) := by
    intro r hr q hq hl
    obtain ⟨j, hj⟩ := (LE r hr q hq).1 hl
    exact want_stands GD j q hq hj
  have rv_inj : ∀ a b : Nat, a < 52 → b < 52 → rv a = rv b → a = b := by
    intro a b ha hb e
    unfold rv at e
    split at e <;> split at e <;> omega
  refine ⟨fun r o hr ho hne hlr hlo => ?_, fun r hr hl => (g1 r hr).2 (live_stands r hr 0 (by omega) hl), fun hseat => ?_⟩
  · exact (g2 r o hr ho).2 ⟨fun e => hne (rv_inj r o hr ho e), Or.inl ⟨(LE r hr 0 (by omega)).1 hlr, (LE o ho 0 (by omega)).1 hlo⟩⟩
  refine ⟨hk, rfl, fun r h0 h1 => ?_, fun j hj => ?_, fun q r hl => ?_, fun q hq r h0 hx => ?_, fun q hq r hend hne hl => ?_, ?_, ?_, fun r hl => ?_, fun n hn hl hlt => ?_⟩
  · rw [HX_at H h0 h1]
    cases hg : G r.toNat
    · exact Or.inl (hH.no r.toNat (by omega) hg)
    · rcases hH.yes r.toNat (by omega) hg with e | e
      · exact Or.inr (Or.inl (by omega))
      · exact Or.inr (Or.inr (by omega))
  · have hjn : j < s.size / 4 := by omega
    have hb := (hi j hjn).bd
    rw [← hget j hj] at hb
    have rd := (hi j hjn).rd
    have wr := (hi j hjn).wr
    rw [← hget j hj] at rd wr
    refine ⟨fun h0 => stands_of _ h0 hb.1 ⟨j, hjn, Or.inr ?_⟩, fun h0 => stands_of _ h0 hb.2.1 ⟨j, hjn, Or.inl ?_⟩, fun h0 => stands_of _ h0 hb.2.2 ⟨j, hjn, Or.inl ?_⟩⟩
    · exact (wr C[j].d.toNat (by omega)).2 (by omega)
    · exact (rd C[j].x.toNat (by omega)).2 (Or.inl (by omega))
    · exact (rd C[j].y.toNat (by omega)).2 (Or.inr (by omega))
  · rw [lvX_iff] at hl
    exact ⟨hl.2.1.1, hl.2.1.2, stands_of r hl.2.1.1 hl.2.1.2 (live_stands r.toNat (by omega) q (by omega) hl.2.2)⟩
  · have hb := (hi q (by omega)).bd
    rw [← hget q hq] at hb
    have hr52 : r < 52 := by
      rcases hx with e | e <;> omega
    rw [lvX_iff]
    refine ⟨hq, ⟨h0, hr52⟩, (LE r.toNat (by omega) q (by omega)).2 ⟨0, ?_⟩⟩
    refine ((hi q (by omega)).rd r.toNat (by omega)).2 ?_
    rw [← hget q hq]
    rcases hx with e | e
    · exact Or.inl (by omega)
    · exact Or.inr (by omega)
  · rw [lvX_iff] at hl ⊢
    obtain ⟨a, b, d⟩ := hl
    refine ⟨hq, b, (LE r.toNat (by omega) q (by omega)).2 (want_step (j := q + 1) ?_ ?_ ((LE r.toNat (by omega) (q + 1) (by omega)).1 d))⟩
    · cases hw : wrAt (B s) (rv r.toNat) q
      · rfl
      · have := ((hi q (by omega)).wr r.toNat (by omega)).1 hw
        rw [← hget q hq] at this
        omega
    · have ho : endB (B s (4 * q)) = false := by
        rw [hget q hq, insAt_o] at hend
        exact hend
      rw [nextL_inner ho]
      simp
  · intro b hb h2 x hx hs r hl
    rw [lvX_iff] at hl ⊢
    obtain ⟨a, bb, d⟩ := hl
    have hq4 : L[b].2 < s.size / 4 := by omega
    obtain ⟨hkm1, hkm2, hkm3, hkm4⟩ := (hi L[b].2 hq4).km
    have hrd := rd_of 0 (Int.le_refl 0) s h
    have hst : L[x].1 = fst (B s) (s.size / 4) x := by
      have hx' : x < blocksTo (B s) (s.size / 4) := by rw [← blksTo_len, ← hL]; exact hx
      have h5 := str_fst (B s) (s.size / 4) x hx'
      rw [← hL, strP_at L x hx] at h5
      exact Int.ofNat.inj h5
    have hbis : BIs C L := by
      have := hrd.bis
      rw [codeK_src _ _ (fun i hn => dok_of_progB h i hn), ← hC, ← hL] at this
      exact this
    have hend := hbis.ends b hb h2
    rw [hget _ h2, insAt_o] at hend
    rw [hget _ h2] at hs
    refine ⟨h2, bb, (LE r.toNat (by omega) L[b].2 hq4).2 (want_step (j := L[x].1) ?_ ?_ ((LE r.toNat (by omega) L[x].1 (by omega)).1 d))⟩
    · cases hw : wrAt (B s) (rv r.toNat) L[b].2
      · rfl
      · exfalso
        have h6 := ((hi L[b].2 hq4).wr r.toNat (by omega)).1 hw
        have hSS := form_S (hrd.form L[b].2 (by rw [hrd.len]; exact hq4))
        have e6 : (codeK 0 (B s) (s.size / 4))[L[b].2]'(by rw [hrd.len]; exact hq4) = insAt (B s) L[b].2 := by
          rw [codeK_get, insK_src _ _ (dok_of_progB h _ hq4)]
        rw [e6] at hSS
        have hd : (insAt (B s) L[b].2).d = -1 := by
          have ho := insAt_o (B s) L[b].2
          simp only [endB, Bool.or_eq_true, beq_iff_eq] at hend
          rcases hend with (e | e) | e
          · exact (hSS.f.jmp (by rw [ho]; exact e)).1
          · exact (hSS.f.cnd (by rw [ho]; exact e)).1
          · exact (hSS.f.ret (by rw [ho]; exact e)).1
        omega
    · rw [hst]
      unfold nextL
      simp only [endB, Bool.or_eq_true, beq_iff_eq] at hend
      rcases hend with (e | e) | e
      · rw [if_neg (by omega), if_pos e]
        obtain ⟨k1, k2⟩ := hkm2 e
        have : (B s (4 * L[b].2 + 1) - 48).toNat = x := by
          rcases hs with hs | hs <;> omega
        rw [this]
        simp
      · rw [if_neg (by omega), if_neg (by omega), if_pos e]
        obtain ⟨k1, k2⟩ := hkm3 e
        rcases hs with hs | hs
        · have : (B s (4 * L[b].2 + 2) - 48).toNat = x := by omega
          rw [this]
          simp
        · have : (B s (4 * L[b].2 + 3) - 48).toNat = x := by omega
          rw [this]
          simp
      · exfalso
        have hkm := hkm4 e
        rcases hs with hs | hs <;> omega
  · intro q hq r hend h0 hne hl e
    rw [lvX_iff] at hl
    obtain ⟨a, b, d⟩ := hl
    have hb := (hi q (by omega)).bd
    rw [← hget q hq] at hb
    rw [HX_at H b.1 b.2, HX_at H h0 hb.1] at e
    have hw : wrAt (B s) (rv C[q].d.toNat) q = true := ((hi q (by omega)).wr C[q].d.toNat (by omega)).2 (by rw [← hget q hq]; omega)
    have hm : G (52 + r.toNat * 52 + C[q].d.toNat) = true := by
      refine (g2 r.toNat C[q].d.toNat (by omega) (by omega)).2 ⟨fun e' => ?_, Or.inr ⟨q, by omega, Or.inr ⟨hw, (LE r.toNat (by omega) (q + 1) (by omega)).1 d⟩⟩⟩
      have := rv_inj _ _ (by omega) (by omega) e'
      omega
    exact hH.dif r.toNat C[q].d.toNat (by omega) (by omega) ((g1 _ (by omega)).2 (live_stands r.toNat (by omega) (q + 1) (by omega) d)) ((g1 _ (by omega)).2 ⟨q, by omega, Or.inr hw⟩) hm e
  · rw [lvX_iff] at hl
    obtain ⟨a, b, d⟩ := hl
    have hwt := (LE r.toNat (by omega) 0 (by omega)).1 d
    have harg : argB (rv r.toNat) = true := by
      cases hb : argB (rv r.toNat)
      · exact absurd ⟨rv r.toNat, rv_let _ (by omega), hb, hwt⟩ hu
      · rfl
    rcases arg_of (by omega) harg with e | e | e | e
    · exact ⟨0, by decide, by unfold argS; simp; omega⟩
    · exact ⟨1, by decide, by unfold argS; simp; omega⟩
    · exact ⟨2, by decide, by unfold argS; simp; omega⟩
    · exact ⟨3, by decide, by unfold argS; simp; omega⟩
  · rw [lvX_iff] at hl
    obtain ⟨a, b, d⟩ := hl
    have ea : (argS n).toNat = argN n := by
      have : n = 0 ∨ n = 1 ∨ n = 2 ∨ n = 3 := by omega
      rcases this with rfl | rfl | rfl | rfl <;> rfl
    rw [HX_at H b.1 b.2, ea] at hlt ⊢
    rw [ea] at d
    exact hseat n hn d hlt
end Go.Proofs.YtccndnckceagfabGreatDoorR.Sp

namespace Go.Proofs.YtccndnckceagfabGreatDoorR
open Go.RowKit

/-- the first 52 cells of a block are homes -/
def HmC (w : World) (b : Nat) (H : Nat → Int) : Prop := ∀ r, r < 52 → w.cell? ⟨b, r, none⟩ = some (.int .i64 (H r))
def HmAt (w : World) (b : Nat) (H : Nat → Int) : Prop := w.rowIs b 68 52 (fun j => .int .i64 (H j))
theorem HmAt.c {w : World} {b : Nat} {H : Nat → Int} (h : HmAt w b H) : HmC w b H := fun _ hr => World.rowIs.cell h hr
theorem HmAt.of_block {w w' : World} {b : Nat} {H : Nat → Int} (h : HmAt w b H) (e : w'.heap[b]? = w.heap[b]?) : HmAt w' b H := World.rowIs.of_block h e
theorem HmAt.lt {w : World} {b : Nat} {H : Nat → Int} (h : HmAt w b H) : b < w.heap.size := World.rowIs.lt h
theorem HmAt.congr {w : World} {b : Nat} {H K : Nat → Int} (h : HmAt w b H) (e : ∀ j, j < 52 → H j = K j) : HmAt w b K := World.rowIs.congr h (fun j hj => by rw [e j hj])
theorem HmAt.put {w : World} {b : Nat} {H : Nat → Int} (h : HmAt w b H) (r : Nat) (v : Int) : HmAt (w.setCell ⟨b, r, none⟩ (.int .i64 v)) b (fun x => if x = r then v else H x) :=
  World.rowIs.congr (World.rowIs.set h r (.int .i64 v)) (fun x _ => by
    show (if x = r then Value.int .i64 v else .int .i64 (H x)) = .int .i64 (if x = r then v else H x)
    split <;> rfl)

set_option maxHeartbeats 1000000 in
theorem place_any' (b : Nat) (H : Nat → Int) (r : Int) (w : World) (h : HmC w b H) :
    Calls Tryz.prog 44 #[.pointer (some ⟨b, 0, none⟩), .int .i64 r] w fun e w' => e = .returned (.int .i64 (Sp.HX H r)) ∧ w = w' := by
  by_cases h0 : r < 0
  · have HE := hid (show Sp.HX H r = -1 by unfold Sp.HX; rw [if_neg (by omega)])
    clear h
    go_enter Tryz.func44, Tryz.ntmps44
    go_wp2_with fail
    go_ret
    exact ⟨by rw [HE.out]; rfl, rfl⟩
  by_cases h1 : 52 ≤ r
  · have HE := hid (show Sp.HX H r = -1 by unfold Sp.HX; rw [if_neg (by omega)])
    clear h
    go_enter Tryz.func44, Tryz.ntmps44
    go_wp2_with fail
    go_ret
    exact ⟨by rw [HE.out]; rfl, rfl⟩
  obtain ⟨q, rfl⟩ : ∃ q : Nat, r = q := ⟨r.toNat, by omega⟩
  have hq : q < 52 := by omega
  have c0 := h q hq
  have HE := hid (show Sp.HX H (q : Int) = H q by rw [Sp.HX_at H (by omega) (by omega), Int.toNat_natCast])
  clear h
  go_enter Tryz.func44, Tryz.ntmps44
  go_wp2_with fail
  go_ret
  exact ⟨by rw [HE.out]; rfl, rfl⟩

set_option maxHeartbeats 1000000 in
theorem settle_any (b : Nat) (H : Nat → Int) (r : Nat) (p : Int) (w : World) (h : HmAt w b H) (hr : r < 52) :
    Calls Tryz.prog 42 #[.pointer (some ⟨b, 0, none⟩), .int .i64 (r : Nat), .int .i64 p] w fun e w' => e = .returned (.tuple #[]) ∧ HmAt w' b (Sp.stlH H r p) ∧ Only b w w' := by
  have HH := hid h
  have c0 := h.c r hr
  have z0 := World.rowIs.frozen h r
  clear h
  have t1 : decide ((0 : Int) ≤ (r : Int)) = true := by simp
  have t2 : decide ((r : Int) < 52) = true := by simp; omega
  go_enter Tryz.func42, Tryz.ntmps42
  go_wp2_with fail
  go_end0
  exact ⟨rfl, HH.out.put r p, Only.set _ _ _ _⟩

set_option maxRecDepth 20000 in
set_option maxHeartbeats 1000000 in
theorem isFree_any (b gb : Nat) (H : Nat → Int) (G : Nat → Bool) (r : Nat) (p : Int) (w : World) (h : HmC w b H) (hG : GrAt w gb G) (hr : r < 52) :
    Calls Tryz.prog 66 #[.pointer (some ⟨b, 0, none⟩), .pointer (some ⟨gb, 0, none⟩), .int .i64 (r : Nat), .int .i64 p] w fun e w' => e = .returned (.bool (Sp.freeH (fun a b => G (52 + a * 52 + b)) H r p)) ∧ w = w' := by
  have HH := hid h
  have HG := hid hG
  clear h hG
  go_enter Tryz.func66, Tryz.ntmps66
  go_wp2_with fail
  go_loopw [9] (fun mv wr => ∃ m : Nat, m ≤ 52 ∧ mv = .int .i64 m ∧ (∀ o, o < m → H o = p → G (52 + r * 52 + o) = false) ∧ w = wr) (fun mv _ => 52 - (intOf mv).toNat)
  case atStart => exact ⟨0, by omega, rfl, fun o ho => by omega, rfl⟩
  case round =>
    obtain ⟨m, hm, rfl, hall, rfl⟩ := hrel
    have HALL := hid hall
    clear hall
    by_cases hlt : m < 52
    · have c0 := HH.out m hlt
      by_cases he : H m = p
      · have t1 : (H m == p) = true := by simp [he]
        have HM := hid (gmeet_any gb G r m w HG.out hr hlt)
        cases hg : G (52 + r * 52 + m)
        · rw [hg] at HM
          have HN := hid hg
          clear hg
          generalize H m = hm1 at *
          go_wp2_with (go_at_call 85; refine HM.out.mono ?_; rintro e w' ⟨rfl, rfl⟩)
          go_roundw
          case rel => exact ⟨m + 1, by omega, by go_num, (fun o ho e => by
            by_cases c : o = m
            · rw [c]; exact HN.out
            · exact HALL.out o (by omega) e), (by first | rfl | trivial)⟩
          case measure => simp [intOf]; omega
        · rw [hg] at HM
          have HF := hid (show Sp.freeH (fun a b => G (52 + a * 52 + b)) H r p = false by
            cases hf : Sp.freeH (fun a b => G (52 + a * 52 + b)) H r p
            · rfl
            · have := (Sp.freeH_iff _ H r p).1 hf m hlt he
              rw [hg] at this
              cases this)
          clear hg he
          generalize H m = hm1 at *
          go_wp2_with (go_at_call 85; refine HM.out.mono ?_; rintro e w' ⟨rfl, rfl⟩)
          go_ret
          exact ⟨by rw [HF.out]; rfl, rfl⟩
      · have t1 : (H m == p) = false := by simp [he]
        have HNE := hid he
        clear he
        have HMM := hid (rfl : H m = H m)
        obtain ⟨hm1, hmE⟩ : ∃ v, H m = v := ⟨_, rfl⟩
        have HME := hid hmE
        rw [hmE] at c0 t1
        clear hmE
        go_wp2_with fail
        go_roundw
        case rel => exact ⟨m + 1, by omega, by go_num, (fun o ho e => by
          by_cases c : o = m
          · rw [c] at e; exact absurd e HNE.out
          · exact HALL.out o (by omega) e), (by first | rfl | trivial)⟩
        case measure => simp [intOf]; omega
    · have HF := hid (show Sp.freeH (fun a b => G (52 + a * 52 + b)) H r p = true from (Sp.freeH_iff _ H r p).2 (fun o ho e => HALL.out o (by omega) e))
      go_wp2_with fail
      go_ret
      exact ⟨by rw [HF.out]; rfl, rfl⟩

set_option maxRecDepth 20000 in
set_option maxHeartbeats 1000000 in
theorem choose_any' (b gb : Nat) (H : Nat → Int) (G : Nat → Bool) (r c : Nat) (w : World) (h : HmC w b H) (hG : GrAt w gb G) (hr : r < 52) (hc : c ≤ 10) :
    Calls Tryz.prog 41 #[.pointer (some ⟨b, 0, none⟩), .pointer (some ⟨gb, 0, none⟩), .int .i64 (r : Nat), .int .i64 (c : Nat)] w fun e w' => e = .returned (.int .i64 (Sp.chsH (fun a b => G (52 + a * 52 + b)) H r c 0)) ∧ w = w' := by
  have HH := hid h
  have HG := hid hG
  clear h hG
  go_enter Tryz.func41, Tryz.ntmps41
  go_wp2_with fail
  go_loopw [9] (fun mv wr => ∃ m f : Nat, m + f = c ∧ mv = .int .i64 m ∧ Sp.chsH (fun a b => G (52 + a * 52 + b)) H r c 0 = Sp.chsH (fun a b => G (52 + a * 52 + b)) H r f m ∧ w = wr) (fun mv _ => c - (intOf mv).toNat)
  case atStart => exact ⟨0, c, by omega, rfl, rfl, rfl⟩
  case round =>
    obtain ⟨m, f, hm, rfl, hE, rfl⟩ := hrel
    have HE := hid hE
    clear hE
    by_cases hlt : m < c
    · obtain ⟨f', rfl⟩ : ∃ f', f = f' + 1 := ⟨f - 1, by omega⟩
      have HF := hid (isFree_any b gb H G r (m : Int) w HH.out HG.out hr)
      cases hf : Sp.freeH (fun a b => G (52 + a * 52 + b)) H r (m : Int)
      · have HE2 := hid (show Sp.chsH (fun a b => G (52 + a * 52 + b)) H r c 0 = Sp.chsH (fun a b => G (52 + a * 52 + b)) H r f' (m + 1) by
          rw [HE.out]
          simp only [Sp.chsH]
          rw [if_neg (by rw [hf]; decide)])
        rw [hf] at HF
        clear hf HE
        go_wp2_with (go_at_call 66; refine HF.out.mono ?_; rintro e w' ⟨rfl, rfl⟩)
        go_roundw
        case rel => exact ⟨m + 1, f', by omega, by go_num, HE2.out, (by first | rfl | trivial)⟩
        case measure => simp [intOf]; omega
      · have HE2 := hid (show Sp.chsH (fun a b => G (52 + a * 52 + b)) H r c 0 = (m : Int) by
          rw [HE.out]
          simp only [Sp.chsH]
          rw [if_pos hf])
        rw [hf] at HF
        clear hf HE
        go_wp2_with (go_at_call 66; refine HF.out.mono ?_; rintro e w' ⟨rfl, rfl⟩)
        go_ret
        exact ⟨by rw [HE2.out]; rfl, rfl⟩
    · obtain rfl : f = 0 := by omega
      have HE2 := hid (show Sp.chsH (fun a b => G (52 + a * 52 + b)) H r c 0 = 10 + (r : Int) by rw [HE.out]; rfl)
      clear HE
      go_wp2_with fail
      go_ret
      exact ⟨by rw [HE2.out]; rfl, rfl⟩

set_option maxRecDepth 20000 in
set_option maxHeartbeats 1000000 in
theorem exchange_any (b : Nat) (H : Nat → Int) (p q : Int) (w : World) (h : HmAt w b H) :
    Calls Tryz.prog 68 #[.pointer (some ⟨b, 0, none⟩), .int .i64 p, .int .i64 q] w fun e w' => e = .returned (.tuple #[]) ∧ HmAt w' b (Sp.excH H p q) ∧ Only b w w' := by
  have HH := hid h
  clear h
  go_enter Tryz.func68, Tryz.ntmps68
  go_wp2_with fail
  go_loopw [6] (fun mv wr => ∃ m : Nat, m ≤ 52 ∧ mv = .int .i64 m ∧ HmAt wr b (fun x => if x < m then Sp.excH H p q x else H x) ∧ Only b w wr) (fun mv _ => 52 - (intOf mv).toNat)
  case atStart => exact ⟨0, by omega, rfl, HH.out.congr (fun j _ => by rw [if_neg (by omega)]), Only.refl _ _⟩
  case round =>
    obtain ⟨m, hm, rfl, hA, hO⟩ := hrel
    have HA := hid hA
    have HO := hid hO
    by_cases hlt : m < 52
    · have c0 := hA.c m hlt
      rw [if_neg (by omega)] at c0
      have z0 := World.rowIs.frozen hA m
      clear hA hO
      have HP := hid (fun (v : Int) (hv : v = Sp.excH H p q m) => (show HmAt (wr.setCell ⟨b, m, none⟩ (.int .i64 v)) b (fun x => if x < m + 1 then Sp.excH H p q x else H x) from (HA.out.put m v).congr (fun x _ => by
        by_cases e : x = m
        · rw [if_pos e, if_pos (by omega), e, hv]
        · rw [if_neg e]
          by_cases c : x < m
          · rw [if_pos c, if_pos (by omega)]
          · rw [if_neg c, if_neg (by omega)])))
      by_cases h1 : H m = p
      · have t1 : (H m == p) = true := by simp [h1]
        have HV := hid (show q = Sp.excH H p q m by unfold Sp.excH; rw [if_pos h1])
        clear h1
        generalize H m = v at *
        go_wp2_with fail
        go_roundw
        case rel => exact ⟨m + 1, by omega, by go_num, HP.out q HV.out, HO.out.trans (Only.set _ _ _ _)⟩
        case measure => simp [intOf]; omega
      · have t1 : (H m == p) = false := by simp [h1]
        by_cases h2 : H m = q
        · have t2 : (H m == q) = true := by simp [h2]
          have HV := hid (show p = Sp.excH H p q m by unfold Sp.excH; rw [if_neg h1, if_pos h2])
          clear h1 h2
          generalize H m = v at *
          go_wp2_with fail
          go_roundw
          case rel => exact ⟨m + 1, by omega, by go_num, HP.out p HV.out, HO.out.trans (Only.set _ _ _ _)⟩
          case measure => simp [intOf]; omega
        · have t2 : (H m == q) = false := by simp [h2]
          have HN := hid (HA.out.congr (K := fun x => if x < m + 1 then Sp.excH H p q x else H x) (fun x _ => by
            by_cases e : x = m
            · rw [if_neg (by omega), if_pos (by omega), e]
              unfold Sp.excH
              rw [if_neg h1, if_neg h2]
            · by_cases c : x < m
              · rw [if_pos c, if_pos (by omega)]
              · rw [if_neg c, if_neg (by omega)]))
          clear h1 h2
          generalize H m = v at *
          go_wp2_with fail
          go_roundw
          case rel => exact ⟨m + 1, by omega, by go_num, HN.out, HO.out⟩
          case measure => simp [intOf]; omega
    · go_wp2_with fail
      go_end0
      exact ⟨rfl, HA.out.congr (fun j hj => by rw [if_pos (by omega)]), HO.out⟩
end Go.Proofs.YtccndnckceagfabGreatDoorR
