/-
  The program's run: moves between places; where a block begins.
  The program's run: one step.
  The program's run: step after step.
-/
import Derived.Test.YtccndnckceagfabGreatDoorRG07
namespace Go.Proofs.YtccndnckceagfabGreatDoorR
open Go.RowKit

theorem letP_bd (n : Int) : 0 ≤ Sp.letP n ∧ Sp.letP n ≤ 255 := by
  unfold Sp.letP
  split
  · exact Sp.B_bd _ _
  · omega
theorem two_cells (o p : Int) (h0 : 0 ≤ o) (h1 : o ≤ 255) (h2 : 0 ≤ p) (h3 : p ≤ 255) : Lib.strCells ⟨#[UInt8.ofNat o.toNat, UInt8.ofNat p.toNat]⟩ = [.int .u8 o, .int .u8 p] := by
  show [Value.int .u8 ((UInt8.ofNat o.toNat).toNat : Int), Value.int .u8 ((UInt8.ofNat p.toNat).toNat : Int)] = _
  rw [u8_of o h0 h1, u8_of p h2 h3]

theorem isSlot_any (p : Int) (w : World) : Calls Tryz.prog 67 #[.int .i64 p] w fun e w' => e = .returned (.bool (decide (10 ≤ p))) ∧ w = w' := by
  go_enter Tryz.func67, Tryz.ntmps67
  go_wp2_with fail
  go_ret
  exact ⟨rfl, rfl⟩

set_option maxHeartbeats 1000000 in
theorem showSlot_any (B b : Nat) (m : Sp.PSt) (o p : Int) (w : World) (hP : PAt w B b m) (hb : b < B) (hB : B ≤ w.heap.size) (ho : 0 ≤ o ∧ o ≤ 255) (hp : p ≤ 1000) (ht : m.trace.size ≤ 100000000) :
    Calls Tryz.prog 83 #[.pointer (some ⟨b, 0, none⟩), .int .u8 o, .int .i64 p] w fun e w' => e = .returned (.tuple #[]) ∧ PAt w' B b (Sp.sltP m o p) ∧ Fr B b w w' := by
  by_cases h10 : p < 10
  · have HE := hid (show Sp.sltP m o p = m by unfold Sp.sltP; rw [if_pos h10])
    have HP := hid hP
    clear hP
    have HIS := hid (fun W => isSlot_any p W)
    rw [show decide (10 ≤ p) = false from decide_eq_false (by omega)] at HIS
    go_enter Tryz.func83, Tryz.ntmps83
    go_wp2_with (go_at_call 67; refine (HIS.out _).mono ?_; rintro e w' ⟨rfl, rfl⟩)
    refine bodyPost_ret (v := .tuple #[]) (by simp [results, Tryz.results83]) rfl ⟨rfl, by rw [HE.out]; exact HP.out, Fr.refl _ _ _⟩
  · have HE := hid (show Sp.sltP m o p = Sp.shP m ⟨#[UInt8.ofNat o.toNat, UInt8.ofNat (Sp.letP (p - 10)).toNat]⟩ by unfold Sp.sltP; rw [if_neg h10])
    obtain ⟨v, hr, how⟩ := hP
    have c := p_trace hr
    have HR := hid hr
    have HO := hid how
    obtain ⟨i8, i1, i2, i3, i4⟩ := info_u8
    have HI := hid (And.intro i1 (And.intro i2 (And.intro i3 i4)))
    have HL := hid (lettr_any (p - 10) w)
    have hl := letP_bd (p - 10)
    have HTC := hid (two_cells o (Sp.letP (p - 10)) ho.1 ho.2 hl.1 hl.2)
    have HIS := hid (fun W => isSlot_any p W)
    rw [show decide (10 ≤ p) = true from decide_eq_true (by omega)] at HIS
    clear hr how i1 i2 i3 i4
    generalize Sp.letP (p - 10) = q at *
    have hB2 : Below w.heap.size w (w.alloc (.cells #[.int .u8 o, .int .u8 q] 5)) := (Below.refl _ _).alloc (Nat.le_refl _) _
    have HB2 := hid hB2
    clear hB2
    go_enter Tryz.func83, Tryz.ntmps83
    go_wp2_with (first | (go_at_call 67; refine (HIS.out _).mono ?_; rintro e w' ⟨rfl, rfl⟩) | (go_at_call 86; refine HL.out.mono ?_; rintro e w' ⟨rfl, rfl⟩) | (at_builtin; refine wpList_append_own _ rfl (.tmp 17) (.tmp 20) 60 rfl B 5 i8 (.int .u8 0) 1 1 Tryz.underlying60 HI.out.1 HI.out.2.1 HI.out.2.2.1 HI.out.2.2.2 rfl (by decide) v m.trace.size (Lib.strCells m.trace) (by simp [Act.eval]) (by exact own_below HO.out HB2.out) ⟨w.heap.size, 0, none⟩ 2 2 [.int .u8 o, .int .u8 q] (by simp [Act.eval]) rfl (by exact alloc_at w #[.int .u8 o, .int .u8 q] 5) (by intro u hu; simp only [List.mem_cons, List.not_mem_nil, or_false] at hu; rcases hu with rfl | rfl <;> rfl) (by unfold maxLen; omega) (by omega) (by simp; omega) ?_; intro v' w' hown hgrow _; obtain ⟨g', cap', hv⟩ := Joins.ownsRow_form hown (by omega); subst hv; rw [← HTC.out] at hown; obtain ⟨f1, f2, f3⟩ := show_fin HR.out HO.out hb hB HB2.out rfl hown hgrow; have q1 := p_trace f1; have q2 := f1.frozen 78; have HF2 := hid f2; have HF3 := hid f3; clear f1 f2 f3 hown hgrow))
    go_end0
    exact ⟨rfl, by rw [HE.out]; exact HF2.out, HF3.out⟩

theorem slt_size (m : Sp.PSt) (o p : Int) : (Sp.sltP m o p).trace.size ≤ m.trace.size + 2 := by
  unfold Sp.sltP
  split
  · omega
  · show (m.trace ++ ⟨#[UInt8.ofNat o.toNat, UInt8.ofNat (Sp.letP (p - 10)).toNat]⟩).size ≤ _
    rw [ByteArray.size_append]
    exact Nat.le_refl _

set_option maxHeartbeats 1000000 in
theorem pmove_any (B b : Nat) (m : Sp.PSt) (i : Sp.Ins) (w : World) (hP : PAt w B b m) (hb : b < B) (hB : B ≤ w.heap.size) (ho : 0 ≤ i.o ∧ i.o ≤ 255) (hd : i.d ≤ 1000) (hx : i.x ≤ 1000) (ht : m.trace.size ≤ 90000000) :
    Calls Tryz.prog 61 #[.pointer (some ⟨b, 0, none⟩), .agg #[.int .u8 i.o, .int .i64 i.d, .int .i64 i.x, .int .i64 i.y, .int .i64 i.n, .int .i64 i.k, .int .i64 i.m]] w fun e w' =>
      e = .returned (.tuple #[]) ∧ PAt w' B b (Sp.movP m i) ∧ Fr B b w w' := by
  obtain ⟨o, d, x, y, n, k, l⟩ := i
  have hbl : b < w.heap.size := hP.lt
  have hz0 : (w.alloc (.cells #[.int .u8 o, .int .i64 d, .int .i64 x, .int .i64 y, .int .i64 n, .int .i64 k, .int .i64 l] 74)).heap.size = w.heap.size + 1 := by simp
  have HP0 := hid (hP.move (below_box w (.cells #[.int .u8 o, .int .i64 d, .int .i64 x, .int .i64 y, .int .i64 n, .int .i64 k, .int .i64 l] 74)))
  have HF0 := hid (fr_box (B := B) (b := b) w (.cells #[.int .u8 o, .int .i64 d, .int .i64 x, .int .i64 y, .int .i64 n, .int .i64 k, .int .i64 l] 74) hB)
  have HROW := hid (row_seven w o d x y n k l)
  have HM : Hid (Sp.movP m ⟨o, d, x, y, n, k, l⟩ = Sp.wrP (Sp.sltP (Sp.sltP m o d) o x) d (Sp.rdP (Sp.sltP (Sp.sltP m o d) o x) x)) := hid rfl
  simp only at ho hd hx ⊢
  have H1 := hid (showSlot_any B b m o d _ HP0.out hb (by omega) ho hd (by omega))
  have hs1 := slt_size m o d
  have hs2 := slt_size (Sp.sltP m o d) o x
  clear hP hz0
  go_enter Tryz.func61, Tryz.ntmps61
  go_wp2_with fail
  refine H1.out.mono ?_
  rintro e w1 ⟨rfl, h1, h2⟩
  have HP1 := hid h1
  have HF1 := hid (HF0.out.trans h2)
  have HR1 := hid (h2.rows HROW.out (by omega) (by decide))
  have hw1 := h2.size
  simp only [World.size_alloc] at hw1
  clear h1 h2
  obtain ⟨r0, r1, r2, r3, r4, r5, r6⟩ := row_cells HR1.out
  have H2 := hid (showSlot_any B b (Sp.sltP m o d) o x w1 HP1.out hb (by omega) ho hx (by omega))
  go_wp2_with fail
  refine H2.out.mono ?_
  rintro e w2 ⟨rfl, h1, h2⟩
  have HP2 := hid h1
  have HF2 := hid (HF1.out.trans h2)
  have HR2 := hid (h2.rows HR1.out (by omega) (by decide))
  clear h1 h2 r0 r1 r2 r3 r4 r5 r6
  obtain ⟨r0, r1, r2, r3, r4, r5, r6⟩ := row_cells HR2.out
  have H3 := hid (HP2.out.rd x)
  have H4 := hid (HP2.out.wr hb d (Sp.rdP (Sp.sltP (Sp.sltP m o d) o x) x))
  go_wp2_with (first | (go_at_call 34; refine H3.out.mono ?_; rintro e w' ⟨rfl, rfl⟩) | (go_at_call 26; refine H4.out.mono ?_; rintro e w3 ⟨rfl, h1, h2⟩; have HP3 := hid h1; have HF3 := hid (HF2.out.trans h2); clear h1 h2))
  go_end0
  exact ⟨rfl, by rw [HM.out]; exact HP3.out, HF3.out⟩

end Go.Proofs.YtccndnckceagfabGreatDoorR

namespace Go.Proofs.YtccndnckceagfabGreatDoorR
open Go.RowKit

theorem PAt.kind {w : World} {B b : Nat} {m : Sp.PSt} (h : PAt w B b m) : ∃ c, w.heap[b]? = some (.cells c 62 (0, 0)) := by
  obtain ⟨v, ⟨c, h1, _⟩, _⟩ := h
  exact ⟨c, h1⟩
/-- the program lies as it lay -/
theorem ProgAt.fr {w w' : World} {B b Bp p : Nat} {m : Sp.PSt} {C : List Sp.Ins} {L : List (Nat × Nat)} (h : ProgAt w Bp p C L) (hS : PAt w B b m) (f : Fr B b w w') : ProgAt w' Bp p C L := by
  obtain ⟨vC, vB, h1, h2, h3, h4⟩ := h
  obtain ⟨c, hc⟩ := hS.kind
  refine ⟨vC, vB, f.rows h1 ?_ (by decide), f.owns h2 ?_ (by decide), f.owns h3 ?_ (by decide), h4⟩
  · rintro rfl
    obtain ⟨c', h5, _⟩ := h1
    rw [hc] at h5
    simp only [Option.some.injEq, Obj.cells.injEq] at h5
    exact absurd h5.2.1 (by decide)
  · rintro k hk rfl
    obtain ⟨c', h5⟩ := own_block h2 hk
    rw [hc] at h5
    simp only [Option.some.injEq, Obj.cells.injEq] at h5
    exact absurd h5.2.1 (by decide)
  · rintro k hk rfl
    obtain ⟨c', h5⟩ := own_block h3 hk
    rw [hc] at h5
    simp only [Option.some.injEq, Obj.cells.injEq] at h5
    exact absurd h5.2.1 (by decide)
theorem rdP_bd {m : Sp.PSt} {n : Nat} (h : m.ok n) (p : Int) : 0 ≤ Sp.rdP m p ∧ Sp.rdP m p ≤ 65535 := by
  unfold Sp.rdP
  split
  · exact h.pl _
  · omega
/-- the bounds of an instruction that was read -/
structure insOk (i : Sp.Ins) : Prop where
  o : 0 ≤ i.o ∧ i.o ≤ 255
  d : i.d ≤ 1000
  x : i.x ≤ 1000
  n : 0 ≤ i.n ∧ i.n ≤ 99

set_option maxRecDepth 20000 in
set_option maxHeartbeats 4000000 in
theorem pstep_any (B b Bp p : Nat) (C : List Sp.Ins) (L : List (Nat × Nat)) (m : Sp.PSt) (a : Int) (i : Sp.Ins) (w : World) (hP : PAt w B b m) (hG : ProgAt w Bp p C L) (hb : b < B) (hb4 : 4 ≤ b) (hB : B ≤ w.heap.size) (hT : Tab w) (hok : m.ok 80000000) (hi : insOk i) (ha : -1 ≤ a ∧ a ≤ 100000) :
    Calls Tryz.prog 38 #[.pointer (some ⟨b, 0, none⟩), .pointer (some ⟨p, 0, none⟩), .int .i64 a, .agg #[.int .u8 i.o, .int .i64 i.d, .int .i64 i.x, .int .i64 i.y, .int .i64 i.n, .int .i64 i.k, .int .i64 i.m]] w fun e w' =>
      e = .returned (.int .i64 (Sp.stepP (Sp.strP L) m a i).2) ∧ PAt w' B b (Sp.stepP (Sp.strP L) m a i).1 ∧ Fr B b w w' := by
  have HRX := hid (rdP_bd hok i.x)
  have HRY := hid (rdP_bd hok i.y)
  obtain ⟨i1, i2, i3, i4⟩ := hi
  have htr := hok.trace
  obtain ⟨o, d, x, y, n, k, l⟩ := i
  have hbl : b < w.heap.size := hP.lt
  have hbx := below_box w (.cells #[.int .u8 o, .int .i64 d, .int .i64 x, .int .i64 y, .int .i64 n, .int .i64 k, .int .i64 l] 74)
  have HP0 := hid (hP.move hbx)
  have HG0 := hid (hG.move hbx)
  have HT0 := hid (hT.below hbx (by omega))
  have HF0 := hid (fr_box (B := B) (b := b) w (.cells #[.int .u8 o, .int .i64 d, .int .i64 x, .int .i64 y, .int .i64 n, .int .i64 k, .int .i64 l] 74) hB)
  have HROW := hid (row_seven w o d x y n k l)
  have hz0 : B ≤ (w.alloc (.cells #[.int .u8 o, .int .i64 d, .int .i64 x, .int .i64 y, .int .i64 n, .int .i64 k, .int .i64 l] 74)).heap.size := by simp; omega
  have HZ0 := hid hz0
  simp only at i1 i2 i3 i4 HRX HRY ⊢
  have HST : Hid (Sp.stepP (Sp.strP L) m a ⟨o, d, x, y, n, k, l⟩ = if o = 106 then (m, Sp.strP L k) else if o = 63 then (if Sp.rdP m x ≠ 0 then (Sp.shP m ⟨#[63, 49]⟩, Sp.strP L k) else (Sp.shP m ⟨#[63, 48]⟩, Sp.strP L l)) else if o = 114 then (Sp.endP { m with value := Sp.rdP m x } 0, a + 1) else if o = 108 ∨ o = 76 ∨ o = 115 ∨ o = 83 then (Sp.reaP m ⟨o, d, x, y, n, k, l⟩, a + 1) else if o = 62 ∨ o = 60 ∨ o = 126 then (Sp.movP m ⟨o, d, x, y, n, k, l⟩, a + 1) else (Sp.wrP m d (Sp.cmpP o (Sp.rdP m x) (Sp.rdP m y) n), a + 1)) := hid rfl
  have HPW := hid hP
  clear hP hG hT hok hbx hz0
  by_cases o1 : o = 106
  · subst o1
    have HE := hid (HST.out.trans (if_pos rfl))
    have HS := hid (start_any Bp p C L k _ HG0.out)
    go_enter Tryz.func38, Tryz.ntmps38
    go_wp2_with (go_at_call 57; refine HS.out.mono ?_; rintro e w' ⟨rfl, rfl⟩)
    go_ret
    exact ⟨ret_int (by rw [HE.out]), by rw [HE.out]; exact HP0.out, HF0.out⟩
  by_cases o2 : o = 63
  · subst o2
    have HE := hid ((HST.out.trans (if_neg (by decide))).trans (if_pos rfl))
    have HC := hid (choose_any B b m ⟨63, d, x, y, n, k, l⟩ _ HP0.out hb HZ0.out (by omega))
    go_enter Tryz.func38, Tryz.ntmps38
    go_wp2_with fail
    refine HC.out.mono ?_
    rintro e w1 ⟨rfl, h1, h2⟩
    have HP1 := hid h1
    have HF1 := hid (HF0.out.trans h2)
    have HS := hid (start_any Bp p C L (if Sp.rdP m x ≠ 0 then k else l) w1 (HG0.out.fr HP0.out h2))
    clear h1 h2
    simp only at HP1 HS ⊢
    generalize hz : (if Sp.rdP m x ≠ 0 then k else l) = z at *
    have HZ := hid hz
    clear hz
    go_wp2_with (go_at_call 57; refine HS.out.mono ?_; rintro e w' ⟨rfl, rfl⟩)
    go_ret
    refine ⟨ret_int ?_, ?_, HF1.out⟩
    · rw [HE.out, ← HZ.out]
      by_cases hx : Sp.rdP m x ≠ 0
      · rw [if_pos hx, if_pos hx]
      · rw [if_neg hx, if_neg hx]
    · have h := HP1.out
      rw [HE.out]
      by_cases hx : Sp.rdP m x ≠ 0
      · rw [if_pos hx] at h ⊢; exact h
      · rw [if_neg hx] at h ⊢; exact h
  by_cases o3 : o = 114
  · subst o3
    have HE := hid (((HST.out.trans (if_neg (by decide))).trans (if_neg (by decide))).trans (if_pos rfl))
    have HX := hid (HP0.out.rd x)
    obtain ⟨tv, hrow, hown⟩ := HPW.out
    have c := p_value hrow
    have f := hrow.frozen 81
    have hbx2 := below_box (w.setCell ⟨b, 81, none⟩ (.int .i64 (Sp.rdP m x))) (.cells #[.int .u8 114, .int .i64 d, .int .i64 x, .int .i64 y, .int .i64 n, .int .i64 k, .int .i64 l] 74)
    have HS := hid (((show PAt (w.setCell ⟨b, 81, none⟩ (.int .i64 (Sp.rdP m x))) B b { m with value := Sp.rdP m x } from ⟨tv, p_set_value hrow _, own_only hown (Only.set _ _ _ _) hb⟩).move hbx2).fin hb 0)
    have HOS := hid ((Fr.of_only (B := B) (Only.set b 81 w (.int .i64 (Sp.rdP m x)))).trans (Fr.of_below hbx2 (by simp [World.setCell]; omega)))
    clear hrow hown hbx2
    go_enter Tryz.func38, Tryz.ntmps38
    go_wp2_with (first | (go_at_call 34; refine HX.out.mono ?_; rintro e w' ⟨rfl, rfl⟩) | (go_at_call 59; refine HS.out.mono ?_; rintro e w2 ⟨rfl, h1, h2⟩; have HP2 := hid h1; have HF2 := hid (HOS.out.trans h2); clear h1 h2))
    go_ret
    exact ⟨ret_int (by rw [HE.out]), by rw [HE.out]; exact HP2.out, HF2.out⟩
  by_cases o4 : o = 108 ∨ o = 76 ∨ o = 115 ∨ o = 83
  · have HE := hid ((((HST.out.trans (if_neg o1)).trans (if_neg o2)).trans (if_neg o3)).trans (if_pos o4))
    have HR := hid (reach_any B b m ⟨o, d, x, y, n, k, l⟩ _ HP0.out hb hb4 HZ0.out HT0.out (by omega) HRX.out o4)
    clear o1 o2 o3
    rcases o4 with rfl | rfl | rfl | rfl
    all_goals
      go_enter Tryz.func38, Tryz.ntmps38
      go_wp2_with (go_at_call 60; refine HR.out.mono ?_; rintro e w2 ⟨rfl, h1, h2⟩; have HP2 := hid h1; have HF2 := hid (HF0.out.trans h2); clear h1 h2)
      go_ret
      exact ⟨ret_int (by rw [HE.out]), by rw [HE.out]; exact HP2.out, HF2.out⟩
  by_cases o5 : o = 62 ∨ o = 60 ∨ o = 126
  · have HE := hid (((((HST.out.trans (if_neg o1)).trans (if_neg o2)).trans (if_neg o3)).trans (if_neg o4)).trans (if_pos o5))
    have HR := hid (pmove_any B b m ⟨o, d, x, y, n, k, l⟩ _ HP0.out hb HZ0.out i1 i2 i3 (by omega))
    clear o1 o2 o3 o4
    rcases o5 with rfl | rfl | rfl
    all_goals
      go_enter Tryz.func38, Tryz.ntmps38
      go_wp2_with (go_at_call 61; refine HR.out.mono ?_; rintro e w2 ⟨rfl, h1, h2⟩; have HP2 := hid h1; have HF2 := hid (HF0.out.trans h2); clear h1 h2)
      go_ret
      exact ⟨ret_int (by rw [HE.out]), by rw [HE.out]; exact HP2.out, HF2.out⟩
  · have HE := hid (((((HST.out.trans (if_neg o1)).trans (if_neg o2)).trans (if_neg o3)).trans (if_neg o4)).trans (if_neg o5))
    have HC : Hid (Calls Tryz.prog 62 #[.pointer (some ⟨b, 0, none⟩), .agg #[.int .u8 o, .int .i64 d, .int .i64 x, .int .i64 y, .int .i64 n, .int .i64 k, .int .i64 l]] (w.alloc (.cells #[.int .u8 o, .int .i64 d, .int .i64 x, .int .i64 y, .int .i64 n, .int .i64 k, .int .i64 l] 74)) fun e w' => e = .returned (.int .i64 (Sp.cmpP o (Sp.rdP m x) (Sp.rdP m y) n)) ∧ Below (w.alloc (.cells #[.int .u8 o, .int .i64 d, .int .i64 x, .int .i64 y, .int .i64 n, .int .i64 k, .int .i64 l] 74)).heap.size (w.alloc (.cells #[.int .u8 o, .int .i64 d, .int .i64 x, .int .i64 y, .int .i64 n, .int .i64 k, .int .i64 l] 74)) w') := by
      obtain ⟨tv, hrow, _⟩ := HP0.out
      exact hid (compute_any b m tv ⟨o, d, x, y, n, k, l⟩ _ hrow HRX.out HRY.out)
    have p1 : o ≠ 108 := by omega
    have p2 : o ≠ 76 := by omega
    have p3 : o ≠ 115 := by omega
    have p4 : o ≠ 83 := by omega
    have p5 : o ≠ 62 := by omega
    have p6 : o ≠ 60 := by omega
    have p7 : o ≠ 126 := by omega
    clear o4 o5
    generalize Sp.cmpP o (Sp.rdP m x) (Sp.rdP m y) n = R at *
    go_enter Tryz.func38, Tryz.ntmps38
    go_wp2_with fail
    refine HC.out.mono ?_
    rintro e w1 ⟨rfl, hb1⟩
    have HR1 := hid (HROW.out.of_block (hb1.block _ (by simp)))
    have HP1 := hid (HP0.out.move hb1)
    have HF1 := hid (HF0.out.trans (Fr.of_below hb1 HZ0.out))
    have HW := hid (HP1.out.wr hb d R)
    clear hb1
    obtain ⟨r0, r1, r2, r3, r4, r5, r6⟩ := row_cells HR1.out
    go_wp2_with (go_at_call 26; refine HW.out.mono ?_; rintro e w2 ⟨rfl, h1, h2⟩; have HP2 := hid h1; have HF2 := hid (HF1.out.trans h2); clear h1 h2)
    go_ret
    exact ⟨ret_int (by rw [HE.out]), by rw [HE.out]; exact HP2.out, HF2.out⟩
end Go.Proofs.YtccndnckceagfabGreatDoorR

namespace Go.Proofs.YtccndnckceagfabGreatDoorR
open Go.RowKit
namespace Sp
theorem PSt.ok.mono {m : PSt} {n k : Nat} (h : m.ok n) (hk : n ≤ k) : m.ok k := ⟨h.pl, h.pub, h.sec, Nat.le_trans h.trace hk⟩
theorem shP_ok {m : PSt} {n : Nat} (h : m.ok n) (t : ByteArray) (k : Nat) (hk : n + t.size ≤ k) : (shP m t).ok k :=
  ⟨h.pl, h.pub, h.sec, by show (m.trace ++ t).size ≤ k; rw [ByteArray.size_append]; have := h.trace; omega⟩
theorem upd_ok {f : Nat → Int} (h : ∀ k, 0 ≤ f k ∧ f k ≤ 65535) (j : Nat) {v : Int} (hv : 0 ≤ v ∧ v ≤ 65535) : ∀ k, 0 ≤ upd f j v k ∧ upd f j v k ≤ 65535 := fun k => by
  unfold upd
  split
  · exact hv
  · exact h k
theorem wrP_ok {m : PSt} {n : Nat} (h : m.ok n) (p : Int) {v : Int} (hv : 0 ≤ v ∧ v ≤ 65535) : (wrP m p v).ok n := by
  unfold wrP
  split
  · exact ⟨upd_ok h.pl _ hv, h.pub, h.sec, h.trace⟩
  · exact h
theorem endP_ok {m : PSt} {n : Nat} (h : m.ok n) (s : Int) : (endP m s).ok n := ⟨h.pl, h.pub, h.sec, h.trace⟩
theorem sltP_ok {m : PSt} {n : Nat} (h : m.ok n) (o p : Int) : (sltP m o p).ok (n + 2) := by
  unfold sltP
  split
  · exact h.mono (by omega)
  · exact shP_ok h _ _ (Nat.le_refl _)
theorem cmpP_ok {o x y n : Int} (x0 : 0 ≤ x ∧ x ≤ 65535) (y0 : 0 ≤ y ∧ y ≤ 65535) (hn : 0 ≤ n ∧ n ≤ 99) : 0 ≤ cmpP o x y n ∧ cmpP o x y n ≤ 65535 := by
  unfold cmpP
  split
  · exact cntS_bd o x y x0.1 y0.1
  · split
    · exact x0
    · omega
theorem reaP_ok {m : PSt} {n : Nat} (h : m.ok n) (i : Ins) (hx : 0 ≤ rdP m i.x ∧ rdP m i.x ≤ 65535) (hy : 0 ≤ rdP m i.y ∧ rdP m i.y ≤ 65535) : (reaP m i).ok (n + 9) := by
  have hsz : (memT i.o (rdP m i.x)).size ≤ 8 := by
    unfold memT
    rw [ByteArray.size_append]
    have := dec_len5 (rdP m i.x).toNat (by omega)
    have e : (⟨#[UInt8.ofNat i.o.toNat]⟩ : ByteArray).size = 1 := rfl
    omega
  have h1 : (shP m (memT i.o (rdP m i.x))).ok (n + 8) := shP_ok h _ _ (by omega)
  unfold reaP
  simp only
  split
  · exact endP_ok (shP_ok h1 ⟨#[33]⟩ _ (Nat.le_refl _)) _
  · split
    · exact (wrP_ok h1 _ (h1.pub _)).mono (by omega)
    · split
      · exact (wrP_ok h1 _ (h1.sec _)).mono (by omega)
      · split
        · exact ⟨h1.pl, upd_ok h1.pub _ hy, h1.sec, Nat.le_trans h1.trace (by omega)⟩
        · exact ⟨h1.pl, h1.pub, upd_ok h1.sec _ hy, Nat.le_trans h1.trace (by omega)⟩
end Sp
theorem stepP_ok {F : Int → Int} {m : Sp.PSt} {n : Nat} (h : m.ok n) (a : Int) {i : Sp.Ins} (hi : insOk i) : (Sp.stepP F m a i).1.ok (n + 9) := by
  have hx := rdP_bd h i.x
  have hy := rdP_bd h i.y
  unfold Sp.stepP
  split
  · exact h.mono (by omega)
  split
  · split
    · exact Sp.shP_ok h _ _ (by show n + 2 ≤ n + 9; omega)
    · exact Sp.shP_ok h _ _ (by show n + 2 ≤ n + 9; omega)
  split
  · exact Sp.endP_ok (m := { m with value := Sp.rdP m i.x }) ⟨h.pl, h.pub, h.sec, Nat.le_trans h.trace (by omega)⟩ _
  split
  · exact Sp.reaP_ok h i hx hy
  split
  · have h2 := Sp.sltP_ok (Sp.sltP_ok h i.o i.d) i.o i.x
    exact (Sp.wrP_ok h2 _ (rdP_bd h2 i.x)).mono (by omega)
  · exact (Sp.wrP_ok h _ (Sp.cmpP_ok hx hy hi.n)).mono (by omega)
theorem stepP_next {L : List (Nat × Nat)} {m : Sp.PSt} {a : Int} {i : Sp.Ins} (hL : ∀ q, -1 ≤ Sp.strP L q ∧ Sp.strP L q ≤ 5000) (ha : -1 ≤ a ∧ a < 5000) : -1 ≤ (Sp.stepP (Sp.strP L) m a i).2 ∧ (Sp.stepP (Sp.strP L) m a i).2 ≤ 5000 := by
  have h1 := hL i.k
  have h2 := hL i.m
  unfold Sp.stepP
  repeat' split
  all_goals (simp only; omega)

set_option maxRecDepth 20000 in
set_option maxHeartbeats 4000000 in
theorem walk_any (B b Bp p : Nat) (C : List Sp.Ins) (L : List (Nat × Nat)) (m : Sp.PSt) (F : Nat) (w : World) (hP : PAt w B b m) (hG : ProgAt w Bp p C L) (hb : b < B) (hb4 : 4 ≤ b) (hB : B ≤ w.heap.size) (hT : Tab w) (hok : m.ok 1000) (hF : F ≤ 20000)
    (hC : C.length ≤ 1100) (hC0 : 0 < C.length) (hI : ∀ j (h : j < C.length), insOk C[j]) (hL : ∀ q, -1 ≤ Sp.strP L q ∧ Sp.strP L q ≤ 5000) :
    Calls Tryz.prog 27 #[.pointer (some ⟨b, 0, none⟩), .pointer (some ⟨p, 0, none⟩), .int .i64 (F : Int)] w fun e w' =>
      e = .returned (.tuple #[]) ∧ PAt w' B b (Sp.walkP C (Sp.strP L) F m 0) ∧ Fr B b w w' := by
  have HP := hid hP
  have HG := hid hG
  have HT := hid hT
  have HOK := hid hok
  have HII := hid hI
  have HLL := hid hL
  clear hP hG hT hok hI hL
  go_enter Tryz.func27, Tryz.ntmps27
  go_wp2_with fail
  go_loopw [6, 7] (fun av dv wr => ∃ (j : Nat) (M : Sp.PSt) (A : Int), av = .int .i64 A ∧ dv = .int .i64 j ∧ j ≤ F ∧ (-1 ≤ A ∧ A ≤ 5000) ∧ PAt wr B b M ∧ Fr B b w wr ∧ M.ok (1000 + 9 * j) ∧ Sp.walkP C (Sp.strP L) (F - j) M A = Sp.walkP C (Sp.strP L) F m 0) (fun _ dv _ => F - (intOf dv).toNat)
  case atStart => exact ⟨0, m, 0, rfl, rfl, by omega, by omega, HP.out, Fr.refl _ _ _, HOK.out, rfl⟩
  case round =>
    obtain ⟨j, M, A, rfl, rfl, hj, hA, hM, hFr, hMok, hW⟩ := hrel
    have HM := hid hM
    have HFR := hid hFr
    have HMOK := hid hMok
    have HW := hid hW
    have HG1 := hid (HG.out.fr HP.out hFr)
    have hsw := hFr.size
    clear hMok hW hFr
    obtain ⟨tv, hrow, _⟩ := hM
    have ce := p_ended hrow
    clear hrow
    by_cases hjF : j < F
    · cases hE : M.ended
      · rw [hE] at ce
        have HE := hid hE
        clear hE
        obtain ⟨vC, vB, hp1, hp2, _, _⟩ := HG1.out
        have cc : wr.cell? ⟨p, 0, none⟩ = some vC := hp1.cell (i := 0) (by omega)
        have HP2 := hid hp2
        obtain ⟨gC, capC, rfl⟩ := Joins.ownsRow_form hp2 hC0
        clear hp1 hp2
        by_cases hin : 0 ≤ A ∧ A < C.length
        · obtain ⟨q, rfl⟩ := Int.eq_ofNat_of_zero_le hin.1
          have hq : q < C.length := by omega
          obtain ⟨c0, c1, c2, c3, c4, c5, c6⟩ := ins_cells HP2.out q hq
          have HST := hid (pstep_any B b Bp p C L M q C[q] wr HM.out HG1.out hb hb4 (by omega) (HT.out.fr HFR.out hb4 hb) (HMOK.out.mono (by omega)) (HII.out q hq) (by omega))
          have HWS : Hid (Sp.walkP C (Sp.strP L) (F - (j + 1)) (Sp.stepP (Sp.strP L) M q C[q]).1 (Sp.stepP (Sp.strP L) M q C[q]).2 = Sp.walkP C (Sp.strP L) F m 0) := by
            show Sp.walkP C (Sp.strP L) (F - (j + 1)) (Sp.stepP (Sp.strP L) M q C[q]).1 (Sp.stepP (Sp.strP L) M q C[q]).2 = Sp.walkP C (Sp.strP L) F m 0
            rw [← HW.out, show F - j = (F - (j + 1)) + 1 by omega]
            simp only [Sp.walkP]
            rw [HE.out, if_neg (by simp), dif_pos ⟨by omega, by simpa using hq⟩]
            rfl
          have HNX := hid (stepP_next (m := M) (a := (q : Int)) (i := C[q]) HLL.out (by omega))
          have HOKS := hid (stepP_ok (F := Sp.strP L) HMOK.out (q : Int) (HII.out q hq))
          generalize C[q] = I at *
          generalize Sp.stepP (Sp.strP L) M (q : Int) I = R at *
          go_wp2_with (go_at_call 38; refine HST.out.mono ?_; rintro e w2 ⟨rfl, h1, h2⟩; have HM2 := hid h1; have HF2 := hid (HFR.out.trans h2); clear h1 h2)
          go_roundw
          case rel => exact ⟨j + 1, R.1, R.2, rfl, by go_num, by omega, HNX.out, HM2.out, HF2.out, HOKS.out.mono (by omega), HWS.out⟩
          case measure => simp [intOf]; omega
        · have HEQ : Hid (M = Sp.walkP C (Sp.strP L) F m 0) := by
            show M = Sp.walkP C (Sp.strP L) F m 0
            rw [← HW.out, show F - j = (F - (j + 1)) + 1 by omega]
            simp only [Sp.walkP]
            rw [HE.out, if_neg (by simp), dif_neg (by omega)]
          by_cases hneg : A < 0
          · clear hin
            go_wp2_with fail
            refine bodyPost_ret (v := .tuple #[]) (by simp [results, Tryz.results27]) rfl ⟨rfl, by rw [← HEQ.out]; exact HM.out, HFR.out⟩
          · have hbig : (C.length : Int) ≤ A := by omega
            clear hin
            go_wp2_with fail
            refine bodyPost_ret (v := .tuple #[]) (by simp [results, Tryz.results27]) rfl ⟨rfl, by rw [← HEQ.out]; exact HM.out, HFR.out⟩
      · rw [hE] at ce
        have HEQ : Hid (M = Sp.walkP C (Sp.strP L) F m 0) := by
          show M = Sp.walkP C (Sp.strP L) F m 0
          rw [← HW.out, show F - j = (F - (j + 1)) + 1 by omega]
          simp only [Sp.walkP]
          rw [hE, if_pos rfl]
        clear hE
        go_wp2_with fail
        go_end0
        exact ⟨rfl, by rw [← HEQ.out]; exact HM.out, HFR.out⟩
    · have HEQ : Hid (M = Sp.walkP C (Sp.strP L) F m 0) := by
        show M = Sp.walkP C (Sp.strP L) F m 0
        rw [← HW.out, show F - j = 0 by omega]
        rfl
      go_wp2_with fail
      go_end0
      exact ⟨rfl, by rw [← HEQ.out]; exact HM.out, HFR.out⟩
end Go.Proofs.YtccndnckceagfabGreatDoorR
