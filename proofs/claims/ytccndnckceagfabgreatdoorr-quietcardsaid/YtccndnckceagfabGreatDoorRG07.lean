/-
  strconv.Itoa: its contract at this program.
  The program's run: the instructions that go to a memory.
  The program's run: the instructions that go to a memory, walked.
-/
import Derived.Shelf.LaysM
import Derived.Shelf.Strconv.Itoa3
import Derived.Test.YtccndnckceagfabGreatDoorRProg
import Derived.Test.YtccndnckceagfabGreatDoorRHRun3
namespace Go.Proofs
open Go.Shelf
def Tryz.laysM171_ren : Go.Shelf.Ren := ⟨fun | 171 => 82 | 243 => 91 | 246 => 94 | 283 => 95 | 284 => 96 | 285 => 97 | 286 => 98 | 129 => 100 | 317 => 99 | 318 => 101 | 319 => 102 | 320 => 103 | 337 => 104 | 338 => 105 | n => n, fun | 3 => 3 | 9 => 9 | 2 => 2 | 4 => 4 | 171 => 129 | 0 => 0 | 53 => 130 | 37 => 60 | 5 => 5 | 173 => 133 | 212 => 136 | 51 => 137 | 20 => 20 | 213 => 138 | 46 => 139 | 232 => 142 | 233 => 143 | n => n, fun | 17 => 1 | 18 => 2 | 19 => 3 | n => n⟩
theorem Tryz.laysM171 : Go.Proofs.LaysM.n171 Tryz.prog Tryz.laysM171_ren := {
  mixed := by kernel_rfl
  f129 := Tryz.func100.trans (congrArg some (by kernel_rfl))
  f171 := Tryz.func82.trans (congrArg some (by kernel_rfl))
  f243 := Tryz.func91.trans (congrArg some (by kernel_rfl))
  f246 := Tryz.func94.trans (congrArg some (by kernel_rfl))
  f283 := Tryz.func95.trans (congrArg some (by kernel_rfl))
  f284 := Tryz.func96.trans (congrArg some (by kernel_rfl))
  f285 := Tryz.func97.trans (congrArg some (by kernel_rfl))
  f286 := Tryz.func98.trans (congrArg some (by kernel_rfl))
  f317 := Tryz.func99.trans (congrArg some (by kernel_rfl))
  f318 := Tryz.func101.trans (congrArg some (by kernel_rfl))
  f319 := Tryz.func102.trans (congrArg some (by kernel_rfl))
  f320 := Tryz.func103.trans (congrArg some (by kernel_rfl))
  f337 := Tryz.func104.trans (congrArg some (by kernel_rfl))
  f338 := Tryz.func105.trans (congrArg some (by kernel_rfl))
  t0 := Tryz.underlying0
  a0 := Tryz.isAgg0
  z0 := Tryz.sizeOf0
  v0 := Tryz.zeroValue0
  t2 := Tryz.underlying2
  a2 := Tryz.isAgg2
  z2 := Tryz.sizeOf2
  v2 := Tryz.zeroValue2
  t3 := Tryz.underlying3
  a3 := Tryz.isAgg3
  z3 := Tryz.sizeOf3
  v3 := Tryz.zeroValue3
  t4 := Tryz.underlying4
  a4 := Tryz.isAgg4
  z4 := Tryz.sizeOf4
  v4 := Tryz.zeroValue4
  t5 := Tryz.underlying5
  a5 := Tryz.isAgg5
  z5 := Tryz.sizeOf5
  v5 := Tryz.zeroValue5
  t9 := Tryz.underlying9
  a9 := Tryz.isAgg9
  z9 := Tryz.sizeOf9
  v9 := Tryz.zeroValue9
  t20 := Tryz.underlying20
  a20 := Tryz.isAgg20
  z20 := Tryz.sizeOf20
  v20 := Tryz.zeroValue20
  t37 := Tryz.underlying60
  a37 := Tryz.isAgg60
  z37 := Tryz.sizeOf60
  v37 := Tryz.zeroValue60
  t46 := Tryz.underlying139
  a46 := Tryz.isAgg139
  z46 := Tryz.sizeOf139
  v46 := Tryz.zeroValue139
  t51 := Tryz.underlying137
  a51 := Tryz.isAgg137
  z51 := Tryz.sizeOf137
  v51 := Tryz.zeroValue137
  t53 := Tryz.underlying130
  a53 := Tryz.isAgg130
  z53 := Tryz.sizeOf130
  v53 := Tryz.zeroValue130
  t171 := Tryz.underlying129
  a171 := Tryz.isAgg129
  z171 := Tryz.sizeOf129
  v171 := Tryz.zeroValue129
  t173 := Tryz.underlying133
  a173 := Tryz.isAgg133
  z173 := Tryz.sizeOf133
  v173 := Tryz.zeroValue133
  t212 := Tryz.underlying136
  a212 := Tryz.isAgg136
  z212 := Tryz.sizeOf136
  v212 := Tryz.zeroValue136
  t213 := Tryz.underlying138
  a213 := Tryz.isAgg138
  z213 := Tryz.sizeOf138
  t232 := Tryz.underlying142
  a232 := Tryz.isAgg142
  z232 := Tryz.sizeOf142
  v232 := Tryz.zeroValue142
  t233 := Tryz.underlying143
  a233 := Tryz.isAgg143
  z233 := Tryz.sizeOf143
  v233 := Tryz.zeroValue143
  g17 := by kernel_rfl
  g18 := by kernel_rfl
  g19 := by kernel_rfl
  i0 := by kernel_rfl
  i2 := by kernel_rfl
  i3 := by kernel_rfl
  i4 := by kernel_rfl
  i5 := by kernel_rfl
  i9 := by kernel_rfl
  i20 := by kernel_rfl
  i37 := by kernel_rfl
  i46 := by kernel_rfl
  i51 := by kernel_rfl
  i53 := by kernel_rfl
  i171 := by kernel_rfl
  i173 := by kernel_rfl
  i212 := by kernel_rfl
  i232 := by kernel_rfl
  i233 := by kernel_rfl
  m17 := by kernel_rfl
  m18 := by kernel_rfl
  m19 := by kernel_rfl }
open Go.RowKit Go.Sort Go.Lib in
theorem Tryz.strconv_Itoa (n : Int) (h0 : -9223372036854775808 ≤ n) (h1 : n ≤ 9223372036854775807) (w : World) (htab : Lib.TabIs Tryz.prog w "internal/strconv.uint64pow10" .u64 Lib.pow10Tab) :
    Calls Tryz.prog 82 #[.int .i64 n] w fun e w' => e = .returned (.string ⟨(Lib.itoa n).toArray⟩) ∧ ∃ k os, w' = grow (w.drewN k) os := Any.strconv_Itoa Tryz.laysM171 n h0 h1 w htab
end Go.Proofs

namespace Go.Proofs.YtccndnckceagfabGreatDoorR
open Go.RowKit

/-- the library's table lies as its initialiser laid it -/
def Tab (w : World) : Prop := Lib.TabIs Tryz.prog w "internal/strconv.uint64pow10" .u64 Lib.pow10Tab
theorem gPow : Tryz.prog.globalNamed "internal/strconv.uint64pow10" = some 1 := by kernel_rfl
theorem Tab.of_block {w w' : World} (h : Tab w) (e : w'.heap[1]? = w.heap[1]?) : Tab w' := by
  unfold Tab Lib.TabIs World.var? at h ⊢
  rw [gPow] at h ⊢
  simp only [Option.bind_some] at h ⊢
  rw [e]
  exact h
theorem Tab.lt {w : World} (h : Tab w) : 1 < w.heap.size := by
  unfold Tab Lib.TabIs World.var? at h
  rw [gPow] at h
  simp only [Option.bind_some] at h
  cases e : w.heap[1]? with
  | none => rw [e] at h; cases h
  | some o => exact lt_of_block e
theorem Tab.fr {B b : Nat} {w w' : World} (h : Tab w) (f : Fr B b w w') (hb : 4 ≤ b) (hB : b < B) : Tab w' := h.of_block (f.but.block 1 (by omega) (by omega))
theorem Tab.below {B : Nat} {w w' : World} (h : Tab w) (f : Below B w w') (hB : 4 ≤ B) : Tab w' := h.of_block (f.block 1 (by omega))
theorem below_grow (w : World) (k : Nat) (os : Array Obj) : Below w.heap.size w (Sort.grow (w.drewN k) os) :=
  ⟨rfl, rfl, rfl, by simp [Sort.grow, World.drewN], fun j hj => by
    show (w.heap ++ os)[j]? = w.heap[j]?
    rw [Array.getElem?_append_left hj]⟩
theorem itoa_any (n : Int) (h0 : 0 ≤ n) (h1 : n ≤ 65535) (w : World) (hT : Tab w) :
    Calls Tryz.prog 82 #[.int .i64 n] w fun e w' => e = .returned (.string ⟨(Lib.decDigits n.toNat).toArray⟩) ∧ Below w.heap.size w w' := by
  refine (Tryz.strconv_Itoa n (by omega) (by omega) w hT).mono ?_
  rintro e w' ⟨rfl, k, os, rfl⟩
  refine ⟨?_, below_grow w k os⟩
  unfold Lib.itoa
  rw [if_neg (by omega)]
theorem dec_pos (n : Nat) : 0 < (⟨(Lib.decDigits n).toArray⟩ : ByteArray).size := by
  show 0 < (Lib.decDigits n).toArray.size
  rw [List.size_toArray]
  unfold Lib.decDigits
  split <;> simp
theorem dec_len5 (n : Nat) (h : n ≤ 65535) : (⟨(Lib.decDigits n).toArray⟩ : ByteArray).size ≤ 7 := by
  show (Lib.decDigits n).toArray.size ≤ 7
  rw [List.size_toArray]
  have := dec_len 6 n (by omega)
  omega
theorem one_cells (o : Int) (h0 : 0 ≤ o) (h1 : o ≤ 255) : Lib.strCells ⟨#[UInt8.ofNat o.toNat]⟩ = [.int .u8 o] := by
  show [Value.int .u8 ((UInt8.ofNat o.toNat).toNat : Int)] = [.int .u8 o]
  rw [u8_of o h0 h1]
theorem shP_shP (m : Sp.PSt) (s t : ByteArray) : Sp.shP (Sp.shP m s) t = Sp.shP m (s ++ t) := by
  unfold Sp.shP
  rw [ByteArray.append_assoc]
end Go.Proofs.YtccndnckceagfabGreatDoorR

namespace Go.Proofs.YtccndnckceagfabGreatDoorR
open Go.RowKit

theorem below_byte (w : World) (o : Int) : Below w.heap.size w ((w.alloc (.cells #[.int .u8 o] 5)).drew) := ((Below.refl _ _).alloc (Nat.le_refl _) _).drew

theorem mem_size (m : Sp.PSt) (o V : Int) (hV : V ≤ 65535) (ht : m.trace.size ≤ 90000000) : (Sp.shP m (Sp.memT o V)).trace.size ≤ 100000000 := by
  show (m.trace ++ (⟨#[UInt8.ofNat o.toNat]⟩ ++ ⟨(Lib.decDigits V.toNat).toArray⟩)).size ≤ _
  rw [ByteArray.size_append, ByteArray.size_append]
  have := dec_len5 V.toNat (by omega)
  have e : (⟨#[UInt8.ofNat o.toNat]⟩ : ByteArray).size = 1 := rfl
  omega

set_option maxRecDepth 20000 in
set_option maxHeartbeats 4000000 in
theorem reach_any (B b : Nat) (m : Sp.PSt) (i : Sp.Ins) (w : World) (hP : PAt w B b m) (hb : b < B) (hb4 : 4 ≤ b) (hB : B ≤ w.heap.size) (hT : Tab w) (ht : m.trace.size ≤ 90000000)
    (hv : 0 ≤ Sp.rdP m i.x ∧ Sp.rdP m i.x ≤ 65535) (ho : i.o = 108 ∨ i.o = 76 ∨ i.o = 115 ∨ i.o = 83) :
    Calls Tryz.prog 60 #[.pointer (some ⟨b, 0, none⟩), .agg #[.int .u8 i.o, .int .i64 i.d, .int .i64 i.x, .int .i64 i.y, .int .i64 i.n, .int .i64 i.k, .int .i64 i.m]] w fun e w' =>
      e = .returned (.tuple #[]) ∧ PAt w' B b (Sp.reaP m i) ∧ Fr B b w w' := by
  obtain ⟨o, d, x, y, n, k, l⟩ := i
  have hbl : b < w.heap.size := hP.lt
  have HP0 := hid (hP.move (below_box w (.cells #[.int .u8 o, .int .i64 d, .int .i64 x, .int .i64 y, .int .i64 n, .int .i64 k, .int .i64 l] 74)))
  have HX := hid (HP0.out.rd x)
  have HT0 := hid (hT.below (below_box w (.cells #[.int .u8 o, .int .i64 d, .int .i64 x, .int .i64 y, .int .i64 n, .int .i64 k, .int .i64 l] 74)) (by omega))
  have HROW := hid (row_seven w o d x y n k l)
  have HRE : Hid (Sp.reaP m ⟨o, d, x, y, n, k, l⟩ = if 8 ≤ Sp.rdP m x then Sp.endP (Sp.shP (Sp.shP m (Sp.memT o (Sp.rdP m x))) ⟨#[33]⟩) 1 else if o = 108 then Sp.wrP (Sp.shP m (Sp.memT o (Sp.rdP m x))) d (m.pub (Sp.rdP m x).toNat) else if o = 76 then Sp.wrP (Sp.shP m (Sp.memT o (Sp.rdP m x))) d (m.sec (Sp.rdP m x).toNat) else if o = 115 then { Sp.shP m (Sp.memT o (Sp.rdP m x)) with pub := Sp.upd m.pub (Sp.rdP m x).toNat (Sp.rdP m y) } else { Sp.shP m (Sp.memT o (Sp.rdP m x)) with sec := Sp.upd m.sec (Sp.rdP m x).toNat (Sp.rdP m y) }) := hid rfl
  simp only at hv ho ⊢
  generalize Sp.rdP m x = V at *
  obtain ⟨v0, v1⟩ := hv
  have HF0 := hid (fr_box (B := B) (b := b) w (.cells #[.int .u8 o, .int .i64 d, .int .i64 x, .int .i64 y, .int .i64 n, .int .i64 k, .int .i64 l] 74) hB)
  have hz0 : (w.alloc (.cells #[.int .u8 o, .int .i64 d, .int .i64 x, .int .i64 y, .int .i64 n, .int .i64 k, .int .i64 l] 74)).heap.size = w.heap.size + 1 := by simp
  clear hP hT
  go_enter Tryz.func60, Tryz.ntmps60
  go_wp2_with (go_at_call 34; refine HX.out.mono ?_; rintro e w' ⟨rfl, rfl⟩)
  refine (itoa_any V v0 v1 _ HT0.out).mono ?_
  rintro e w1 ⟨rfl, hb1⟩
  have HP1 := hid (HP0.out.move hb1)
  have HF1 := hid (HF0.out.trans (Fr.of_below hb1 (by omega)))
  have hs1 : w.heap.size + 1 ≤ w1.heap.size := by have := hb1.size; rw [hz0] at this; exact this
  have HR1 := hid (HROW.out.of_block (hb1.block _ (by omega)))
  clear hb1 hz0 HP0 HX HT0 HROW HF0
  generalize hD : (⟨(Lib.decDigits V.toNat).toArray⟩ : ByteArray) = D at *
  have HD := hid hD
  clear hD
  obtain ⟨v, hrow, hown⟩ := HP1.out
  obtain ⟨r0, r1, r2, r3, r4, r5, r6⟩ := row_cells HR1.out
  have c78 := p_trace hrow
  have f78 := hrow.frozen 78
  have HRW := hid hrow
  have HOW := hid hown
  have hbw1 : b < w1.heap.size := by omega
  obtain ⟨i8, i1, i2, i3, i4⟩ := info_u8
  have HI := hid (And.intro i1 (And.intro i2 (And.intro i3 i4)))
  clear hrow hown i1 i2 i3 i4
  have ho8 : 0 ≤ o ∧ o ≤ 255 := by omega
  go_wp2_with fail
  go_region_law (refine step_append_own rfl (.tmp 18) (.tmp 21) 60 rfl B 5 i8 (.int .u8 0) 1 1 Tryz.underlying60 HI.out.1 HI.out.2.1 HI.out.2.2.1 HI.out.2.2.2 rfl (by decide) v m.trace.size (Lib.strCells m.trace) (by simp [Act.eval]) (by exact own_below HOW.out (below_byte w1 o)) ⟨w1.heap.size, 0, none⟩ 1 1 [.int .u8 o] (by simp [Act.eval]) rfl (by exact alloc_at w1 #[.int .u8 o] 5) (by intro u hu; simp only [List.mem_cons, List.not_mem_nil, or_false] at hu; subst hu; rfl) (by unfold maxLen; omega) (by omega) (by simp; omega) ?_; intro v' w' hown hgrow; obtain ⟨g', cap', hv⟩ := Joins.ownsRow_form hown (by omega); subst hv; rw [← one_cells o ho8.1 ho8.2] at hown; obtain ⟨f1, f2, f3⟩ := show_fin HRW.out HOW.out hb (by omega) (below_byte w1 o) rfl hown hgrow; have q1 := p_trace f1; have q2 := f1.frozen 78; have HF2 := hid f2; have HF3 := hid f3; clear f1 f2 f3 hown hgrow)
  all_goals
    clear q1 q2 c78 f78 r0 r1 r2 r3 r4 r5 r6
    generalize w'.setCell ⟨b, 78, none⟩ (.slice (some ⟨g', 0, none⟩) (m.trace.size + 1) cap') = w2 at *
    have HR2 := hid (HF3.out.rows HR1.out (by omega) (by decide))
    have HF4 := hid (HF1.out.trans HF3.out)
    have hs2 := HF3.out.size
    clear HR1 HF1 HF3 HRW HOW HP1
    have HSD := hid (show_any B b (Sp.shP m ⟨#[UInt8.ofNat o.toNat]⟩) D w2 HF2.out hb (by omega) (by rw [← HD.out]; exact dec_pos _) (by rw [← HD.out]; have := dec_len5 V.toNat (by omega); omega) (by show (m.trace ++ ⟨#[UInt8.ofNat o.toNat]⟩).size ≤ _; rw [ByteArray.size_append]; show m.trace.size + 1 ≤ _; omega))
    go_wp2_with fail
    refine HSD.out.mono ?_
    rintro e w3 ⟨rfl, h3, h4⟩
    rw [shP_shP, ← HD.out] at h3
    have hP3 : PAt w3 B b (Sp.shP m (Sp.memT o V)) := h3
    have HP3 := hid hP3
    have HR3 := hid (h4.rows HR2.out (by omega) (by decide))
    have HF5 := hid (HF4.out.trans h4)
    have hs3 := h4.size
    clear h3 h4 hP3 HR2 HF4 HSD HF2
    obtain ⟨r0, r1, r2, r3, r4, r5, r6⟩ := row_cells HR3.out
    by_cases h8 : 8 ≤ V
    · have HE := hid (show Sp.reaP m ⟨o, d, x, y, n, k, l⟩ = Sp.endP (Sp.shP (Sp.shP m (Sp.memT o V)) ⟨#[33]⟩) 1 by rw [HRE.out, if_pos h8])
      have HS := hid (show_any B b (Sp.shP m (Sp.memT o V)) ⟨#[33]⟩ w3 HP3.out hb (by omega) (by decide) (by decide) (mem_size m o V (by omega) (by omega)))
      go_wp2_with fail
      refine HS.out.mono ?_
      rintro e w4 ⟨rfl, h5, h6⟩
      have HN := hid (h5.fin hb 1)
      have HF6 := hid (HF5.out.trans h6)
      clear h5 h6
      go_wp2_with fail
      refine HN.out.mono ?_
      rintro e w5 ⟨rfl, h7, h8⟩
      have HP5 := hid h7
      have HF7 := hid (HF6.out.trans h8)
      clear h7 h8
      go_wp2_with fail
      refine bodyPost_ret (v := .tuple #[]) (by simp [results, Tryz.results60]) rfl ⟨rfl, by rw [HE.out]; exact HP5.out, HF7.out⟩
    · obtain ⟨q, rfl⟩ := Int.eq_ofNat_of_zero_le v0
      have hq : q < 8 := by omega
      have HRE' := HRE.out
      rw [if_neg h8] at HRE'
      rw [Int.toNat_natCast] at HRE'
      have HE := hid HRE'
      clear HRE HRE' h8
      obtain ⟨tv, hrow, hown⟩ := HP3.out
      have HRW := hid hrow
      have HOW := hid hown
      clear hown
      rcases ho with rfl | rfl | rfl | rfl
      · have c := p_pub hrow q hq
        have HQ := hid (HE.out.trans (if_pos rfl))
        have HW := hid (HP3.out.wr hb d (m.pub q))
        clear hrow
        go_wp2_with fail
        refine HW.out.mono ?_
        rintro e w4 ⟨rfl, h5, h6⟩
        have HP4 := hid h5
        have HF6 := hid (HF5.out.trans h6)
        clear h5 h6
        go_wp2_with fail
        go_end0
        exact ⟨rfl, by rw [HQ.out]; exact HP4.out, HF6.out⟩
      · have c := p_sec hrow q hq
        have HQ := hid ((HE.out.trans (if_neg (by decide))).trans (if_pos rfl))
        have HW := hid (HP3.out.wr hb d (m.sec q))
        clear hrow
        go_wp2_with fail
        refine HW.out.mono ?_
        rintro e w4 ⟨rfl, h5, h6⟩
        have HP4 := hid h5
        have HF6 := hid (HF5.out.trans h6)
        clear h5 h6
        go_wp2_with fail
        go_end0
        exact ⟨rfl, by rw [HQ.out]; exact HP4.out, HF6.out⟩
      · have c := p_pub hrow q hq
        have f := hrow.frozen (62 + q)
        have HQ := hid (((HE.out.trans (if_neg (by decide))).trans (if_neg (by decide))).trans (if_pos rfl))
        have HY := hid ((show PAt w3.drew B b _ from HP3.out).rd y)
        have HYE : Hid (Sp.rdP (Sp.shP m (Sp.memT 115 (q : Int))) y = Sp.rdP m y) := hid rfl
        clear hrow
        go_wp2_with fail
        go_region_with (go_at_call 34; refine HY.out.mono ?_; rintro e w' ⟨rfl, rfl⟩; rw [HYE.out])
        all_goals
          go_wp2_with fail
          go_end0
          refine ⟨rfl, ?_, HF5.out.trans (Fr.of_only (Only.set _ _ _ _).drew)⟩
          rw [HQ.out]
          exact ⟨tv, p_set_pub HRW.out q hq _, own_only HOW.out (Only.set _ _ _ _).drew hb⟩
      · have c := p_sec hrow q hq
        have f := hrow.frozen (70 + q)
        have HQ := hid (((HE.out.trans (if_neg (by decide))).trans (if_neg (by decide))).trans (if_neg (by decide)))
        have HY := hid ((show PAt w3.drew B b _ from HP3.out).rd y)
        have HYE : Hid (Sp.rdP (Sp.shP m (Sp.memT 83 (q : Int))) y = Sp.rdP m y) := hid rfl
        clear hrow
        go_wp2_with fail
        go_region_with (go_at_call 34; refine HY.out.mono ?_; rintro e w' ⟨rfl, rfl⟩; rw [HYE.out])
        all_goals
          go_wp2_with fail
          go_end0
          refine ⟨rfl, ?_, HF5.out.trans (Fr.of_only (Only.set _ _ _ _).drew)⟩
          rw [HQ.out]
          exact ⟨tv, p_set_sec HRW.out q hq _, own_only HOW.out (Only.set _ _ _ _).drew hb⟩
end Go.Proofs.YtccndnckceagfabGreatDoorR
