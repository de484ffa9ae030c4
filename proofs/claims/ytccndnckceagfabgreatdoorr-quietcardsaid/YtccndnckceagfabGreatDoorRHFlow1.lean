/-
  Sets of registers in memory: contracts of the program's functions on them.
-/
import Derived.Test.YtccndnckceagfabGreatDoorRHStart
import Derived.Test.YtccndnckceagfabGreatDoorRHLv
namespace Go.Proofs.YtccndnckceagfabGreatDoorR
open Go.RowKit

/-- from offset o of block b on lie the 52 cells of the set S, which may be written -/
structure SetAt (w : World) (b o : Nat) (S : Nat → Bool) : Prop where
  cell : ∀ r, r < 52 → w.cell? ⟨b, o + r, none⟩ = some (.bool (S r))
  free : ∀ r, r < 52 → w.frozen? ⟨b, o + r, none⟩ = false

theorem SetAt.of_block {w w' : World} {b o : Nat} {S : Nat → Bool} (h : SetAt w b o S) (e : w'.heap[b]? = w.heap[b]?) : SetAt w' b o S :=
  ⟨fun r hr => (World.cell?_of_block e).trans (h.cell r hr), fun r hr => (World.frozen?_of_block e).trans (h.free r hr)⟩
theorem SetAt.congr {w : World} {b o : Nat} {S T : Nat → Bool} (h : SetAt w b o S) (e : ∀ r, r < 52 → S r = T r) : SetAt w b o T :=
  ⟨fun r hr => by rw [h.cell r hr, e r hr], h.free⟩
theorem SetAt.lt {w : World} {b o : Nat} {S : Nat → Bool} (h : SetAt w b o S) : b < w.heap.size := block_lt_of_cell (h.cell 0 (by omega))
theorem frozen_setCell (w : World) (a x : Addr) (v : Value) : (w.setCell a v).frozen? x = w.frozen? x := by simp
theorem SetAt.put {w : World} {b o : Nat} {S : Nat → Bool} (h : SetAt w b o S) (r : Nat) (hr : r < 52) (v : Bool) : SetAt (w.setCell ⟨b, o + r, none⟩ (.bool v)) b o (fun x => if x = r then v else S x) := by
  refine ⟨fun x hx => ?_, fun x hx => by rw [frozen_setCell]; exact h.free x hx⟩
  by_cases e : x = r
  · subst e
    rw [World.cell?_setCell_same' _ _ _ (by rw [h.cell x hx]; rfl)]
    simp
  · rw [World.cell?_setCell_other _ _ _ _ (fun h => e (by have := congrArg Addr.off h; simp at this; omega)), h.cell x hx]
    simp [e]

set_option maxHeartbeats 400000 in
theorem has_any (b o : Nat) (S : Nat → Bool) (r : Nat) (w : World) (h : SetAt w b o S) (hr : r < 52) :
    Calls Tryz.prog 45 #[.pointer (some ⟨b, o, none⟩), .int .i64 r] w fun e w' => e = .returned (.bool (S r)) ∧ w = w' := by
  have c := h.cell r hr
  clear h
  go_enter Tryz.func45, Tryz.ntmps45
  go_wp2
  go_ret
  exact ⟨rfl, rfl⟩

set_option maxHeartbeats 400000 in
theorem put_any (b o : Nat) (S : Nat → Bool) (r : Int) (v : Bool) (w : World) (h : SetAt w b o S) (hr : r < 52) :
    Calls Tryz.prog 37 #[.pointer (some ⟨b, o, none⟩), .int .i64 r, .bool v] w fun e w' => e = .returned (.tuple #[]) ∧ SetAt w' b o (fun x => if (x : Int) = r then v else S x) ∧ Only b w w' := by
  by_cases h0 : 0 ≤ r
  · obtain ⟨k, rfl⟩ := Int.eq_ofNat_of_zero_le h0
    have hk : k < 52 := by omega
    have c := h.cell k hk
    have z := h.free k hk
    have HP := hid ((h.put k hk v).congr (T := fun x => if (x : Int) = (k : Int) then v else S x) (fun x _ => by
      by_cases e : x = k
      · rw [if_pos e, if_pos (by omega)]
      · rw [if_neg e, if_neg (by omega)]))
    clear h
    go_enter Tryz.func37, Tryz.ntmps37
    go_wp2
    go_end0
    exact ⟨rfl, HP.out, Only.set _ _ _ _⟩
  · have HP := hid (h.congr (T := fun x => if (x : Int) = r then v else S x) (fun x _ => by rw [if_neg (by omega)]))
    clear h
    go_enter Tryz.func37, Tryz.ntmps37
    go_wp2
    go_end0
    exact ⟨rfl, HP.out, Only.refl _ _⟩

set_option maxHeartbeats 1000000 in
theorem join_any (sb lb nb : Nat) (S : Nat → Bool) (F : Nat → Nat → Bool) (b : Int) (w : World) (hS : SetAt w sb 0 S) (hF : ∀ k, k < nb → SetAt w lb (k * 52) (F k)) (hne : lb ≠ sb) (_hnb : nb ≤ 1000) :
    Calls Tryz.prog 90 #[.pointer (some ⟨sb, 0, none⟩), .slice (some ⟨lb, 0, none⟩) nb nb, .int .i64 b] w fun e w' => e = .returned (.tuple #[]) ∧ SetAt w' sb 0 (Sp.joinS S F nb b) ∧ Only sb w w' := by
  by_cases hb : 0 ≤ b ∧ b < nb
  · obtain ⟨h0, h1⟩ := hb
    obtain ⟨k, rfl⟩ := Int.eq_ofNat_of_zero_le h0
    have hk : k < nb := by omega
    have HJ := hid (show ∀ r, Sp.joinS S F nb (k : Int) r = (S r || F k r) from fun r => by simp [Sp.joinS, hk])
    have t1 : decide ((k : Int) < 0) = false := by simp
    have t2 : decide (nb ≤ k) = false := by simp; omega
    have HFK := hid (hF k hk)
    have HS := hid hS
    clear hF hS
    go_enter Tryz.func90, Tryz.ntmps90
    go_wp2_with fail
    go_loopw [6] (fun kv wr => ∃ r : Nat, r ≤ 52 ∧ kv = .int .i64 r ∧ SetAt wr sb 0 (fun x => S x || (decide (x < r) && F k x)) ∧ Only sb w wr) (fun kv _ => 52 - (intOf kv).toNat)
    case atStart => exact ⟨0, by omega, rfl, HS.out.congr (fun x _ => by simp), Only.refl _ _⟩
    case round =>
      obtain ⟨r, hr, rfl, hs, ho⟩ := hrel
      have HSR := hid hs
      have HO := hid ho
      have HF2 := hid (HFK.out.of_block (ho.block lb hne))
      clear hs ho
      by_cases hlt : r < 52
      · go_wp2_with fail
        refine (has_any _ _ _ r _ (by exact HF2.out) hlt).mono ?_
        rintro e w' ⟨rfl, rfl⟩
        cases hfr : F k r
        · have HFR := hid hfr
          clear hfr
          go_wp2_with fail
          go_roundw
          case rel => exact ⟨r + 1, by omega, by go_num, HSR.out.congr (fun x _ => by
            by_cases e : x = r
            · subst e; simp [HFR.out]
            · have : (x < r) = (x < r + 1) := by simp; omega
              simp only [this]), HO.out⟩
          case measure => simp [intOf]; omega
        · have HFR := hid hfr
          clear hfr
          go_wp2_with fail
          refine (put_any _ _ _ _ true _ HSR.out (by omega)).mono ?_
          rintro e w' ⟨rfl, hs2, ho2⟩
          have HS2 := hid hs2
          have HO2 := hid ho2
          clear hs2 ho2
          go_wp2_with fail
          go_roundw
          case rel => exact ⟨r + 1, by omega, by go_num, HS2.out.congr (fun x _ => by
            by_cases e : x = r
            · subst e; simp [HFR.out]
            · have : (x < r) = (x < r + 1) := by simp; omega
              simp [this, show ¬ (x : Int) = (r : Int) by omega]), HO.out.trans HO2.out⟩
          case measure => simp [intOf]; omega
      · have HR := hid (show r = 52 by omega)
        go_wp2_with fail
        go_end0
        exact ⟨rfl, HSR.out.congr (fun x hx => by rw [HJ.out, HR.out]; simp [hx]), HO.out⟩
  · have HJ := hid (hS.congr (T := Sp.joinS S F nb b) (fun r _ => by simp [Sp.joinS, hb]))
    clear hF hS
    by_cases h0 : b < 0
    · clear hb
      go_enter Tryz.func90, Tryz.ntmps90
      go_wp2_with fail
      refine bodyPost_ret (v := .tuple #[]) (by simp [results, Tryz.results90]) rfl ⟨rfl, HJ.out, Only.refl _ _⟩
    · have h1 : (nb : Int) ≤ b := by omega
      clear hb
      go_enter Tryz.func90, Tryz.ntmps90
      go_wp2_with fail
      refine bodyPost_ret (v := .tuple #[]) (by simp [results, Tryz.results90]) rfl ⟨rfl, HJ.out, Only.refl _ _⟩

def setL (S : Nat → Bool) : List Value := (List.range 52).map (fun r => .bool (S r))
theorem setL_len (S : Nat → Bool) : (setL S).length = 52 := by simp [setL]
theorem setL_at (S : Nat → Bool) (r : Nat) (hr : r < 52) : (setL S)[r]? = some (.bool (S r)) := by simp [setL, hr]
theorem setL_one (S : Nat → Bool) : ∀ v ∈ setL S, v.oneCell' = true := by
  intro v hv
  simp only [setL, List.mem_map] at hv
  obtain ⟨r, _, rfl⟩ := hv
  rfl
theorem SetAt.range {w : World} {b o : Nat} {S : Nat → Bool} (h : SetAt w b o S) : w.rangeAt b o (setL S) := by
  intro j v hj
  have hj' : j < 52 := by have := (List.getElem?_eq_some_iff.1 hj).1; rwa [setL_len] at this
  rw [setL_at S j hj'] at hj
  rw [h.cell j hj', ← hj]
theorem SetAt.there {w : World} {b o : Nat} {S : Nat → Bool} (h : SetAt w b o S) : w.there b o 52 := fun j hj => ⟨by rw [h.cell j hj]; rfl, h.free j hj⟩
theorem SetAt.of_range {w : World} {b o : Nat} {S : Nat → Bool} (h : w.rangeAt b o (setL S)) (ht : w.there b o 52) : SetAt w b o S :=
  ⟨fun r hr => h r _ (setL_at S r hr), fun r hr => (ht r hr).2⟩
theorem info_set : (Tryz.prog.info? 82).map (·.size) = some 52 := by kernel_rfl

theorem run_alloc_set (w : World) : (Instr.alloc 82 true (.tuple #[])).run Tryz.prog w = .ok (.pointer (some ⟨w.heap.size, 0, none⟩)) (w.alloc (.cells (setL (fun _ => false)).toArray 82)) := by kernel_rfl
theorem run_build_set (w : World) : (Instr.build 82 #[]).run Tryz.prog w = .ok (.agg (setL (fun _ => false)).toArray) w := by kernel_rfl

theorem set_new (w : World) (S : Nat → Bool) (t : Nat) : SetAt (w.alloc (.cells (setL S).toArray t)) w.heap.size 0 S := by
  have h := World.rowIs_alloc w (setL S).toArray t (fun r => .bool (S r)) (fun r hr => by
    have hr' : r < 52 := by simpa [setL_len] using hr
    rw [List.getElem?_toArray]
    exact setL_at S r hr')
  have hs : (setL S).toArray.size = 52 := by simp [setL_len]
  rw [hs] at h
  exact ⟨fun r hr => by rw [Nat.zero_add]; exact h.cell hr, fun r _ => by rw [Nat.zero_add]; exact h.frozen r⟩

/-- a new set -/
theorem wpList_alloc_set {ops : Array Oper} {rest : List Oper} {op : Oper} {a : Act} {w : World} {Q : Exit → Act → World → Prop} (hgd : op.guard = none) (ho : op.op = .alloc 82)
    (h : ∀ w', SetAt w' w.heap.size 0 (fun _ => false) → Below w.heap.size w w' → w'.heap.size = w.heap.size + 1 → wpList Tryz.prog ops Q rest (a.put op.dst (.pointer (some ⟨w.heap.size, 0, none⟩))) w') : wpList Tryz.prog ops Q (op :: rest) a w := by
  refine wpList_plain hgd fun K hK => ?_
  unfold Oper.wp execOp
  simp only [ho, Sem.run_bind, run_alloc_set, Result.andThen_ok, Sem.run_pure]
  exact hK _ _ (h _ (set_new _ _ _) ((Below.refl _ _).alloc (Nat.le_refl _) _) (by simp))
theorem wpList_build_set {ops : Array Oper} {rest : List Oper} {op : Oper} {a : Act} {w : World} {Q : Exit → Act → World → Prop} (hgd : op.guard = none) (ho : op.op = .build 82 #[])
    (h : wpList Tryz.prog ops Q rest (a.put op.dst (.agg (setL (fun _ => false)).toArray)) w) : wpList Tryz.prog ops Q (op :: rest) a w := by
  refine wpList_plain hgd fun K hK => ?_
  unfold Oper.wp execOp
  simp only [ho, Sem.run_bind, List.map_toArray, List.map_nil, run_build_set, Result.andThen_ok, Sem.run_pure]
  exact hK _ _ h
/-- a set read whole -/
theorem wpList_load_set {ops : Array Oper} {rest : List Oper} {op : Oper} {a : Act} {w : World} {Q : Exit → Act → World → Prop} (hgd : op.guard = none) (x : Operand) (ho : op.op = .load 82 x)
    (b o : Nat) (S : Nat → Bool) (hx : a.eval x = .pointer (some ⟨b, o, none⟩)) (hS : SetAt w b o S)
    (h : wpList Tryz.prog ops Q rest (a.put op.dst (.agg (setL S).toArray)) w) : wpList Tryz.prog ops Q (op :: rest) a w :=
  wpList_load_mid hgd 82 x ho b o hx (setL S) _ hS.range Tryz.underlying82 rfl (by rw [setL_len]; exact info_set) h
/-- a set written whole -/
theorem wpList_store_set {ops : Array Oper} {rest : List Oper} {op : Oper} {a : Act} {w : World} {Q : Exit → Act → World → Prop} (hgd : op.guard = none) (x y : Operand) (ho : op.op = .store 82 x y)
    (b o : Nat) (S T : Nat → Bool) (hx : a.eval x = .pointer (some ⟨b, o, none⟩)) (hy : a.eval y = .agg (setL S).toArray) (hT : SetAt w b o T)
    (h : ∀ w', SetAt w' b o S → (∀ o' U, o' + 52 ≤ o ∨ o + 52 ≤ o' → SetAt w b o' U → SetAt w' b o' U) → Only b w w' → wpList Tryz.prog ops Q rest (a.put op.dst undef) w') : wpList Tryz.prog ops Q (op :: rest) a w := by
  have hs : (setL S).toArray.size = 52 := by simp [setL_len]
  refine wpList_store_mid hgd 82 x y ho b o (setL S).toArray hx hy (by rw [hs]; exact hT.there) (by rw [hs]; exact info_set) (all_oneCell_toArray (setL_one S)) (h _ ?_ ?_ ?_)
  · exact SetAt.of_range (World.rangeAt_setCells_same w b o (setL S) (by rw [setL_len]; exact hT.there)) (World.there_setCells hT.there b o (setL S))
  · intro o' U hap hU
    exact SetAt.of_range (World.rangeAt_setCells_apart hU.range b o (setL S) (Or.inr (by rw [setL_len, setL_len]; exact hap))) (World.there_setCells hU.there b o (setL S))
  · exact only_setCells w b o (setL S)
set_option maxRecDepth 20000 in
set_option maxHeartbeats 1000000 in
theorem liveAhead_any (p lb B a : Nat) (C : List Sp.Ins) (L : List (Nat × Nat)) (F : Nat → Nat → Bool) (w : World) (hP : ProgAt w B p C L) (hF : ∀ k, k < C.length → SetAt w lb (k * 52) (F k)) (ha : a < C.length)
    (hC : C.length ≤ 1000) (hr : ∀ i, i ∈ C → i.d < 52 ∧ i.x < 52 ∧ i.y < 52) :
    Calls Tryz.prog 80 #[.pointer (some ⟨p, 0, none⟩), .slice (some ⟨lb, 0, none⟩) C.length C.length, .int .i64 a] w fun e w' => e = .returned (.agg (setL (Sp.laI C L F a)).toArray) ∧ Below w.heap.size w w' := by
  have HPR := hid hP
  obtain ⟨vC, vB, hrow, hoC, hoB, _⟩ := hP
  have c0 : w.cell? ⟨p, 0, none⟩ = some vC := hrow.cell (i := 0) (by omega)
  have hpl := hrow.lt
  obtain ⟨g, cap, rfl⟩ := Joins.ownsRow_form hoC (by omega)
  have HC := hid hoC
  have HF := hid hF
  obtain ⟨r1, r2, r3⟩ := hr C[a] (List.getElem_mem ha)
  have HGD := hid (show C.getD a Sp.noIns = C[a] by rw [List.getD_eq_getElem?_getD, List.getElem?_eq_getElem ha]; rfl)
  have hlb : lb < w.heap.size := (hF a ha).lt
  clear hrow hoC hoB hF hr
  have t1 : decide ((a : Int) < 0) = false := by simp
  have t2 : decide (C.length ≤ a) = false := by simp; omega
  generalize hN : w.heap.size = N at *
  go_enter Tryz.func80, Tryz.ntmps80
  go_upto_region 1 with (refine wpList_alloc_set rfl rfl ?_; intro w1 hs1 hb1 hz1)
  rw [hN] at hs1 hb1 hz1
  have HS1 := hid hs1
  have HB1 := hid hb1
  clear hs1 hb1
  go_upto_region 2 with (first | (refine wpList_build_set rfl rfl ?_) | (refine wpList_alloc_set rfl rfl ?_; intro w2 hs2 hb2 hz2; rw [hz1] at hs2 hb2 hz2; have HS2 := hid hs2; have HB2 := hid hb2; clear hs2 hb2) | (refine wpList_store_set rfl (.tmp 7) (.tmp 9) rfl (N + 1) 0 (fun _ => false) (fun _ => false) (by rw [← hz1]; rfl) (by rfl) HS2.out ?_; intro w3 hs3 hs3' ho3; have HS3 := hid hs3; have HO3 := hid ho3; clear hs3 hs3' ho3))
  have hbw : Below N w w3 := (HB1.out.trans (HB2.out.mono (by omega))).trans (HO3.out.below (by omega))
  have hsz3 : w3.heap.size = N + 2 := by rw [HO3.out.size, hz2]
  have HSR := hid ((HS1.out.of_block (HB2.out.block N (by omega))).of_block (HO3.out.block N (by omega)))
  have HBW := hid hbw
  have c0' : w3.cell? ⟨p, 0, none⟩ = some (.slice (some ⟨g, 0, none⟩) C.length cap) := (hbw.cell (p := ⟨p, 0, none⟩) (by omega)).trans c0
  obtain ⟨e1, e2, e3, e4, e5, e6, e7⟩ := ins_cells (own_below HC.out (by rw [hN]; exact hbw)) a ha
  clear hbw HS1 HB1 HS2 HB2 c0
  generalize hI : C[a] = I at *
  have HI := hid hI
  clear hI
  go_wp2_with fail
  have HBA := hid (show Below (N + 2) w3 (w3.alloc (.cells #[.int .u8 I.o, .int .i64 I.d, .int .i64 I.x, .int .i64 I.y, .int .i64 I.n, .int .i64 I.k, .int .i64 I.m] 74)) from by rw [← hsz3]; exact (Below.refl w3.heap.size w3).alloc (Nat.le_refl _) _)
  have Q4 := hid (row_new w3 I.o I.d I.x I.y I.n I.k I.m 74)
  rw [hsz3] at Q4
  have hsz4 : (w3.alloc (.cells #[.int .u8 I.o, .int .i64 I.d, .int .i64 I.x, .int .i64 I.y, .int .i64 I.n, .int .i64 I.k, .int .i64 I.m] 74)).heap.size = N + 3 := by simp [hsz3]
  generalize w3.alloc (.cells #[.int .u8 I.o, .int .i64 I.d, .int .i64 I.x, .int .i64 I.y, .int .i64 I.n, .int .i64 I.k, .int .i64 I.m] 74) = w4 at *
  refine (endsBlock_any I.o I.d I.x I.y I.n I.k I.m w4).mono ?_
  rintro e w5 ⟨rfl, hb5⟩
  rw [hsz4] at hb5
  have hsz5 : N + 3 ≤ w5.heap.size := by have := hb5.size; rw [hsz4] at this; exact this
  have HS5 := hid ((HS3.out.of_block (HBA.out.block (N + 1) (by omega))).of_block (hb5.block (N + 1) (by omega)))
  have HSR5 := hid ((HSR.out.of_block (HBA.out.block N (by omega))).of_block (hb5.block N (by omega)))
  have HQ5 := hid (Q4.out.of_block (hb5.block (N + 2) (by omega)))
  have HB5 := hid ((HBW.out.trans (HBA.out.mono (by omega))).trans (hb5.mono (by omega)))
  clear hb5 HS3 HO3 HSR HBW HBA Q4 hsz4 hsz3 c0' e1 e2 e3 e4 e5 e6 e7 hz1 hz2 w1 w2
  cases he : Sp.endB I.o
  · have HJN := hid (join_any (N + 1) lb C.length (fun _ => false) F ((a : Int) + 1) w5 HS5.out (fun k hk => (HF.out k hk).of_block (HB5.out.block _ hlb)) (by omega) hC)
    have HX := hid (show Sp.joinS (fun _ => false) F C.length ((a : Int) + 1) = Sp.nxS F C.length a I.o by unfold Sp.nxS; rw [he]; rfl)
    clear he
    go_wp2_with fail
    refine HJN.out.mono ?_
    rintro e w6 ⟨rfl, hs6, ho6⟩
    rw [HX.out] at hs6
    have HS6 := hid hs6
    have HSR6 := hid (HSR5.out.of_block (ho6.block N (by omega)))
    have HQ6 := hid (HQ5.out.of_block (ho6.block (N + 2) (by omega)))
    have HB6 := hid (HB5.out.trans (ho6.below (by omega)))
    have hsz6 : N + 3 ≤ w6.heap.size := by rw [ho6.size]; exact hsz5
    clear hs6 ho6 HJN HX HS5 HSR5 HQ5 HB5 hsz5 w5
    have d6 := row_cells HQ6.out
    obtain ⟨f1, f2, f3, f4, f5, f6, f7⟩ := d6
    go_wp2_with (go_at_call 57; refine (start_any B p C L I.k _ (HPR.out.move (by rw [hN]; exact HB6.out))).mono ?_; rintro e w' ⟨rfl, rfl⟩)
    refine (join_any (N + 1) lb C.length _ F (Sp.strP L I.k) _ HS6.out (fun k hk => (HF.out k hk).of_block (HB6.out.block _ hlb)) (by omega) hC).mono ?_
    rintro e w7 ⟨rfl, hs7, ho7⟩
    have HS7 := hid hs7
    have HSR7 := hid (HSR6.out.of_block (ho7.block N (by omega)))
    have HQ7 := hid (HQ6.out.of_block (ho7.block (N + 2) (by omega)))
    have HB7 := hid (HB6.out.trans (ho7.below (by omega)))
    clear hs7 ho7 HS6 HSR6 HQ6 HB6 f1 f2 f3 f4 f5 f6 f7
    obtain ⟨f1, f2, f3, f4, f5, f6, f7⟩ := row_cells HQ7.out
    go_wp2_with (go_at_call 57; refine (start_any B p C L I.m _ (HPR.out.move (by rw [hN]; exact HB7.out))).mono ?_; rintro e w' ⟨rfl, rfl⟩)
    refine (join_any (N + 1) lb C.length _ F (Sp.strP L I.m) _ HS7.out (fun k hk => (HF.out k hk).of_block (HB7.out.block _ hlb)) (by omega) hC).mono ?_
    rintro e w8 ⟨rfl, hs8, ho8⟩
    have HS8 := hid hs8
    have HSR8 := hid (HSR7.out.of_block (ho8.block N (by omega)))
    have HQ8 := hid (HQ7.out.of_block (ho8.block (N + 2) (by omega)))
    have HB8 := hid (HB7.out.trans (ho8.below (by omega)))
    clear hs8 ho8 HS7 HSR7 HQ7 HB7 f1 f2 f3 f4 f5 f6 f7
    obtain ⟨f1, f2, f3, f4, f5, f6, f7⟩ := row_cells HQ8.out
    go_wp2_with fail
    refine (put_any (N + 1) 0 _ _ false _ HS8.out r1).mono ?_
    rintro e w9 ⟨rfl, hs9, ho9⟩
    have HS9 := hid hs9
    have HSR9 := hid (HSR8.out.of_block (ho9.block N (by omega)))
    have HQ9 := hid (HQ8.out.of_block (ho9.block (N + 2) (by omega)))
    have HB9 := hid (HB8.out.trans (ho9.below (by omega)))
    clear hs9 ho9 HS8 HSR8 HQ8 HB8 f1 f2 f3 f4 f5 f6 f7
    obtain ⟨f1, f2, f3, f4, f5, f6, f7⟩ := row_cells HQ9.out
    go_wp2_with fail
    refine (put_any (N + 1) 0 _ _ true _ HS9.out r2).mono ?_
    rintro e w10 ⟨rfl, hs10, ho10⟩
    have HS10 := hid hs10
    have HSR10 := hid (HSR9.out.of_block (ho10.block N (by omega)))
    have HQ10 := hid (HQ9.out.of_block (ho10.block (N + 2) (by omega)))
    have HB10 := hid (HB9.out.trans (ho10.below (by omega)))
    clear hs10 ho10 HS9 HSR9 HQ9 HB9 f1 f2 f3 f4 f5 f6 f7
    obtain ⟨f1, f2, f3, f4, f5, f6, f7⟩ := row_cells HQ10.out
    go_wp2_with fail
    refine (put_any (N + 1) 0 _ _ true _ HS10.out r3).mono ?_
    rintro e w11 ⟨rfl, hs11, ho11⟩
    have HE := hid (show Sp.laI C L F a = fun x : Nat => if (x : Int) = I.y then true else if (x : Int) = I.x then true else if (x : Int) = I.d then false else Sp.joinS (Sp.joinS (Sp.nxS F C.length a I.o) F C.length (Sp.strP L I.k)) F C.length (Sp.strP L I.m) x by unfold Sp.laI; rw [HGD.out]; rfl)
    have HS11 := hid hs11
    rw [← HE.out] at HS11
    have HSR11 := hid (HSR10.out.of_block (ho11.block N (by omega)))
    have HB11 := hid (HB10.out.trans (ho11.below (by omega)))
    clear hs11 ho11 HS10 HSR10 HQ10 HB10 f1 f2 f3 f4 f5 f6 f7
    go_wp2_with (first | (refine wpList_load_set rfl (.tmp 7) rfl (N + 1) 0 _ (by rfl) HS11.out ?_) | (refine wpList_store_set rfl (.tmp 6) (.tmp 57) rfl N 0 _ _ (by rfl) (by rfl) HSR11.out ?_; intro w12 hs12 hs12' ho12; have HS12 := hid hs12; have HO12 := hid ho12; clear hs12 hs12' ho12))
    have hld := run_loadVar_mid (P := Tryz.prog) w12 N 0 82 (setL (Sp.laI C L F a)) _ HS12.out.range Tryz.underlying82 rfl (by rw [setL_len]; exact info_set)
    refine bodyPost_ret (v := .agg (setL (Sp.laI C L F a)).toArray) (results_cell_one (q := 6) (a := ⟨N, 0, none⟩) rfl _ _ (by rfl) hld) (by rfl) ⟨rfl, ?_⟩
    exact HB11.out.trans (HO12.out.below (Nat.le_refl _))
  · have HX := hid (show (fun _ => false) = Sp.nxS F C.length a I.o by unfold Sp.nxS; rw [he]; rfl)
    rw [HX.out] at HS5
    clear he HX
    have HS6 := hid HS5.out
    have HSR6 := hid HSR5.out
    have HQ6 := hid HQ5.out
    have HB6 := hid HB5.out
    clear HS5 HSR5 HQ5 HB5
    have d6 := row_cells HQ6.out
    obtain ⟨f1, f2, f3, f4, f5, f6, f7⟩ := d6
    go_wp2_with (go_at_call 57; refine (start_any B p C L I.k _ (HPR.out.move (by rw [hN]; exact HB6.out))).mono ?_; rintro e w' ⟨rfl, rfl⟩)
    refine (join_any (N + 1) lb C.length _ F (Sp.strP L I.k) _ HS6.out (fun k hk => (HF.out k hk).of_block (HB6.out.block _ hlb)) (by omega) hC).mono ?_
    rintro e w7 ⟨rfl, hs7, ho7⟩
    have HS7 := hid hs7
    have HSR7 := hid (HSR6.out.of_block (ho7.block N (by omega)))
    have HQ7 := hid (HQ6.out.of_block (ho7.block (N + 2) (by omega)))
    have HB7 := hid (HB6.out.trans (ho7.below (by omega)))
    clear hs7 ho7 HS6 HSR6 HQ6 HB6 f1 f2 f3 f4 f5 f6 f7
    obtain ⟨f1, f2, f3, f4, f5, f6, f7⟩ := row_cells HQ7.out
    go_wp2_with (go_at_call 57; refine (start_any B p C L I.m _ (HPR.out.move (by rw [hN]; exact HB7.out))).mono ?_; rintro e w' ⟨rfl, rfl⟩)
    refine (join_any (N + 1) lb C.length _ F (Sp.strP L I.m) _ HS7.out (fun k hk => (HF.out k hk).of_block (HB7.out.block _ hlb)) (by omega) hC).mono ?_
    rintro e w8 ⟨rfl, hs8, ho8⟩
    have HS8 := hid hs8
    have HSR8 := hid (HSR7.out.of_block (ho8.block N (by omega)))
    have HQ8 := hid (HQ7.out.of_block (ho8.block (N + 2) (by omega)))
    have HB8 := hid (HB7.out.trans (ho8.below (by omega)))
    clear hs8 ho8 HS7 HSR7 HQ7 HB7 f1 f2 f3 f4 f5 f6 f7
    obtain ⟨f1, f2, f3, f4, f5, f6, f7⟩ := row_cells HQ8.out
    go_wp2_with fail
    refine (put_any (N + 1) 0 _ _ false _ HS8.out r1).mono ?_
    rintro e w9 ⟨rfl, hs9, ho9⟩
    have HS9 := hid hs9
    have HSR9 := hid (HSR8.out.of_block (ho9.block N (by omega)))
    have HQ9 := hid (HQ8.out.of_block (ho9.block (N + 2) (by omega)))
    have HB9 := hid (HB8.out.trans (ho9.below (by omega)))
    clear hs9 ho9 HS8 HSR8 HQ8 HB8 f1 f2 f3 f4 f5 f6 f7
    obtain ⟨f1, f2, f3, f4, f5, f6, f7⟩ := row_cells HQ9.out
    go_wp2_with fail
    refine (put_any (N + 1) 0 _ _ true _ HS9.out r2).mono ?_
    rintro e w10 ⟨rfl, hs10, ho10⟩
    have HS10 := hid hs10
    have HSR10 := hid (HSR9.out.of_block (ho10.block N (by omega)))
    have HQ10 := hid (HQ9.out.of_block (ho10.block (N + 2) (by omega)))
    have HB10 := hid (HB9.out.trans (ho10.below (by omega)))
    clear hs10 ho10 HS9 HSR9 HQ9 HB9 f1 f2 f3 f4 f5 f6 f7
    obtain ⟨f1, f2, f3, f4, f5, f6, f7⟩ := row_cells HQ10.out
    go_wp2_with fail
    refine (put_any (N + 1) 0 _ _ true _ HS10.out r3).mono ?_
    rintro e w11 ⟨rfl, hs11, ho11⟩
    have HE := hid (show Sp.laI C L F a = fun x : Nat => if (x : Int) = I.y then true else if (x : Int) = I.x then true else if (x : Int) = I.d then false else Sp.joinS (Sp.joinS (Sp.nxS F C.length a I.o) F C.length (Sp.strP L I.k)) F C.length (Sp.strP L I.m) x by unfold Sp.laI; rw [HGD.out]; rfl)
    have HS11 := hid hs11
    rw [← HE.out] at HS11
    have HSR11 := hid (HSR10.out.of_block (ho11.block N (by omega)))
    have HB11 := hid (HB10.out.trans (ho11.below (by omega)))
    clear hs11 ho11 HS10 HSR10 HQ10 HB10 f1 f2 f3 f4 f5 f6 f7
    go_wp2_with (first | (refine wpList_load_set rfl (.tmp 7) rfl (N + 1) 0 _ (by rfl) HS11.out ?_) | (refine wpList_store_set rfl (.tmp 6) (.tmp 57) rfl N 0 _ _ (by rfl) (by rfl) HSR11.out ?_; intro w12 hs12 hs12' ho12; have HS12 := hid hs12; have HO12 := hid ho12; clear hs12 hs12' ho12))
    have hld := run_loadVar_mid (P := Tryz.prog) w12 N 0 82 (setL (Sp.laI C L F a)) _ HS12.out.range Tryz.underlying82 rfl (by rw [setL_len]; exact info_set)
    refine bodyPost_ret (v := .agg (setL (Sp.laI C L F a)).toArray) (results_cell_one (q := 6) (a := ⟨N, 0, none⟩) rfl _ _ (by rfl) hld) (by rfl) ⟨rfl, ?_⟩
    exact HB11.out.trans (HO12.out.below (Nat.le_refl _))
end Go.Proofs.YtccndnckceagfabGreatDoorR
