/-
  What is live ahead of all instructions: the program's rounds; whether a register may be read unset: the program's answer.
-/
import Derived.Test.YtccndnckceagfabGreatDoorRHFlow1
import Derived.DeepKeys
namespace Go.Proofs.YtccndnckceagfabGreatDoorR
open Go.RowKit

theorem info_set3 : ∃ i, Tryz.prog.info? 82 = some i ∧ i.zero = some (.agg (setL (fun _ => false)).toArray) ∧ i.size = 52 ∧ i.bytes = 52 := by
  have h : (Tryz.prog.info? 82).map (fun i => (i.zero, i.size, i.bytes)) = some (some (.agg (setL (fun _ => false)).toArray), 52, 52) := by kernel_rfl
  obtain ⟨i, hi, hz⟩ := Option.map_eq_some_iff.1 h
  simp only [Prod.mk.injEq] at hz
  exact ⟨i, hi, hz.1, hz.2.1, hz.2.2⟩
theorem run_make_sets (nb : Nat) (h : nb ≤ 1000) (w : World) : (Instr.makeSlice 102 (.int .i64 (nb : Int)) (.int .i64 (nb : Int))).run Tryz.prog w = .ok (.slice (some ⟨w.heap.size, 0, none⟩) nb nb) (w.alloc (.cells (madeCells (setL (fun _ => false)).toArray (nb * 52)) 82)) := by
  obtain ⟨i, h1, h2, h3, h4⟩ := info_set3
  have := run_make (P := Tryz.prog) w 102 82 i _ Tryz.underlying102 h1 h2 .i64 .i64 nb nb (by omega) (by omega) (by rw [h4]; omega) (by omega)
  rw [h3, Int.toNat_natCast] at this
  exact this
theorem made_false (n j : Nat) (hj : j < n) : (madeCells (setL (fun _ => false)).toArray n)[j]? = some (.bool false) := by
  have hs : (setL (fun _ => false)).toArray.size = 52 := by simp [setL_len]
  have hl : ∀ k, k < 52 → (setL (fun _ => false)).toArray[k]! = .bool false := fun k hk => by
    rw [getElem!_def, List.getElem?_toArray, setL_at _ k hk]
  simp only [madeCells, Array.getElem?_map, Array.getElem?_range, hs]
  rw [if_pos hj]
  simp only [Option.map_some, Option.some.injEq]
  exact hl _ (Nat.mod_lt _ (by omega))
theorem sets_new (w : World) (nb t : Nat) : ∀ k, k < nb → SetAt (w.alloc (.cells (madeCells (setL (fun _ => false)).toArray (nb * 52)) t)) w.heap.size (k * 52) (fun _ => false) := by
  intro k hk
  have h := World.rowIs_alloc w (madeCells (setL (fun _ => false)).toArray (nb * 52)) t (fun _ => .bool false) (fun j hj => made_false _ j (by simpa [size_madeCells] using hj))
  rw [size_madeCells] at h
  have : k * 52 + 52 ≤ nb * 52 := by omega
  exact ⟨fun r hr => h.cell (by omega), fun r _ => h.frozen _⟩

set_option maxHeartbeats 1000000 in
theorem liveAheads_any (p nb B : Nat) (C : List Sp.Ins) (L : List (Nat × Nat)) (w : World) (hP : ProgAt w B p C L) (hnb : L.length = nb) (hC1 : 1 ≤ C.length) (hC : C.length ≤ 1000) (hnb10 : nb ≤ 10) (hnb1 : 1 ≤ nb) (hr : ∀ i, i ∈ C → i.d < 52 ∧ i.x < 52 ∧ i.y < 52) :
    Calls Tryz.prog 56 #[.pointer (some ⟨p, 0, none⟩)] w fun e w' => e = .returned (.slice (some ⟨w.heap.size, 0, none⟩) C.length C.length) ∧ (∀ k, k < C.length → SetAt w' w.heap.size (k * 52) (Sp.rounds C L nb k)) ∧ Below w.heap.size w w' := by
  obtain ⟨vC, vB, hrow, hoC, hoB, hnil⟩ := hP
  have c0 : w.cell? ⟨p, 0, none⟩ = some vC := hrow.cell (i := 0) (by omega)
  have c1 : w.cell? ⟨p, 1, none⟩ = some vB := hrow.cell (i := 1) (by omega)
  have hpl := hrow.lt
  have HP := hid (show ProgAt w B p C L from ⟨vC, vB, hrow, hoC, hoB, hnil⟩)
  obtain ⟨g, cap, rfl⟩ := Joins.ownsRow_form hoC (by omega)
  obtain ⟨gb, capb, rfl⟩ := Joins.ownsRow_form hoB (by omega)
  rw [hnb] at c1
  have HRG := hid hr
  have HNB := hid hnb
  clear hrow hoC hoB hnil hr hnb
  have HC1 := hid (show ∀ wx : World, Below w.heap.size w wx → wx.cell? ⟨p, 0, none⟩ = some (.slice (some ⟨g, 0, none⟩) C.length cap) ∧ wx.cell? ⟨p, 1, none⟩ = some (.slice (some ⟨gb, 0, none⟩) nb capb) from fun wx hb => ⟨(hb.cell (p := ⟨p, 0, none⟩) hpl).trans c0, (hb.cell (p := ⟨p, 1, none⟩) hpl).trans c1⟩)
  generalize hn : C.length = n at *
  have HN := hid hn
  clear hn
  have hmk := run_make_sets n hC
  go_enter Tryz.func56, Tryz.ntmps56
  go_wp2_with fail
  have hb0 := (Below.refl w.heap.size w).alloc (Nat.le_refl _) (.cells (madeCells (setL (fun _ => false)).toArray (n * 52)) 82)
  have HB0 := hid hb0
  have HS0 := hid (sets_new w n 82)
  clear hb0
  go_loopw [4] (fun tv wr => ∃ t : Nat, t ≤ nb ∧ tv = .int .i64 t ∧ (∀ k, k < n → SetAt wr w.heap.size (k * 52) (Sp.rounds C L t k)) ∧ Below w.heap.size w wr) (fun tv _ => nb - (intOf tv).toNat)
  case atStart => exact ⟨0, by omega, rfl, HS0.out, HB0.out⟩
  case round =>
    obtain ⟨t, ht, rfl, hs, hbel⟩ := hrel
    have HS := hid hs
    have HB := hid hbel
    clear hs HB0 HS0 hmk c0 c1
    obtain ⟨c0, c1⟩ := HC1.out wr hbel
    clear hbel
    by_cases hlt : t < nb
    · go_wp2_with fail
      go_loopw [5] (fun bv wq => ∃ (j : Nat), j ≤ n ∧ bv = .int .i64 ((n : Int) - 1 - j) ∧ (∀ k, k < n → SetAt wq w.heap.size (k * 52) (Sp.sweep C L (Sp.rounds C L t) j k)) ∧ Below w.heap.size w wq) (fun bv _ => (intOf bv + 1).toNat)
      case atStart => exact ⟨0, by omega, by simp, HS.out, HB.out⟩
      case round =>
        obtain ⟨j, hj, rfl, hs, hbel⟩ := hrel
        have HS' := hid hs
        have HB' := hid hbel
        clear hs
        by_cases hjl : j < n
        · obtain ⟨b, hb⟩ : ∃ b : Nat, (n : Int) - 1 - j = b := ⟨n - 1 - j, by omega⟩
          have HBB := hid (show b = n - 1 - j by omega)
          have hbn : b < n := by omega
          rw [hb]
          have HBI := hid hb
          clear hb hbel
          have HLA := hid (liveAhead_any p w.heap.size B b C L (Sp.sweep C L (Sp.rounds C L t) j) _ (HP.out.move HB'.out) (fun k hk => HS'.out k (by rw [HN.out] at hk; exact hk)) (by rw [HN.out]; exact hbn) (by rw [HN.out]; exact hC) HRG.out)
          rw [HN.out] at HLA
          go_wp2_with fail
          refine HLA.out.mono ?_
          rintro e w1 ⟨rfl, hb1⟩
          have HB1 := hid hb1
          clear hb1
          have hlb1 := (HS'.out b hbn).lt
          have HS1 := hid (fun k (hk : k < n) => (HS'.out k hk).of_block (HB1.out.block _ hlb1))
          go_wp2_with (refine wpList_store_set rfl (.tmp 37) (.tmp 36) rfl w.heap.size (b * 52) _ _ (by rfl) (by rfl) (HS1.out b hbn) ?_; intro w2 hs2 hs2' ho2; have HS2 := hid hs2; have HS2' := hid hs2'; have HO2 := hid ho2; clear hs2 hs2' ho2)
          go_roundw
          case rel =>
            refine ⟨j + 1, by omega, ?_, fun k hk => ?_, (HB'.out.trans (HB1.out.mono HB'.out.size)).trans (HO2.out.below (Nat.le_refl _))⟩
            · have := HBI.out
              exact congrArg (Value.int .i64) (by omega)
            · by_cases e : k = b
              · refine (show SetAt w2 w.heap.size (k * 52) _ by rw [e]; exact HS2.out).congr (fun r _ => ?_)
                simp only [Sp.sweep]
                rw [if_pos (by rw [e, HN.out]; exact HBB.out), e]
              · refine (HS2'.out (k * 52) _ ?_ (HS1.out k hk)).congr (fun r _ => ?_)
                · rcases Nat.lt_or_gt_of_ne e with h | h
                  · exact Or.inl (by omega)
                  · exact Or.inr (by omega)
                · simp only [Sp.sweep]
                  rw [if_neg (by rw [HN.out, ← HBB.out]; exact e)]
          case measure => have := HBI.out; simp [intOf]
        · have HJ := hid (show j = n by omega)
          have hneg : (n : Int) - 1 - j < 0 := by omega
          clear hbel
          go_wp2_with fail
          go_roundw
          case rel => exact ⟨t + 1, by omega, by go_num, fun k hk => by have := HS'.out k hk; rw [HJ.out] at this; simp only [Sp.rounds]; rw [HN.out]; exact this, HB'.out⟩
          case measure => simp [intOf]; omega
    · have HT := hid (show t = nb by omega)
      go_wp2_with fail
      go_ret
      exact ⟨rfl, fun k hk => by have := HS.out k hk; rw [HT.out] at this; exact this, HB.out⟩

theorem set_lits (S : Nat → Bool) : Tryz.prog.keyLits 3 82 (setL S) = some ((List.range 52).map (fun r => Lit.bool (S r))) := by kernel_rfl
theorem set_key : Tryz.prog.keyTypeAt 3 82 = true := by kernel_rfl
theorem set_formed (S : Nat → Bool) : (Value.agg (setL S).toArray).formed Tryz.prog 82 = true := by kernel_rfl
theorem set_cells (S : Nat → Bool) : (Value.agg (setL S).toArray).cells.toList = setL S := by simp [Value.cells]
theorem set_neq (S : Nat → Bool) (w : World) : ∃ r : Bool, (binOp .neq 82 (.agg (setL S).toArray) (.agg (setL (fun _ => false)).toArray)).run Tryz.prog w = .ok (.bool r) w ∧ (r = true ↔ ∃ x, x < 52 ∧ S x = true) := by
  obtain ⟨r, h1, h2⟩ := run_equalIn_deep (P := Tryz.prog) 9997 3 82 set_key w 3 3 (.agg (setL S).toArray) (.agg (setL (fun _ => false)).toArray) ((List.range 52).map (fun r => Lit.bool (S r))) ((List.range 52).map (fun _ => Lit.bool false)) (set_formed S) (set_formed _) (by rw [set_cells]; exact set_lits S) (by rw [set_cells]; exact set_lits _)
  refine ⟨!r, ?_, ?_⟩
  · rw [run_neq_struct, show (10000 : Nat) = 9997 + 3 from rfl, h1]
    rfl
  · cases r
    · simp only [Bool.not_false, true_iff]
      have h3 : ¬ (List.range 52).map (fun r => Lit.bool (S r)) = (List.range 52).map (fun _ => Lit.bool false) := fun e => by have := h2.2 e; cases this
      apply Classical.byContradiction
      intro hn
      apply h3
      refine List.map_congr_left (fun x hx => ?_)
      have hx' := List.mem_range.1 hx
      cases hS : S x
      · rfl
      · exact absurd ⟨x, hx', hS⟩ hn
    · have h3 := h2.1 rfl
      simp only [Bool.not_true, Bool.false_eq_true, false_iff]
      rintro ⟨x, hx, hS⟩
      have h4 := congrArg (fun l => l[x]?) h3
      simp [hx, hS] at h4

theorem set_guard : Tryz.prog.eqGuardType Tryz.prog.depth 82 = false := by kernel_rfl
set_option maxRecDepth 20000 in
theorem wpList_neq_set {ops : Array Oper} {rest : List Oper} {op : Oper} {a : Act} {w : World} {Q : Exit → Act → World → Prop} (hgd : op.guard = none) (x y : Operand) (ho : op.op = .binOp .neq 82 x y 82)
    (S : Nat → Bool) (r : Bool) (hx : a.eval x = .agg (setL S).toArray) (hy : a.eval y = .agg (setL (fun _ => false)).toArray) (hr : (binOp .neq 82 (.agg (setL S).toArray) (.agg (setL (fun _ => false)).toArray)).run Tryz.prog w = .ok (.bool r) w)
    (h : wpList Tryz.prog ops Q rest (a.put op.dst (.bool r)) w) : wpList Tryz.prog ops Q (op :: rest) a w := by
  refine wpList_plain hgd fun K hK => ?_
  unfold Oper.wp execOp
  simp only [ho, hx, hy, Sem.run_bind, run_eqGuard_agg w .neq 82 x y (setL S).toArray (setL (fun _ => false)).toArray set_guard, Result.andThen_ok, hr, Sem.run_pure]
  exact hK _ _ h

def argR (n : Nat) : Int := if n = 0 then 0 else if n = 1 then 1 else if n = 2 then 26 else 27
def cutTo (S : Nat → Bool) : Nat → Nat → Bool
  | 0 => S
  | n + 1 => fun x => if (x : Int) = argR n then false else cutTo S n x

set_option maxRecDepth 20000 in
set_option maxHeartbeats 1000000 in
theorem atBeg_any (p nb B : Nat) (C : List Sp.Ins) (L : List (Nat × Nat)) (w : World) (hP : ProgAt w B p C L) (hnb : L.length = nb) (hC1 : 1 ≤ C.length) (hC : C.length ≤ 1000) (hnb10 : nb ≤ 10) (hnb1 : 1 ≤ nb) (hr : ∀ i, i ∈ C → i.d < 52 ∧ i.x < 52 ∧ i.y < 52) :
    Calls Tryz.prog 36 #[.pointer (some ⟨p, 0, none⟩)] w fun e w' => e = .returned (.agg (setL (Sp.rounds C L nb 0)).toArray) ∧ Below w.heap.size w w' := by
  have HP := hid hP
  have hnz : ((C.length : Int) == 0) = false := beq_eq_false_iff_ne.2 (by omega)
  obtain ⟨S, hS⟩ : ∃ S, Sp.rounds C L nb 0 = S := ⟨_, rfl⟩
  have HSE := hid hS
  rw [hS]
  clear hP hS
  generalize hN : w.heap.size = N at *
  go_enter Tryz.func36, Tryz.ntmps36
  go_upto_region 1 with (refine wpList_alloc_set rfl rfl ?_; intro w0 hs0 hb0 hz0; rw [hN] at hs0 hb0 hz0; have HS0 := hid hs0; have HB0 := hid hb0; clear hs0 hb0)
  have HP0 := hid (HP.out.move (by rw [hN]; exact HB0.out))
  have HLA := hid (liveAheads_any p nb B C L w0 HP0.out hnb hC1 hC hnb10 hnb1 hr)
  go_upto_region 2 with (go_at_call 56; refine HLA.out.mono ?_; rintro e w1 ⟨rfl, hs1, hb1⟩; rw [hz0] at hb1; have HS1 := hid hs1; have HB1 := hid hb1; clear hs1 hb1)
  have hs1 := HS1.out 0 (by omega)
  rw [HSE.out, Nat.zero_mul, hz0] at hs1
  have HS1' := hid hs1
  have HSN := hid (HS0.out.of_block (HB1.out.block N (by omega)))
  clear HLA HP0 HP HS1 hs1 hr HS0
  try rw [hz0]
  go_wp2_with (first | (refine wpList_load_set rfl (.tmp 11) rfl (N + 1) 0 S (by rfl) HS1'.out ?_) | (refine wpList_store_set rfl (.tmp 2) (.tmp 12) rfl N 0 S _ (by rfl) (by rfl) HSN.out ?_; intro w3 hs3 hs3' ho3; have HS3 := hid hs3; have HO3 := hid ho3; clear hs3 hs3' ho3))
  have hld := run_loadVar_mid (P := Tryz.prog) w3 N 0 82 (setL S) _ HS3.out.range Tryz.underlying82 rfl (by rw [setL_len]; exact info_set)
  refine bodyPost_ret (v := .agg (setL S).toArray) (results_cell_one (q := 2) (a := ⟨N, 0, none⟩) rfl _ _ (by rfl) hld) (by rfl) ⟨rfl, ?_⟩
  exact (HB0.out.trans (HB1.out.mono (by omega))).trans (HO3.out.below (Nat.le_refl _))

set_option maxRecDepth 20000 in
set_option maxHeartbeats 1000000 in
theorem mayReadUnset_any (p nb B : Nat) (C : List Sp.Ins) (L : List (Nat × Nat)) (w : World) (hP : ProgAt w B p C L) (hA : ArgsAt w) (hnb : L.length = nb) (hC1 : 1 ≤ C.length) (hC : C.length ≤ 1000) (hnb10 : nb ≤ 10) (hnb1 : 1 ≤ nb) (hr : ∀ i, i ∈ C → i.d < 52 ∧ i.x < 52 ∧ i.y < 52) :
    Calls Tryz.prog 23 #[.pointer (some ⟨p, 0, none⟩)] w fun e w' => ∃ r, e = .returned (.bool r) ∧ (r = true ↔ ∃ x, x < 52 ∧ cutTo (Sp.rounds C L nb 0) 4 x = true) ∧ Below w.heap.size w w' := by
  obtain ⟨S, hS⟩ : ∃ S, Sp.rounds C L nb 0 = S := ⟨_, rfl⟩
  have HSE := hid hS
  rw [hS]
  have HA := hid hA
  clear hA hS
  have HSA := hid (atBeg_any p nb B C L w hP hnb hC1 hC hnb10 hnb1 hr)
  rw [HSE.out] at HSA
  clear hP hnb hC hr
  go_enter Tryz.func23, Tryz.ntmps23
  go_upto_region 2 with (first | (go_at_call 36; refine HSA.out.mono ?_; rintro e w1 ⟨rfl, hb1⟩; have HB1 := hid hb1; clear hb1) | (refine wpList_alloc_set rfl rfl ?_; intro w2 hs2 hb2 hz2; have HS2 := hid hs2; have HB2 := hid hb2; have HZ2 := hid hz2; clear hs2 hb2 hz2) | (refine wpList_store_set rfl (.tmp 3) (.tmp 6) rfl w1.heap.size 0 S _ (by rfl) (by rfl) HS2.out ?_; intro w3 hs3 hs3' ho3; have HS3 := hid hs3; have HO3 := hid ho3; clear hs3 hs3' ho3))
  obtain ⟨m1, hm1⟩ : ∃ m1, w1.heap.size = m1 := ⟨_, rfl⟩
  have hm0 : w.heap.size ≤ m1 := by rw [← hm1]; exact HB1.out.size
  rw [hm1] at HS3 HO3 HB2
  rw [hm1]
  have HBW := hid ((HB1.out.trans (HB2.out.mono hm0)).trans (HO3.out.below (B := w.heap.size) hm0))
  clear hm1 HB1 HS2 HB2 HZ2 HO3 HSA
  go_wp2_with fail
  go_loopw [4] (fun nv wr => ∃ n : Nat, n ≤ 4 ∧ nv = .int .i64 n ∧ SetAt wr m1 0 (cutTo S n) ∧ Below w.heap.size w wr) (fun nv _ => 4 - (intOf nv).toNat)
  case atStart => exact ⟨0, by omega, rfl, HS3.out, HBW.out⟩
  case round =>
    obtain ⟨n, hn, rfl, hs, hbel⟩ := hrel
    have HS := hid hs
    have HB := hid hbel
    have ha := HA.out.move hbel
    have hc : n < 4 → wr.cell? ⟨0, n, none⟩ = some (.int .i64 (argR n)) := fun h => by
      have h4 : n = 0 ∨ n = 1 ∨ n = 2 ∨ n = 3 := by omega
      rcases h4 with rfl | rfl | rfl | rfl
      · exact ha.c0
      · exact ha.c1
      · exact ha.c2
      · exact ha.c3
    have har : argR n < 52 := by unfold argR; repeat' split <;> omega
    by_cases hlt : n < 4
    · have hcn := hc hlt
      have hne : (0 : Nat) ≠ m1 := by have := HA.out.lt; omega
      clear hs hbel ha hc
      go_wp2_with fail
      refine (put_any m1 0 (cutTo S n) (argR n) false _ HS.out har).mono ?_
      rintro e w4 ⟨rfl, hs4, ho4⟩
      have HS4 := hid hs4
      have HO4 := hid ho4
      clear hs4 ho4
      go_wp2_with fail
      go_roundw
      case rel => exact ⟨n + 1, by omega, by go_num, HS4.out, HB.out.trans (HO4.out.below hm0)⟩
      case measure => simp [intOf]; omega
    · have HN := hid (show n = 4 by omega)
      obtain ⟨r, hr1, hr2⟩ := set_neq (cutTo S n) wr
      have HR2 := hid hr2
      clear hs hbel ha hc hr2
      go_wp2_with (first | (refine wpList_load_set rfl (.tmp 3) rfl m1 0 _ (by rfl) HS.out ?_) | (refine wpList_build_set rfl rfl ?_) | (refine wpList_neq_set rfl (.tmp 15) (.tmp 16) rfl (cutTo S n) r (by rfl) (by rfl) hr1 ?_))
      go_ret
      exact ⟨r, rfl, by rw [HN.out] at HR2; exact HR2.out, HB.out⟩
end Go.Proofs.YtccndnckceagfabGreatDoorR
