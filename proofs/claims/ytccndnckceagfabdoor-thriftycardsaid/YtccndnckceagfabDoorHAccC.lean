/-
  Pairs read and written whole; the pairs that block 0 is begun with.
  Two sets of pairs held against each other.
  What is known of each block, as the program holds it: a table of ten entries.
  A block is come to: the program's handOn.
  A block is come to: the program's handOn.
  A block is played and handed on: the program's playBlock.
  Whether a machine program is accepted for a source program: the program's Accepted.
  What a program that was read keeps to.
-/
import Derived.Test.YtccndnckceagfabDoorHAcc4
import Derived.DeepKeys
import Derived.Deep.RegionHeld3
import Derived.BigQuiet
import Derived.Test.YtccndnckceagfabDoorHLv
namespace Go.Proofs.YtccndnckceagfabDoor.Sp
/-- what block 0 is begun with -/
def begR (p : Nat) : Int := if p = 0 then 0 else if p = 1 then 1 else if p = 2 then 26 else if p = 3 then 27 else 52
def startE (p : Nat) : Nat := bitN (begR p)
theorem setP_at (E : Nat → Nat) (v : Int) (m : Nat) (hm : m < 62) : setP E v (m : Int) = fun x => if x = m then bitN v else E x := by
  unfold setP isPl
  rw [if_pos (by simp; omega), Int.toNat_natCast]
end Go.Proofs.YtccndnckceagfabDoor.Sp

namespace Go.Proofs.YtccndnckceagfabDoor
open Go.RowKit

theorem rowIs_setCells {b t n : Nat} (vs : List Value) : ∀ {w : World} {f : Nat → Value} (o : Nat), w.rowIs b t n f → (w.setCells b o vs).rowIs b t n (fun j => if o ≤ j ∧ j < o + vs.length then vs.getD (j - o) undef else f j) := by
  induction vs with
  | nil =>
    intro w f o h
    exact World.rowIs.congr h (fun j _ => by rw [if_neg (by simp)])
  | cons v vs ih =>
    intro w f o h
    refine World.rowIs.congr (ih (o + 1) (World.rowIs.set h o v)) (fun j _ => ?_)
    by_cases h0 : j = o
    · subst h0
      rw [if_neg (by omega), if_pos rfl, if_pos ⟨Nat.le_refl _, by simp⟩, Nat.sub_self]
      rfl
    · by_cases h1 : o + 1 ≤ j ∧ j < o + 1 + vs.length
      · rw [if_pos h1, if_pos ⟨by omega, by simp; omega⟩, show j - o = (j - (o + 1)) + 1 by omega]
        rfl
      · rw [if_neg h1, if_neg h0, if_neg (by simp; omega)]

def prL (E : Nat → Nat) : List Value := (List.range 62).map (fun p => .int .u64 (E p : Nat))
theorem prL_len (E : Nat → Nat) : (prL E).length = 62 := by simp [prL]
theorem prL_at (E : Nat → Nat) (p : Nat) (hp : p < 62) : (prL E)[p]? = some (.int .u64 (E p : Nat)) := by simp [prL, hp]
theorem prL_getD (E : Nat → Nat) (p : Nat) (hp : p < 62) : (prL E).getD p undef = .int .u64 (E p : Nat) := by rw [List.getD_eq_getElem?_getD, prL_at E p hp]; rfl
theorem prL_one (E : Nat → Nat) : ∀ v ∈ prL E, v.oneCell' = true := by
  intro v hv
  simp only [prL, List.mem_map] at hv
  obtain ⟨r, _, rfl⟩ := hv
  rfl
theorem info_pr : (Tryd.prog.info? 71).map (·.size) = some 62 := by kernel_rfl
theorem run_alloc_pr (w : World) : (Instr.alloc 71 true (.tuple #[])).run Tryd.prog w = .ok (.pointer (some ⟨w.heap.size, 0, none⟩)) (w.alloc (.cells (prL (fun _ => 0)).toArray 71)) := by kernel_rfl
theorem run_build_pr (w : World) : (Instr.build 71 #[]).run Tryd.prog w = .ok (.agg (prL (fun _ => 0)).toArray) w := by kernel_rfl
/-- pairs within a row -/
def PrIn (w : World) (b o t n : Nat) (f : Nat → Value) (E : Nat → Nat) : Prop := w.rowIs b t n f ∧ o + 62 ≤ n ∧ ∀ p, p < 62 → f (o + p) = .int .u64 (E p : Nat)
theorem PrAt.in {w : World} {b : Nat} {E : Nat → Nat} (h : PrAt w b E) : PrIn w b 0 71 62 (fun p => .int .u64 (E p : Nat)) E := ⟨h.row, by omega, fun p _ => by rw [Nat.zero_add]⟩
theorem PrIn.range {w : World} {b o t n : Nat} {f : Nat → Value} {E : Nat → Nat} (h : PrIn w b o t n f E) : w.rangeAt b o (prL E) := by
  intro j v hj
  have hj' : j < 62 := by have := (List.getElem?_eq_some_iff.1 hj).1; rwa [prL_len] at this
  rw [prL_at E j hj'] at hj
  rw [World.rowIs.cell h.1 (i := o + j) (by have := h.2.1; omega), h.2.2 j hj', ← hj]
theorem there_row {w : World} {b t n : Nat} {f : Nat → Value} (h : w.rowIs b t n f) (o m : Nat) (ho : o + m ≤ n) : w.there b o m := fun j hj => ⟨by rw [World.rowIs.cell h (i := o + j) (by omega)]; rfl, World.rowIs.frozen h _⟩

theorem pr_new (w : World) (E : Nat → Nat) (hE : Sp.Small E) : PrAt (w.alloc (.cells (prL E).toArray 71)) w.heap.size E := by
  have h := World.rowIs_alloc w (prL E).toArray 71 (fun r => .int .u64 (E r : Nat)) (fun r hr => by
    have hr' : r < 62 := by simpa [prL_len] using hr
    rw [List.getElem?_toArray]
    exact prL_at E r hr')
  have hs : (prL E).toArray.size = 62 := by simp [prL_len]
  rw [hs] at h
  exact ⟨h, hE⟩
theorem zero_small : Sp.Small (fun _ => 0) := fun _ _ => Nat.two_pow_pos _

theorem wpList_alloc_pr {ops : Array Oper} {rest : List Oper} {op : Oper} {a : Act} {w : World} {Q : Exit → Act → World → Prop} (hgd : op.guard = none) (ho : op.op = .alloc 71)
    (h : ∀ w', PrAt w' w.heap.size (fun _ => 0) → Below w.heap.size w w' → w'.heap.size = w.heap.size + 1 → wpList Tryd.prog ops Q rest (a.put op.dst (.pointer (some ⟨w.heap.size, 0, none⟩))) w') : wpList Tryd.prog ops Q (op :: rest) a w := by
  refine wpList_plain hgd fun K hK => ?_
  unfold Oper.wp execOp
  simp only [ho, Sem.run_bind, run_alloc_pr, Result.andThen_ok, Sem.run_pure]
  exact hK _ _ (h _ (pr_new _ _ zero_small) ((Below.refl _ _).alloc (Nat.le_refl _) _) (by simp))
theorem wpList_build_pr {ops : Array Oper} {rest : List Oper} {op : Oper} {a : Act} {w : World} {Q : Exit → Act → World → Prop} (hgd : op.guard = none) (ho : op.op = .build 71 #[])
    (h : wpList Tryd.prog ops Q rest (a.put op.dst (.agg (prL (fun _ => 0)).toArray)) w) : wpList Tryd.prog ops Q (op :: rest) a w := by
  refine wpList_plain hgd fun K hK => ?_
  unfold Oper.wp execOp
  simp only [ho, Sem.run_bind, List.map_toArray, List.map_nil, run_build_pr, Result.andThen_ok, Sem.run_pure]
  exact hK _ _ h
/-- pairs read whole -/
theorem wpList_load_pr {ops : Array Oper} {rest : List Oper} {op : Oper} {a : Act} {w : World} {Q : Exit → Act → World → Prop} (hgd : op.guard = none) (x : Operand) (ho : op.op = .load 71 x)
    (b o t n : Nat) (f : Nat → Value) (E : Nat → Nat) (hx : a.eval x = .pointer (some ⟨b, o, none⟩)) (hS : PrIn w b o t n f E)
    (h : wpList Tryd.prog ops Q rest (a.put op.dst (.agg (prL E).toArray)) w) : wpList Tryd.prog ops Q (op :: rest) a w :=
  wpList_load_mid hgd 71 x ho b o hx (prL E) _ hS.range Tryd.underlying71 rfl (by rw [prL_len]; exact info_pr) h
/-- pairs written whole -/
theorem wpList_store_pr {ops : Array Oper} {rest : List Oper} {op : Oper} {a : Act} {w : World} {Q : Exit → Act → World → Prop} (hgd : op.guard = none) (x y : Operand) (ho : op.op = .store 71 x y)
    (b : Nat) (E F : Nat → Nat) (hE : Sp.Small E) (hx : a.eval x = .pointer (some ⟨b, 0, none⟩)) (hy : a.eval y = .agg (prL E).toArray) (hT : PrAt w b F)
    (h : ∀ w', PrAt w' b E → Only b w w' → wpList Tryd.prog ops Q rest (a.put op.dst undef) w') : wpList Tryd.prog ops Q (op :: rest) a w := by
  have hs : (prL E).toArray.size = 62 := by simp [prL_len]
  refine wpList_store_mid hgd 71 x y ho b 0 (prL E).toArray hx hy (by rw [hs]; exact there_row hT.row 0 62 (by omega)) (by rw [hs]; exact info_pr) (all_oneCell_toArray (prL_one E)) (h _ ⟨?_, hE⟩ ?_)
  · refine World.rowIs.congr (rowIs_setCells (prL E) 0 hT.row) (fun j hj => ?_)
    rw [if_pos ⟨Nat.zero_le _, by rw [prL_len]; omega⟩, Nat.sub_zero, prL_getD E j hj]
  · exact only_setCells w b 0 (prL E)

set_option maxRecDepth 20000 in
set_option maxHeartbeats 2000000 in
theorem atBeginning_any (w : World) (hA : ArgsAt w) :
    Calls Tryd.prog 31 #[] w fun e w' => e = .returned (.agg (prL Sp.startE).toArray) ∧ Below w.heap.size w w' := by
  have HA := hid hA
  have hw0 := hA.lt
  clear hA
  go_enter Tryd.func31, Tryd.ntmps31
  generalize hN : w.heap.size = N at *
  go_upto_region 1 with (refine wpList_alloc_pr rfl rfl ?_; intro w1 hs1 hb1 hz1)
  rw [hN] at hs1 hb1 hz1
  have HS1 := hid hs1
  have HB1 := hid hb1
  clear hs1 hb1
  go_upto_region 2 with (first | (refine wpList_build_pr rfl rfl ?_) | (refine wpList_alloc_pr rfl rfl ?_; intro w2 hs2 hb2 hz2; rw [hz1] at hs2 hb2 hz2; have HS2 := hid hs2; have HB2 := hid hb2; clear hs2 hb2) | (refine wpList_store_pr rfl (.tmp 1) (.tmp 4) rfl (N + 1) _ _ zero_small (by rw [← hz1]; rfl) (by rfl) HS2.out ?_; intro w3 hs3 ho3; have HS3 := hid hs3; have HO3 := hid ho3; clear hs3 ho3))
  have hbw : Below N w w3 := (HB1.out.trans (HB2.out.mono (by omega))).trans (HO3.out.below (by omega))
  have HSR := hid ((HS1.out.of_block (HB2.out.block N (by omega))).of_block (HO3.out.block N (by omega)))
  have HBW := hid hbw
  have hz3 : w3.heap.size = N + 2 := by rw [HO3.out.size, hz2]
  clear hbw
  have HAA := hid (show ∀ wx, Below N w wx → ArgsAt wx from fun wx hb => HA.out.of_block (hb.block 0 hw0))
  have hF0 : Sp.Small (fun _ => Sp.bitN 52) := fun _ _ => Sp.bitN_lt _
  go_wp2_with fail
  go_loopw [2] (fun mv wr => ∃ m : Nat, m ≤ 62 ∧ mv = .int .i64 m ∧ PrAt wr (N + 1) (upTo (fun _ => 0) (fun _ => Sp.bitN 52) m) ∧ Only (N + 1) w3 wr) (fun mv _ => 62 - (intOf mv).toNat)
  case atStart => exact ⟨0, by omega, rfl, by rw [upTo_zero]; exact HS3.out, Only.refl _ _⟩
  case round =>
    obtain ⟨m, hm, rfl, hg, ho⟩ := hrel
    have HG := hid hg
    have HO := hid ho
    clear hg ho
    by_cases hlt : m < 62
    · go_wp2_with (go_at_call 49; refine (setP_any (N + 1) _ 52 (m : Int) wr HG.out).mono ?_; rintro e w4 ⟨rfl, hp4, ho4⟩; have HP4 := hid hp4; have HO4 := hid ho4; clear hp4 ho4)
      go_roundw
      case rel => exact ⟨m + 1, by omega, by go_num, HP4.out.congr (fun j hj => by rw [Sp.setP_at _ _ m hlt, upTo_succ]), HO.out.trans HO4.out⟩
      case measure => simp [intOf]; omega
    · have HP := hid (HG.out.congr (F := fun _ => Sp.bitN 52) (fun j hj => by unfold upTo; rw [if_pos (by omega)]))
      clear HG
      go_wp2_with fail
      go_loopw [3] (fun mv wq => ∃ m : Nat, m ≤ 4 ∧ mv = .int .i64 m ∧ PrAt wq (N + 1) (upTo (fun _ => Sp.bitN 52) Sp.startE m) ∧ Only (N + 1) w3 wq) (fun mv _ => 4 - (intOf mv).toNat)
      case atStart => exact ⟨0, by omega, rfl, by rw [upTo_zero]; exact HP.out, HO.out⟩
      case round =>
        obtain ⟨k, hk, rfl, hg, ho⟩ := hrel
        have HG := hid hg
        have HO2 := hid ho
        have hB2 := HBW.out.trans (ho.below (B := N) (by omega))
        have HB2 := hid hB2
        have hargs := HAA.out wr hB2
        clear hg ho hB2
        by_cases hk4 : k < 4
        · have c : wr.cell? ⟨0, k, none⟩ = some (.int .i64 (Sp.begR k)) := by
            have : k = 0 ∨ k = 1 ∨ k = 2 ∨ k = 3 := by omega
            rcases this with rfl | rfl | rfl | rfl
            · exact hargs.c0
            · exact hargs.c1
            · exact hargs.c2
            · exact hargs.c3
          clear hargs
          go_wp2_with (go_at_call 49; refine (setP_any (N + 1) _ (Sp.begR k) (k : Int) wr HG.out).mono ?_; rintro e w4 ⟨rfl, hp4, ho4⟩; have HP4 := hid hp4; have HO4 := hid ho4; clear hp4 ho4)
          go_roundw
          case rel => exact ⟨k + 1, by omega, by go_num, HP4.out.congr (fun j hj => by rw [Sp.setP_at _ _ k (by omega), upTo_succ]; rfl), HO2.out.trans HO4.out⟩
          case measure => simp [intOf]; omega
        · have HE := hid (HG.out.congr (F := Sp.startE) (fun j hj => by
            unfold upTo
            split
            · rfl
            · unfold Sp.startE Sp.begR
              rw [if_neg (by omega), if_neg (by omega), if_neg (by omega), if_neg (by omega)]))
          have HR := hid (HSR.out.of_block (HO2.out.block N (by omega)))
          clear hargs HG
          go_wp2_with (first | (refine wpList_load_pr rfl (.tmp 1) rfl (N + 1) 0 _ _ _ Sp.startE (by rfl) HE.out.in ?_) | (refine wpList_store_pr rfl (.tmp 0) (.tmp 20) rfl N _ _ HE.out.small (by rfl) (by rfl) HR.out ?_; intro w5 hs5 ho5; have HS5 := hid hs5; have HO5 := hid ho5; clear hs5 ho5))
          have hld := run_loadVar_mid (P := Tryd.prog) w5 N 0 71 (prL Sp.startE) _ HS5.out.in.range Tryd.underlying71 rfl (by rw [prL_len]; exact info_pr)
          refine bodyPost_ret (v := .agg (prL Sp.startE).toArray) (results_cell_one (q := 0) (a := ⟨N, 0, none⟩) rfl _ _ (by rfl) hld) (by rfl) ⟨rfl, ?_⟩
          exact HB2.out.trans (HO5.out.below (Nat.le_refl _))
end Go.Proofs.YtccndnckceagfabDoor

namespace Go.Proofs.YtccndnckceagfabDoor
open Go.RowKit

theorem mapM_some {α β : Type} (f : α → Option β) (g : α → β) : ∀ l : List α, (∀ x ∈ l, f x = some (g x)) → l.mapM f = some (l.map g)
  | [], _ => rfl
  | x :: l, h => by
    rw [List.mapM_cons, h x (by simp), mapM_some f g l (fun y hy => h y (by simp [hy]))]
    rfl
theorem flat_one {α β : Type} (g : α → β) : ∀ l : List α, (l.map fun x => [g x]).flatten = l.map g
  | [] => rfl
  | x :: l => by simp only [List.map_cons, List.flatten_cons, flat_one g l]; rfl
theorem key_pr : Tryd.prog.keyTypeAt 3 71 = true := by kernel_rfl
theorem formed_pr (E : Nat → Nat) : (Value.agg (prL E).toArray).formed Tryd.prog 71 = true := by kernel_rfl
theorem lits_one (n : Nat) (hn : n < 2 ^ 53) : Tryd.prog.keyLits 1 68 [.int .u64 (n : Nat)] = some [Lit.int .u64 (n : Nat)] := by
  have hu : Tryd.prog.underlying 68 = some (.int .u64) := by kernel_rfl
  have h1 : IntKind.u64.min = 0 := by decide
  have h2 : IntKind.u64.max = 18446744073709551615 := by decide
  have hw : (Lit.int .u64 (n : Nat)).wf = true := by
    simp only [Lit.wf, h1, h2, Bool.and_eq_true, decide_eq_true_eq]
    omega
  simp only [Program.keyLits, hu]
  rw [if_pos ⟨trivial, hw⟩]
theorem lits_arr (E : Nat → Nat) (hE : Sp.Small E) : Tryd.prog.keyLits 2 69 (prL E) = some ((List.range 62).map fun p => Lit.int .u64 (E p : Nat)) := by
  have hc : Tryd.prog.cellsOf 69 = 62 := by kernel_rfl
  have h1 : Tryd.prog.cellsOf 68 = 1 := by kernel_rfl
  rw [Program.keyLits.eq_def]
  simp only [Tryd.underlying69]
  rw [if_pos (by rw [hc, prL_len]), mapM_some _ (fun i => [Lit.int .u64 (E i : Nat)]) _ (fun i hi => by
    have hi' : i < 62 := List.mem_range.mp hi
    have e : ((prL E).drop (i * Tryd.prog.cellsOf 68)).take (Tryd.prog.cellsOf 68) = [.int .u64 (E i : Nat)] := by
      rw [h1, Nat.mul_one]
      have hl : i < (prL E).length := by rw [prL_len]; exact hi'
      rw [List.drop_eq_getElem_cons hl]
      have := prL_at E i hi'
      rw [List.getElem?_eq_getElem hl] at this
      rw [List.take_succ_cons, List.take_zero, Option.some.inj this]
    show Tryd.prog.keyLits 1 68 _ = _
    rw [e]
    exact lits_one (E i) (hE i hi'))]
  exact congrArg some (flat_one _ (List.range 62))
theorem lits_pr (E : Nat → Nat) (hE : Sp.Small E) : Tryd.prog.keyLits 3 71 (Value.agg (prL E).toArray).cells.toList = some ((List.range 62).map fun p => Lit.int .u64 (E p : Nat)) := by
  have hc : Tryd.prog.cellsOf 71 = 62 := by kernel_rfl
  have h1 : Tryd.prog.cellsOf 69 = 62 := by kernel_rfl
  show Tryd.prog.keyLits 3 71 (prL E) = _
  rw [Program.keyLits.eq_def]
  simp only [Tryd.underlying71]
  rw [if_pos ⟨by rw [hc, prL_len], by kernel_rfl⟩]
  simp only [List.mapM_cons, List.mapM_nil, List.drop_zero, h1]
  rw [List.take_of_length_le (by rw [prL_len]; exact Nat.le_refl _), lits_arr E hE]
  simp
namespace Sp
/-- the same pairs? -/
def eqP (E F : Nat → Nat) : Bool := (List.range 62).all fun p => E p == F p
theorem eqP_iff (E F : Nat → Nat) : eqP E F = true ↔ ∀ p, p < 62 → E p = F p := by
  unfold eqP
  simp [List.all_eq_true]
end Sp
theorem run_equal_pr (E F : Nat → Nat) (hE : Sp.Small E) (hF : Sp.Small F) (w : World) : (Op.equal 71 (.agg (prL E).toArray) (.agg (prL F).toArray)).run Tryd.prog w = .ok (Sp.eqP E F) w := by
  obtain ⟨r, hr, hiff⟩ := run_equalIn_deep (P := Tryd.prog) (10000 - 3) 3 71 key_pr w 3 3 _ _ _ _ (formed_pr E) (formed_pr F) (lits_pr E hE) (lits_pr F hF)
  have e : r = Sp.eqP E F := by
    rw [Bool.eq_iff_iff, hiff, Sp.eqP_iff]
    constructor
    · intro h p hp
      have := congrArg (fun l => l[p]?) h
      simp [hp] at this
      omega
    · intro h
      exact List.map_congr_left (fun p hp => by rw [h p (List.mem_range.mp hp)])
  rw [e] at hr
  exact hr
end Go.Proofs.YtccndnckceagfabDoor

namespace Go.Proofs.YtccndnckceagfabDoor.Sp
/-- what is known of a block: is it reached, does it wait, with which pairs is it begun -/
structure Ent where
  r : Bool
  w : Bool
  e : Nat → Nat
def noEnt : Ent := ⟨false, false, fun _ => 0⟩
/-- the first block that waits -/
def nextB (K : Nat → Ent) : Option Nat := (List.range 10).find? (fun i => (K i).w)
def nextI (K : Nat → Ent) : Int := match nextB K with
  | some i => i
  | none => -1
theorem nextB_none {K : Nat → Ent} (h : ∀ i, i < 10 → (K i).w = false) : nextB K = none := by
  unfold nextB
  rw [List.find?_eq_none]
  intro i hi
  rw [h i (List.mem_range.mp hi)]
  simp
theorem nextB_some {K : Nat → Ent} {m : Nat} (hm : m < 10) (h : ∀ i, i < m → (K i).w = false) (hw : (K m).w = true) : nextB K = some m := by
  unfold nextB
  rw [List.find?_range_eq_some]
  refine ⟨hw, List.mem_range.mpr hm, fun j hj => ?_⟩
  rw [h j hj]
  rfl
/-- entry i is x -/
def putE (K : Nat → Ent) (i : Nat) (x : Ent) : Nat → Ent := fun j => if j = i then x else K j
/-- block b is come to with the pairs E -/
def handE (K : Nat → Ent) (b : Int) (E : Nat → Nat) : Nat → Ent :=
  if 0 ≤ b ∧ b < 10 then
    if (K b.toNat).r = true then putE K b.toNat ⟨true, (K b.toNat).w || !(eqP (meetP (K b.toNat).e E) (K b.toNat).e), meetP (K b.toNat).e E⟩
    else putE K b.toNat ⟨true, true, E⟩
  else K
end Go.Proofs.YtccndnckceagfabDoor.Sp

namespace Go.Proofs.YtccndnckceagfabDoor
open Go.RowKit

def tabF (K : Nat → Sp.Ent) (j : Nat) : Value := if j % 64 = 0 then .bool (K (j / 64)).r else if j % 64 = 1 then .bool (K (j / 64)).w else .int .u64 ((K (j / 64)).e (j % 64 - 2) : Nat)
theorem tabF_r (K : Nat → Sp.Ent) (i : Nat) : tabF K (i * 64) = .bool (K i).r := by
  unfold tabF
  rw [if_pos (by omega), show i * 64 / 64 = i by omega]
theorem tabF_w (K : Nat → Sp.Ent) (i : Nat) : tabF K (i * 64 + 1) = .bool (K i).w := by
  unfold tabF
  rw [if_neg (by omega), if_pos (by omega), show (i * 64 + 1) / 64 = i by omega]
theorem tabF_e (K : Nat → Sp.Ent) (i p : Nat) (hp : p < 62) : tabF K (i * 64 + 2 + p) = .int .u64 ((K i).e p : Nat) := by
  unfold tabF
  rw [if_neg (by omega), if_neg (by omega), show (i * 64 + 2 + p) / 64 = i by omega, show (i * 64 + 2 + p) % 64 - 2 = p by omega]
/-- every place of the table is one of an entry -/
theorem tab_cases (j : Nat) : j = j / 64 * 64 ∨ j = j / 64 * 64 + 1 ∨ ∃ p, p < 62 ∧ j = j / 64 * 64 + 2 + p := by
  by_cases h0 : j % 64 = 0
  · exact Or.inl (by omega)
  · by_cases h1 : j % 64 = 1
    · exact Or.inr (Or.inl (by omega))
    · exact Or.inr (Or.inr ⟨j % 64 - 2, by omega, by omega⟩)
/-- at block b lies the table K -/
structure TbAt (w : World) (b : Nat) (K : Nat → Sp.Ent) : Prop where
  row : w.rowIs b 76 640 (tabF K)
  small : ∀ i, i < 10 → Sp.Small (K i).e
theorem TbAt.of_block {w w' : World} {b : Nat} {K : Nat → Sp.Ent} (h : TbAt w b K) (e : w'.heap[b]? = w.heap[b]?) : TbAt w' b K := ⟨World.rowIs.of_block h.row e, h.small⟩
theorem TbAt.lt {w : World} {b : Nat} {K : Nat → Sp.Ent} (h : TbAt w b K) : b < w.heap.size := World.rowIs.lt h.row
theorem TbAt.r {w : World} {b : Nat} {K : Nat → Sp.Ent} (h : TbAt w b K) {i : Nat} (hi : i < 10) : w.cell? ⟨b, i * 64, none⟩ = some (.bool (K i).r) := by
  rw [World.rowIs.cell h.row (i := i * 64) (by omega), tabF_r]
theorem TbAt.w {w : World} {b : Nat} {K : Nat → Sp.Ent} (h : TbAt w b K) {i : Nat} (hi : i < 10) : w.cell? ⟨b, i * 64 + 1, none⟩ = some (.bool (K i).w) := by
  rw [World.rowIs.cell h.row (i := i * 64 + 1) (by omega), tabF_w]
theorem TbAt.pr {w : World} {b : Nat} {K : Nat → Sp.Ent} (h : TbAt w b K) {i : Nat} (hi : i < 10) : PrIn w b (i * 64 + 2) 76 640 (tabF K) (K i).e :=
  ⟨h.row, by omega, fun p hp => tabF_e K i p hp⟩
/-- does it wait: written -/
theorem TbAt.setW {w : World} {b : Nat} {K : Nat → Sp.Ent} (h : TbAt w b K) {i : Nat} (hi : i < 10) (v : Bool) : TbAt (w.setCell ⟨b, i * 64 + 1, none⟩ (.bool v)) b (Sp.putE K i ⟨(K i).r, v, (K i).e⟩) := by
  refine ⟨World.rowIs.congr (World.rowIs.set h.row (i * 64 + 1) (.bool v)) (fun j hj => ?_), fun k hk => ?_⟩
  · have hq : j / 64 < 10 := by omega
    by_cases hji : j / 64 = i
    · have e : Sp.putE K i ⟨(K i).r, v, (K i).e⟩ i = ⟨(K i).r, v, (K i).e⟩ := by unfold Sp.putE; rw [if_pos rfl]
      rcases tab_cases j with h0 | h1 | ⟨p, hp, h2⟩
      · rw [hji] at h0
        rw [if_neg (by omega), h0, tabF_r, tabF_r, e]
      · rw [hji] at h1
        rw [if_pos h1, h1, tabF_w, e]
      · rw [hji] at h2
        rw [if_neg (by omega), h2, tabF_e _ _ _ hp, tabF_e _ _ _ hp, e]
    · rw [if_neg (by omega)]
      unfold tabF Sp.putE
      simp only [if_neg hji]
  · unfold Sp.putE
    by_cases hki : k = i
    · rw [if_pos hki]; exact h.small i hi
    · rw [if_neg hki]; exact h.small k hk

set_option maxRecDepth 20000 in
set_option maxHeartbeats 1000000 in
theorem tabNext_any (b : Nat) (K : Nat → Sp.Ent) (w : World) (h : TbAt w b K) :
    Calls Tryd.prog 33 #[.pointer (some ⟨b, 0, none⟩)] w fun e w' => e = .returned (.int .i64 (Sp.nextI K)) ∧ w = w' := by
  have HT := hid h
  clear h
  go_enter Tryd.func33, Tryd.ntmps33
  go_wp2_with fail
  go_loopw [3, 2] (fun mv rv wr => ∃ m : Nat, m ≤ 10 ∧ mv = .int .i64 m ∧ rv = .int .i64 0 ∧ (∀ p : Nat, p < m → (K p).w = false) ∧ w = wr) (fun mv _ _ => 10 - (intOf mv).toNat)
  case atStart => exact ⟨0, by omega, rfl, rfl, fun p hp => by omega, rfl⟩
  case round =>
    obtain ⟨m, hm, rfl, rfl, ha, rfl⟩ := hrel
    have HA := hid ha
    clear ha
    by_cases hlt : m < 10
    · have c := HT.out.w hlt
      cases hw : (K m).w
      · have HW := hid hw
        rw [hw] at c
        clear hw
        go_wp2_with fail
        go_roundw
        case rel => exact ⟨m + 1, by omega, by go_num, rfl, fun p hp => by
          by_cases h2 : p < m
          · exact HA.out p h2
          · rw [show p = m by omega]; exact HW.out, trivial⟩
        case measure => simp [intOf]; omega
      · have HF := hid (show Sp.nextI K = (m : Int) by unfold Sp.nextI; rw [Sp.nextB_some hlt HA.out hw])
        rw [hw] at c
        clear hw
        go_wp2_with fail
        go_ret
        exact ⟨by rw [HF.out]; rfl, rfl⟩
    · have HF := hid (show Sp.nextI K = -1 by unfold Sp.nextI; rw [Sp.nextB_none (fun i hi => HA.out i (by omega))])
      go_wp2_with fail
      go_ret
      exact ⟨by rw [HF.out]; rfl, rfl⟩
end Go.Proofs.YtccndnckceagfabDoor

namespace Go.Proofs.YtccndnckceagfabDoor
open Go.RowKit

def enL (x : Sp.Ent) : List Value := .bool x.r :: .bool x.w :: prL x.e
theorem enL_len (x : Sp.Ent) : (enL x).length = 64 := by simp [enL, prL_len]
theorem enL_one (x : Sp.Ent) : ∀ v ∈ enL x, v.oneCell' = true := by
  intro v hv
  simp only [enL, List.mem_cons] at hv
  rcases hv with rfl | rfl | hv
  · rfl
  · rfl
  · exact prL_one _ v hv
theorem info_en : (Tryd.prog.info? 73).map (·.size) = some 64 := by kernel_rfl
theorem run_build_en (w : World) (r s : Bool) (E : Nat → Nat) : (Instr.build 73 #[(0, .bool r), (1, .bool s), (2, .agg (prL E).toArray)]).run Tryd.prog w = .ok (.agg (enL ⟨r, s, E⟩).toArray) w := by kernel_rfl
/-- an entry written whole -/
theorem TbAt.putEnt {w : World} {b : Nat} {K : Nat → Sp.Ent} (h : TbAt w b K) {i : Nat} (x : Sp.Ent) (hx : Sp.Small x.e) : TbAt (w.setCells b (i * 64) (enL x)) b (Sp.putE K i x) := by
  have e : Sp.putE K i x i = x := by unfold Sp.putE; rw [if_pos rfl]
  refine ⟨World.rowIs.congr (rowIs_setCells (enL x) (i * 64) h.row) (fun j hj => ?_), fun k hk => ?_⟩
  · rw [enL_len]
    by_cases hji : j / 64 = i
    · rw [if_pos ⟨by omega, by omega⟩]
      rcases tab_cases j with h0 | h1 | ⟨p, hp, h2⟩
      · rw [hji] at h0
        rw [h0, Nat.sub_self, tabF_r, e]
        rfl
      · rw [hji] at h1
        rw [h1, show i * 64 + 1 - i * 64 = 1 by omega, tabF_w, e]
        rfl
      · rw [hji] at h2
        rw [h2, show i * 64 + 2 + p - i * 64 = p + 2 by omega, tabF_e _ _ _ hp, e]
        exact prL_getD x.e p hp
    · rw [if_neg (by omega)]
      unfold tabF Sp.putE
      simp only [if_neg hji]
  · unfold Sp.putE
    by_cases hki : k = i
    · rw [if_pos hki]; exact hx
    · rw [if_neg hki]; exact h.small k hk
/-- an entry's pairs met with others -/
theorem TbAt.meets {w w' : World} {b : Nat} {K : Nat → Sp.Ent} (h : TbAt w b K) {i : Nat} (hi : i < 10) (F : Nat → Nat) (hr : w'.rowIs b 76 640 (fun j => if i * 64 + 2 ≤ j ∧ j < i * 64 + 2 + 62 then .int .u64 (Sp.meetP (K i).e F (j - (i * 64 + 2)) : Nat) else tabF K j)) : TbAt w' b (Sp.putE K i ⟨(K i).r, (K i).w, Sp.meetP (K i).e F⟩) := by
  have e : Sp.putE K i ⟨(K i).r, (K i).w, Sp.meetP (K i).e F⟩ i = ⟨(K i).r, (K i).w, Sp.meetP (K i).e F⟩ := by unfold Sp.putE; rw [if_pos rfl]
  refine ⟨World.rowIs.congr hr (fun j hj => ?_), fun k hk => ?_⟩
  · by_cases hji : j / 64 = i
    · rcases tab_cases j with h0 | h1 | ⟨p, hp, h2⟩
      · rw [hji] at h0
        rw [if_neg (by omega), h0, tabF_r, tabF_r, e]
      · rw [hji] at h1
        rw [if_neg (by omega), h1, tabF_w, tabF_w, e]
      · rw [hji] at h2
        rw [if_pos ⟨by omega, by omega⟩, h2, tabF_e _ _ _ hp, e, show i * 64 + 2 + p - (i * 64 + 2) = p by omega]
    · rw [if_neg (by omega)]
      unfold tabF Sp.putE
      simp only [if_neg hji]
  · unfold Sp.putE
    by_cases hki : k = i
    · rw [if_pos hki]; exact Sp.meetP_small (h.small i hi) F
    · rw [if_neg hki]; exact h.small k hk
end Go.Proofs.YtccndnckceagfabDoor

namespace Go.Proofs.YtccndnckceagfabDoor
open Go.RowKit

theorem ybuild_en (w : World) (E : Nat → Nat) {a : Act} {o : Oper} {x : Operand} (ho : o.op = .build 73 #[(0, .const (.bool true)), (1, .const (.bool true)), (2, x)]) (hx : a.eval x = .agg (prL E).toArray) :
    (execOp a.eval o).run Tryd.prog w = .ok (.value (.agg (enL ⟨true, true, E⟩).toArray)) w := by
  have h0 : a.eval (.const (.bool true)) = .bool true := rfl
  unfold execOp
  simp only [ho, Sem.run_bind, List.map_toArray, List.map_cons, List.map_nil, h0, hx, run_build_en w true true E, Result.andThen_ok, Sem.run_pure]
theorem run_guard_pr (w : World) (x y : Operand) (a b : Value) (ha : ∃ u, a = .agg u) (hb : ∃ u, b = .agg u) : (eqGuard .neq 71 x y a b).run Tryd.prog w = .ok () w := by
  obtain ⟨u, rfl⟩ := ha
  obtain ⟨v, rfl⟩ := hb
  have h : Tryd.prog.eqGuardType Tryd.prog.depth 71 = false := by kernel_rfl
  simp [eqGuard, h]
theorem yneq_pr (w : World) (E F : Nat → Nat) (hE : Sp.Small E) (hF : Sp.Small F) {a : Act} {o : Oper} {x y : Operand} (ho : o.op = .binOp .neq 71 x y 71) (hx : a.eval x = .agg (prL E).toArray) (hy : a.eval y = .agg (prL F).toArray) :
    (execOp a.eval o).run Tryd.prog w = .ok (.value (.bool (!(Sp.eqP E F)))) w := by
  unfold execOp
  simp only [ho, hx, hy, Sem.run_bind, run_guard_pr w x y _ _ ⟨_, rfl⟩ ⟨_, rfl⟩, Result.andThen_ok, binOp, run_equal_pr E F hE hF w, Sem.run_pure]
/-- what holds while an entry is made -/
def SHand (b eb : Nat) (E : Nat → Nat) (w : World) : Prop := (∃ K, TbAt w b K) ∧ PrAt w eb E

set_option maxRecDepth 20000 in
set_option maxHeartbeats 2000000 in
theorem handOn_any (b eb : Nat) (K : Nat → Sp.Ent) (E : Nat → Nat) (q : Int) (w : World) (h : TbAt w b K) (hE : PrAt w eb E) :
    Calls Tryd.prog 32 #[.pointer (some ⟨b, 0, none⟩), .int .i64 q, .pointer (some ⟨eb, 0, none⟩)] w fun e w' => e = .returned (.tuple #[]) ∧ TbAt w' b (Sp.handE K q E) ∧ But w.heap.size b w w' := by
  have HT := hid h
  have HE := hid hE
  have hne : eb ≠ b := by
    rintro rfl
    obtain ⟨c, h5, _⟩ := h.row
    obtain ⟨c', h6, _⟩ := hE.row
    rw [h5] at h6
    simp only [Option.some.injEq, Obj.cells.injEq] at h6
    exact absurd h6.2.1 (by decide)
  clear h hE
  by_cases hq : 0 ≤ q ∧ q < 10
  · obtain ⟨i, rfl⟩ := Int.eq_ofNat_of_zero_le hq.1
    have hi : i < 10 := by omega
    have c0 := HT.out.r hi
    cases hr : (K i).r
    · rw [hr] at c0
      have HK := hid (show Sp.handE K (i : Int) E = Sp.putE K i ⟨true, true, E⟩ by unfold Sp.handE; rw [if_pos hq, Int.toNat_natCast, if_neg (by rw [hr]; simp)])
      clear hr hq
      go_enter Tryd.func32, Tryd.ntmps32
      go_upto_region 2 with fail
      have HS : Hid (SHand b eb E w) := hid ⟨⟨_, HT.out⟩, HE.out⟩
      have bi1 : (0 : Int) ≤ (i : Int) := by omega
      have bi2 : (i : Int) < 10 := by omega
      refine wp_region_noPanic ?_
      refine wp_region_held (S := SHand b eb E) (by kernel_rfl) ?_
      show wpAnyH _ _ _ _ _ _ _ _ w.drew
      have HSD : SHand b eb E w.drew := ⟨⟨K, HT.out.of_block rfl⟩, HE.out.of_block rfl⟩
      refine wpAnyH_take (i := 0) (oi := { dst := some 21, op := Op.move (Operand.tmp 0), type := 106, pos := "accept.go:78", after := #[], guard := none }) (v := ?_) rfl (by kernel_rfl) (by kernel_rfl) (by kernel_rfl) (fun _ _ _ h => h) (Or.inl ⟨by rfl, ?_⟩) HSD ?_
      rotate_left 1
      · intro w _
        go_simp
        try with_reducible rfl
      simp only [Act.put, List.setIfInBounds_toArray, List.set_cons_zero, List.set_cons_succ]
      refine wpAnyH_take (i := 1) (oi := { dst := some 22, op := Op.move (Operand.tmp 1), type := 3, pos := "accept.go:78", after := #[], guard := none }) (v := ?_) rfl (by kernel_rfl) (by kernel_rfl) (by kernel_rfl) (fun _ _ _ h => h) (Or.inl ⟨by rfl, ?_⟩) HSD ?_
      rotate_left 1
      · intro w _
        go_simp
        try with_reducible rfl
      simp only [Act.put, List.setIfInBounds_toArray, List.set_cons_zero, List.set_cons_succ]
      refine wpAnyH_take (i := 2) (oi := { dst := some 23, op := Op.move (Operand.tmp 2), type := 79, pos := "accept.go:78", after := #[], guard := none }) (v := ?_) rfl (by kernel_rfl) (by kernel_rfl) (by kernel_rfl) (fun _ _ _ h => h) (Or.inl ⟨by rfl, ?_⟩) HSD ?_
      rotate_left 1
      · intro w _
        go_simp
        try with_reducible rfl
      simp only [Act.put, List.setIfInBounds_toArray, List.set_cons_zero, List.set_cons_succ]
      refine wpAnyH_take (i := 3) (oi := { dst := some 24, op := Op.nilCheck (Operand.tmp 23), type := 0, pos := "accept.go:78", after := #[{ on := 2, ground := Ground.data }], guard := none }) (v := ?_) rfl (by kernel_rfl) (by kernel_rfl) (by kernel_rfl) (fun _ _ _ h => h) (Or.inl ⟨by rfl, ?_⟩) HSD ?_
      rotate_left 1
      · intro w _
        go_simp
        try with_reducible rfl
      simp only [Act.put, List.setIfInBounds_toArray, List.set_cons_zero, List.set_cons_succ]
      refine wpAnyH_take (i := 4) (oi := { dst := some 25, op := Op.load 71 (Operand.tmp 24), type := 71, pos := "accept.go:78", after := #[{ on := 3, ground := Ground.data }], guard := none }) (v := .agg (prL E).toArray) rfl (by kernel_rfl) (by kernel_rfl) (by kernel_rfl) (fun _ _ _ h => h) (yieldsIf_load_mid (by rfl) 71 (.tmp 24) rfl eb 0 (by rfl) (prL E) _ (fun w hS => hS.2.in.range) Tryd.underlying71 rfl (by rw [prL_len]; exact info_pr)) HSD ?_
      simp only [Act.put, List.setIfInBounds_toArray, List.set_cons_zero, List.set_cons_succ]
      refine wpAnyH_take (i := 5) (oi := { dst := some 26, op := Op.build 73 #[(0, Operand.const (Value.bool true)), (1, Operand.const (Value.bool true)), (2, Operand.tmp 25)], type := 73, pos := "accept.go:78", after := #[{ on := 4, ground := Ground.data }], guard := none }) (v := .agg (enL ⟨true, true, E⟩).toArray) rfl (by kernel_rfl) (by kernel_rfl) (by kernel_rfl) (fun _ _ _ h => h) (Or.inl ⟨by rfl, fun w _ => ybuild_en w E (x := .tmp 25) rfl (by rfl)⟩) HSD ?_
      simp only [Act.put, List.setIfInBounds_toArray, List.set_cons_zero, List.set_cons_succ]
      refine wpAnyH_take (i := 6) (oi := { dst := some 27, op := Op.nilCheck (Operand.tmp 21), type := 0, pos := "accept.go:78", after := #[{ on := 0, ground := Ground.data }], guard := none }) (v := ?_) rfl (by kernel_rfl) (by kernel_rfl) (by kernel_rfl) (fun _ _ _ h => h) (Or.inl ⟨by rfl, ?_⟩) HSD ?_
      rotate_left 1
      · intro w _
        go_simp
        try with_reducible rfl
      simp only [Act.put, List.setIfInBounds_toArray, List.set_cons_zero, List.set_cons_succ]
      refine wpAnyH_take (i := 7) (oi := { dst := some 28, op := Op.fieldAddr 76 (Operand.tmp 27) 0, type := 0, pos := "accept.go:78", after := #[{ on := 6, ground := Ground.data }], guard := none }) (v := ?_) rfl (by kernel_rfl) (by kernel_rfl) (by kernel_rfl) (fun _ _ _ h => h) (Or.inl ⟨by rfl, ?_⟩) HSD ?_
      rotate_left 1
      · intro w _
        go_simp
        try with_reducible rfl
      simp only [Act.put, List.setIfInBounds_toArray, List.set_cons_zero, List.set_cons_succ]
      refine wpAnyH_take (i := 8) (oi := { dst := some 29, op := Op.indexAddr 74 (Operand.tmp 28) (Operand.tmp 22), type := 0, pos := "accept.go:78", after := #[{ on := 7, ground := Ground.data }, { on := 1, ground := Ground.data }, { on := 0, ground := Ground.phase }, { on := 1, ground := Ground.phase }, { on := 2, ground := Ground.phase }, { on := 3, ground := Ground.phase }, { on := 4, ground := Ground.phase }, { on := 5, ground := Ground.phase }], guard := none }) (v := ?_) rfl (by kernel_rfl) (by kernel_rfl) (by kernel_rfl) (fun _ _ _ h => h) (Or.inl ⟨by rfl, ?_⟩) HSD ?_
      rotate_left 1
      · intro w _
        go_simp
        try with_reducible rfl
      simp only [Act.put, List.setIfInBounds_toArray, List.set_cons_zero, List.set_cons_succ]
      refine wpAnyH_all (rs := [9]) (by kernel_rfl) (by simp) (AllReadyH.cons (o := { dst := none, op := Op.store 73 (Operand.tmp 29) (Operand.tmp 26), type := 0, pos := "accept.go:78", after := #[{ on := 8, ground := Ground.data }, { on := 5, ground := Ground.data }, { on := 0, ground := Ground.phase }, { on := 1, ground := Ground.phase }, { on := 2, ground := Ground.phase }, { on := 3, ground := Ground.phase }, { on := 4, ground := Ground.phase }, { on := 5, ground := Ground.phase }], guard := none }) rfl (fun K' hK => ?_) AllReadyH.nil)
      rw [if_pos (by rfl)]
      have hK := hid hK
      have hsz : (enL ⟨true, true, E⟩).toArray.size = 64 := by simp [enL_len]
      refine wp_store_mid 73 (.tmp 29) (.tmp 26) rfl b (i * 64) (enL ⟨true, true, E⟩).toArray (by rfl) (by rfl) (by rw [hsz]; exact there_row (HT.out.of_block (w' := w.drew) rfl).row (i * 64) 64 (by omega)) (by rw [hsz]; exact info_en) (all_oneCell_toArray (enL_one ⟨true, true, E⟩)) ?_
      have ht2 : TbAt (w.drew.setCells b (i * 64) (enL ⟨true, true, E⟩)) b (Sp.putE K i ⟨true, true, E⟩) := (HT.out.of_block (w' := w.drew) rfl).putEnt ⟨true, true, E⟩ HE.out.small
      have hon := only_setCells w.drew b (i * 64) (enL ⟨true, true, E⟩)
      have hS2 : SHand b eb E (w.drew.setCells b (i * 64) (enL ⟨true, true, E⟩)) := ⟨⟨_, ht2⟩, (HE.out.of_block (w' := w.drew) rfl).of_block (hon.block eb hne)⟩
      have HT2 := hid ht2
      have HB2 := hid (show But w.heap.size b w (w.drew.setCells b (i * 64) (enL ⟨true, true, E⟩)) from ⟨hon.os, hon.tape, hon.output, by rw [hon.size]; exact Nat.le_refl _, fun k _ hk => hon.block k hk⟩)
      refine hK.out _ _ hS2 (fun _ => ?_)
      clear hK hS2 hon HSD ht2
      refine wpAnyH_done (by kernel_rfl) ?_ _
      refine NoPanic.normal ?_
      have e2 : (enL ⟨true, true, E⟩).toArray.toList = enL ⟨true, true, E⟩ := rfl
      rw [e2]
      generalize w.drew.setCells b (i * 64) (enL ⟨true, true, E⟩) = w2 at *
      go_wp2_with fail
      refine bodyPost_ret (v := .tuple #[]) (by simp [results, Tryd.results32]) rfl ⟨rfl, by rw [HK.out]; exact HT2.out, HB2.out⟩
    · rw [hr] at c0
      have HK := hid (show Sp.handE K (i : Int) E = Sp.putE K i ⟨true, (K i).w || !(Sp.eqP (Sp.meetP (K i).e E) (K i).e), Sp.meetP (K i).e E⟩ by unfold Sp.handE; rw [if_pos hq, Int.toNat_natCast, if_pos hr])
      have HR := hid hr
      clear hr hq
      go_enter Tryd.func32, Tryd.ntmps32
      go_upto_region 3 with fail
      have hN0 := HT.out.lt
      have hN1 := HE.out.lt
      generalize hN : w.heap.size = N at *
      go_upto_region 4 with (first | (refine wpList_load_pr rfl (.tmp 35) rfl b (i * 64 + 2) _ _ _ (K i).e (by rfl) (HT.out.pr hi) ?_) | (refine wpList_alloc_pr rfl rfl ?_; intro w1 hs1 hb1 hz1; rw [hN] at hs1 hb1 hz1; have HS1 := hid hs1; have HB1 := hid hb1; clear hs1 hb1) | (refine wpList_store_pr rfl (.tmp 6) (.tmp 36) rfl N (K i).e _ (HT.out.small i hi) (by rw [← hN]; rfl) (by rfl) HS1.out ?_; intro w2 hs2 ho2; have HS2 := hid hs2; have HO2 := hid ho2; clear hs2 ho2))
      have HT2 := hid ((HT.out.of_block (HB1.out.block b hN0)).of_block (HO2.out.block b (by omega)))
      have HE2 := hid ((HE.out.of_block (HB1.out.block eb hN1)).of_block (HO2.out.block eb (by omega)))
      have HBW2 := hid (HB1.out.trans (HO2.out.below (Nat.le_refl _)))
      have hz2 : w2.heap.size = N + 1 := by rw [HO2.out.size, hz1]
      go_upto_region 5 with (go_at_call 50; refine (meet_any b (i * 64 + 2) eb _ 640 (tabF K) (K i).e E w2 HT2.out.row (by omega) (fun p hp => tabF_e K i p hp) (HT.out.small i hi) HE2.out hne).mono ?_; rintro e w3 ⟨rfl, hr3, ho3⟩; have HT3 := hid (HT2.out.meets hi E hr3); have HO3 := hid ho3; clear hr3 ho3)
      have HS3 := hid (HS2.out.of_block (HO3.out.block N (by omega)))
      have HBW3 := hid ((But.of_below (p := b) HBW2.out).trans HO3.out.toBut)
      have bi1 : (0 : Int) ≤ (i : Int) := by omega
      have bi2 : (i : Int) < 10 := by omega
      generalize hK2 : Sp.putE K i ⟨(K i).r, (K i).w, Sp.meetP (K i).e E⟩ = K2 at *
      have HKE := hid (show (K2 i).e = Sp.meetP (K i).e E by rw [← hK2]; unfold Sp.putE; rw [if_pos rfl])
      refine wp_region_noPanic ?_
      refine wp_region_held (S := fun w' => TbAt w' b K2 ∧ PrAt w' N (K i).e) (by kernel_rfl) ?_
      show wpAnyH _ _ _ _ _ _ _ _ w3.drew
      have HSD : TbAt w3.drew b K2 ∧ PrAt w3.drew N (K i).e := ⟨HT3.out.of_block rfl, HS3.out.of_block rfl⟩
      refine wpAnyH_take (i := 0) (oi := { dst := some 45, op := Op.move (Operand.tmp 0), type := 106, pos := "accept.go:83", after := #[], guard := none }) (v := ?_) rfl (by kernel_rfl) (by kernel_rfl) (by kernel_rfl) (fun _ _ _ h => h) (Or.inl ⟨by rfl, ?_⟩) HSD ?_
      rotate_left 1
      · intro w _
        go_simp
        try with_reducible rfl
      simp only [Act.put, List.setIfInBounds_toArray, List.set_cons_zero, List.set_cons_succ]
      refine wpAnyH_take (i := 1) (oi := { dst := some 46, op := Op.move (Operand.tmp 1), type := 3, pos := "accept.go:83", after := #[], guard := none }) (v := ?_) rfl (by kernel_rfl) (by kernel_rfl) (by kernel_rfl) (fun _ _ _ h => h) (Or.inl ⟨by rfl, ?_⟩) HSD ?_
      rotate_left 1
      · intro w _
        go_simp
        try with_reducible rfl
      simp only [Act.put, List.setIfInBounds_toArray, List.set_cons_zero, List.set_cons_succ]
      refine wpAnyH_take (i := 2) (oi := { dst := some 47, op := Op.nilCheck (Operand.tmp 45), type := 0, pos := "accept.go:83", after := #[{ on := 0, ground := Ground.data }], guard := none }) (v := ?_) rfl (by kernel_rfl) (by kernel_rfl) (by kernel_rfl) (fun _ _ _ h => h) (Or.inl ⟨by rfl, ?_⟩) HSD ?_
      rotate_left 1
      · intro w _
        go_simp
        try with_reducible rfl
      simp only [Act.put, List.setIfInBounds_toArray, List.set_cons_zero, List.set_cons_succ]
      refine wpAnyH_take (i := 3) (oi := { dst := some 48, op := Op.fieldAddr 76 (Operand.tmp 47) 0, type := 0, pos := "accept.go:83", after := #[{ on := 2, ground := Ground.data }], guard := none }) (v := ?_) rfl (by kernel_rfl) (by kernel_rfl) (by kernel_rfl) (fun _ _ _ h => h) (Or.inl ⟨by rfl, ?_⟩) HSD ?_
      rotate_left 1
      · intro w _
        go_simp
        try with_reducible rfl
      simp only [Act.put, List.setIfInBounds_toArray, List.set_cons_zero, List.set_cons_succ]
      refine wpAnyH_take (i := 4) (oi := { dst := some 49, op := Op.indexAddr 74 (Operand.tmp 48) (Operand.tmp 46), type := 0, pos := "accept.go:83", after := #[{ on := 3, ground := Ground.data }, { on := 1, ground := Ground.data }], guard := none }) (v := ?_) rfl (by kernel_rfl) (by kernel_rfl) (by kernel_rfl) (fun _ _ _ h => h) (Or.inl ⟨by rfl, ?_⟩) HSD ?_
      rotate_left 1
      · intro w _
        go_simp
        try with_reducible rfl
      simp only [Act.put, List.setIfInBounds_toArray, List.set_cons_zero, List.set_cons_succ]
      refine wpAnyH_take (i := 5) (oi := { dst := some 50, op := Op.fieldAddr 73 (Operand.tmp 49) 2, type := 0, pos := "accept.go:83", after := #[{ on := 4, ground := Ground.data }], guard := none }) (v := ?_) rfl (by kernel_rfl) (by kernel_rfl) (by kernel_rfl) (fun _ _ _ h => h) (Or.inl ⟨by rfl, ?_⟩) HSD ?_
      rotate_left 1
      · intro w _
        go_simp
        try with_reducible rfl
      simp only [Act.put, List.setIfInBounds_toArray, List.set_cons_zero, List.set_cons_succ]
      refine wpAnyH_take (i := 6) (oi := { dst := some 51, op := Op.load 71 (Operand.tmp 50), type := 71, pos := "accept.go:83", after := #[{ on := 5, ground := Ground.data }], guard := none }) (v := .agg (prL (K2 i).e).toArray) rfl (by kernel_rfl) (by kernel_rfl) (by kernel_rfl) (fun _ _ _ h => h) (yieldsIf_load_mid (by rfl) 71 (.tmp 50) rfl b (i * 64 + 2) (by rfl) (prL (K2 i).e) _ (fun w hS => (hS.1.pr hi).range) Tryd.underlying71 rfl (by rw [prL_len]; exact info_pr)) HSD ?_
      simp only [Act.put, List.setIfInBounds_toArray, List.set_cons_zero, List.set_cons_succ]
      refine wpAnyH_take (i := 7) (oi := { dst := some 52, op := Op.load 71 (Operand.tmp 6), type := 71, pos := "accept.go:83", after := #[], guard := none }) (v := .agg (prL (K i).e).toArray) rfl (by kernel_rfl) (by kernel_rfl) (by kernel_rfl) (fun _ _ _ h => h) (yieldsIf_load_mid (by rfl) 71 (.tmp 6) rfl N 0 (by rw [← hN]; rfl) (prL (K i).e) _ (fun w hS => hS.2.in.range) Tryd.underlying71 rfl (by rw [prL_len]; exact info_pr)) HSD ?_
      simp only [Act.put, List.setIfInBounds_toArray, List.set_cons_zero, List.set_cons_succ]
      refine wpAnyH_take (i := 8) (oi := { dst := some 53, op := Op.binOp BinOp.neq 71 (Operand.tmp 51) (Operand.tmp 52) 71, type := 4, pos := "accept.go:83", after := #[{ on := 6, ground := Ground.data }, { on := 7, ground := Ground.data }], guard := none }) (v := .bool (!(Sp.eqP (K2 i).e (K i).e))) rfl (by kernel_rfl) (by kernel_rfl) (by kernel_rfl) (fun _ _ _ h => h) (Or.inl ⟨by rfl, fun w hS => yneq_pr w _ _ (hS.1.small i hi) hS.2.small (x := .tmp 51) (y := .tmp 52) rfl (by rfl) (by rfl)⟩) HSD ?_
      simp only [Act.put, List.setIfInBounds_toArray, List.set_cons_zero, List.set_cons_succ]
      refine wpAnyH_done (by kernel_rfl) ?_ _
      refine NoPanic.normal ?_
      have HK3 := hid (show Sp.handE K (i : Int) E = Sp.putE K i ⟨true, (K i).w || !(Sp.eqP (K2 i).e (K i).e), Sp.meetP (K i).e E⟩ by rw [HK.out, HKE.out])
      have HK2 := hid hK2
      have HTD := hid HSD.1
      have HBD := hid HBW3.out.toDrew
      clear hK2 HK HSD
      generalize Sp.eqP (K2 i).e (K i).e = v at *
      have c1 := HTD.out.w hi
      have z1 := World.rowIs.frozen HTD.out.row (i * 64 + 1)
      cases v
      · go_wp2_with fail
        go_end0
        refine ⟨rfl, ?_, ?_⟩
        · have e : Sp.handE K (i : Int) E = Sp.putE K2 i ⟨(K2 i).r, true, (K2 i).e⟩ := by
            rw [HK3.out, HKE.out, ← HK2.out]
            funext j
            unfold Sp.putE
            by_cases hj : j = i
            · simp [hj, HR.out]
            · simp [hj]
          rw [e]
          exact HTD.out.setW hi true
        · rw [hN]; exact (HBW3.out.trans (But.set w3 (.bool true))).toDrew
      · go_wp2_with fail
        go_end0
        refine ⟨rfl, ?_, by rw [hN]; exact HBD.out⟩
        have e : Sp.handE K (i : Int) E = K2 := by
          rw [HK3.out, ← HK2.out, HR.out]
          simp
        rw [e]
        exact HTD.out
  · have HK := hid (show Sp.handE K q E = K by unfold Sp.handE; rw [if_neg hq])
    by_cases hq0 : q < 0
    · clear hq
      go_enter Tryd.func32, Tryd.ntmps32
      go_wp2_with fail
      refine bodyPost_ret (v := .tuple #[]) (by simp [results, Tryd.results32]) rfl ⟨rfl, by rw [HK.out]; exact HT.out, But.refl _ _ _⟩
    · have hq1 : 10 ≤ q := by omega
      clear hq
      go_enter Tryd.func32, Tryd.ntmps32
      go_wp2_with fail
      refine bodyPost_ret (v := .tuple #[]) (by simp [results, Tryd.results32]) rfl ⟨rfl, by rw [HK.out]; exact HT.out, But.refl _ _ _⟩
end Go.Proofs.YtccndnckceagfabDoor

namespace Go.Proofs.YtccndnckceagfabDoor.Sp
/-- block i played: what is known then, and none where it is not well played -/
def playK (C : List Ins) (L : List (Nat × Nat)) (D : List Ins) (M : List (Nat × Nat)) (K : Nat → Ent) (i : Nat) : Option (Nat → Ent) :=
  (playB C L D M (K i).e i).map fun F => handE (handE (putE K i ⟨(K i).r, false, (K i).e⟩) (C.getD (L.getD i (0, 0)).2 ⟨0, 0, 0, 0, 0, 0, 0⟩).k F) (C.getD (L.getD i (0, 0)).2 ⟨0, 0, 0, 0, 0, 0, 0⟩).m F
end Go.Proofs.YtccndnckceagfabDoor.Sp

namespace Go.Proofs.YtccndnckceagfabDoor
open Go.RowKit

/-- the programs lie as they lay, where the table alone has turned -/
theorem ProgAt.butT {w w' : World} {B b p : Nat} {K : Nat → Sp.Ent} {C : List Sp.Ins} {L : List (Nat × Nat)} (h : ProgAt w B p C L) (hS : TbAt w b K) (f : But w.heap.size b w w') : ProgAt w' B p C L := by
  obtain ⟨vC, vB, h1, h2, h3, h4⟩ := h
  obtain ⟨c, hc, _⟩ := hS.row
  refine ⟨vC, vB, h1.of_block (f.block _ h1.lt ?_), own_move h2 (fun k hk => f.block k (h2.lt k hk).2 ?_), own_move h3 (fun k hk => f.block k (h3.lt k hk).2 ?_), h4⟩
  · rintro rfl
    obtain ⟨c', h5, _⟩ := h1
    rw [hc] at h5
    simp only [Option.some.injEq, Obj.cells.injEq] at h5
    exact absurd h5.2.1 (by decide)
  · rintro rfl
    obtain ⟨c', h5⟩ := own_block h2 hk
    rw [hc] at h5
    simp only [Option.some.injEq, Obj.cells.injEq] at h5
    exact absurd h5.2.1 (by decide)
  · rintro rfl
    obtain ⟨c', h5⟩ := own_block h3 hk
    rw [hc] at h5
    simp only [Option.some.injEq, Obj.cells.injEq] at h5
    exact absurd h5.2.1 (by decide)
/-- the cells that lead to the last instruction of a block -/
theorem ProgAt.last {w : World} {B p : Nat} {C : List Sp.Ins} {L : List (Nat × Nat)} (h : ProgAt w B p C L) (i : Nat) (hi : i < L.length) (hl : L[i].2 < C.length) :
    ∃ gC kC gL kL, w.cell? ⟨p, 0, none⟩ = some (.slice (some ⟨gC, 0, none⟩) C.length kC) ∧ w.cell? ⟨p, 1, none⟩ = some (.slice (some ⟨gL, 0, none⟩) L.length kL) ∧ w.cell? ⟨gL, i * 2 + 1, none⟩ = some (.int .i64 (L[i].2 : Nat)) ∧ w.cell? ⟨gC, L[i].2 * 7 + 5, none⟩ = some (.int .i64 C[L[i].2].k) ∧ w.cell? ⟨gC, L[i].2 * 7 + 6, none⟩ = some (.int .i64 C[L[i].2].m) := by
  obtain ⟨vC, vL, s1, s2, s3, _⟩ := h
  obtain ⟨gC, kC, rfl⟩ := Joins.ownsRow_form s2 (by omega)
  obtain ⟨gL, kL, rfl⟩ := Joins.ownsRow_form s3 (by omega)
  obtain ⟨_, d2⟩ := blk_cells s3 i hi
  obtain ⟨_, _, _, _, _, c5, c6⟩ := ins_cells s2 L[i].2 hl
  exact ⟨gC, kC, gL, kL, s1.cell (i := 0) (by omega), s1.cell (i := 1) (by omega), d2, c5, c6⟩
def PkPost (b : Nat) (r : Option (Nat → Sp.Ent)) (w : World) (e : Ending) (w' : World) : Prop :=
  e = .returned (.bool r.isSome) ∧ (∀ K, r = some K → TbAt w' b K) ∧ But w.heap.size b w w'

set_option maxRecDepth 20000 in
set_option maxHeartbeats 4000000 in
theorem playBlock_any (b Bs ps Bt pt i : Nat) (C : List Sp.Ins) (L : List (Nat × Nat)) (D : List Sp.Ins) (M : List (Nat × Nat)) (K : Nat → Sp.Ent) (w : World) (h : TbAt w b K) (hS : ProgAt w Bs ps C L) (hT : ProgAt w Bt pt D M)
    (hC0 : 0 < C.length) (hC : C.length ≤ 1100) (hD0 : 0 < D.length) (hD : D.length ≤ 1100) (hi : i < 10) (hL : i < L.length) (hM : i < M.length) (hL1 : L[i].1 ≤ C.length) (hL2 : L[i].2 < C.length) (hM1 : M[i].1 ≤ D.length) :
    Calls Tryd.prog 34 #[.pointer (some ⟨b, 0, none⟩), .pointer (some ⟨ps, 0, none⟩), .pointer (some ⟨pt, 0, none⟩), .int .i64 (i : Nat)] w fun e w' => PkPost b (Sp.playK C L D M K i) w e w' := by
  have HT := hid h
  have HS := hid hS
  have HTT := hid hT
  have hbl := h.lt
  have HPK := hid (show Sp.playK C L D M K i = (Sp.playB C L D M (K i).e i).map fun F => Sp.handE (Sp.handE (Sp.putE K i ⟨(K i).r, false, (K i).e⟩) C[L[i].2].k F) C[L[i].2].m F by
    unfold Sp.playK
    rw [show L.getD i (0, 0) = L[i] by rw [List.getD_eq_getElem?_getD, List.getElem?_eq_getElem hL]; rfl, show C.getD L[i].2 ⟨0, 0, 0, 0, 0, 0, 0⟩ = C[L[i].2] by rw [List.getD_eq_getElem?_getD, List.getElem?_eq_getElem hL2]; rfl])
  obtain ⟨gC, kC, gL, kL, x1, x2, x3, x4, x5⟩ := hS.last i hL hL2
  have c1 := h.w hi
  have z1 := World.rowIs.frozen h.row (i * 64 + 1)
  clear h hS hT
  have t1 : decide ((i : Int) < 0) = false := by simp
  have t2 : decide ((10 : Int) ≤ (i : Int)) = false := by simp; omega
  have t3 : decide (L.length ≤ i) = false := by simp; omega
  go_enter Tryd.func34, Tryd.ntmps34
  go_upto_region 4 with fail
  have HT1 := hid (HT.out.setW hi false)
  have HB1 := hid (show But w.heap.size b w (w.setCell ⟨b, i * 64 + 1, none⟩ (.bool false)) from But.set w (.bool false))
  have hsz1 : (w.setCell ⟨b, i * 64 + 1, none⟩ (.bool false)).heap.size = w.heap.size := (Only.set b (i * 64 + 1) w (.bool false)).size
  have HS1 := hid (HS.out.butT HT.out HB1.out)
  have HTT1 := hid (HTT.out.butT HT.out HB1.out)
  clear x1 x2 x3 x4 x5 c1 z1
  generalize w.setCell ⟨b, i * 64 + 1, none⟩ (.bool false) = w1 at *
  generalize hN : w.heap.size = N at *
  generalize hK1 : Sp.putE K i ⟨(K i).r, false, (K i).e⟩ = K1 at *
  have HKE := hid (show (K1 i).e = (K i).e by rw [← hK1]; unfold Sp.putE; rw [if_pos rfl])
  clear hK1
  go_upto_region 5 with (first | (refine wpList_load_pr rfl (.tmp 37) rfl b (i * 64 + 2) _ _ _ (K1 i).e (by rfl) (HT1.out.pr hi) ?_) | (refine wpList_alloc_pr rfl rfl ?_; intro w2 hs2 hb2 hz2; rw [hsz1] at hs2 hb2 hz2; have HP2 := hid hs2; have HB2 := hid hb2; clear hs2 hb2) | (refine wpList_store_pr rfl (.tmp 9) (.tmp 38) rfl N (K1 i).e _ (HT1.out.small i hi) (by rw [← hsz1]; rfl) (by rfl) HP2.out ?_; intro w3 hs3 ho3; have HP3 := hid hs3; have HO3 := hid ho3; clear hs3 ho3))
  have hbw3 : Below N w1 w3 := HB2.out.trans (HO3.out.below (Nat.le_refl _))
  have hz3 : w3.heap.size = N + 1 := by rw [HO3.out.size, hz2]
  have HT3 := hid (HT1.out.of_block (hbw3.block b hbl))
  have HS3 := hid (HS1.out.move (by rw [hsz1]; exact hbw3))
  have HTT3 := hid (HTT1.out.move (by rw [hsz1]; exact hbw3))
  have HBW3 := hid (HB1.out.trans (But.of_below hbw3))
  have HPL := hid (play_any N Bs ps Bt pt i C L D M (K1 i).e w3 HP3.out HS3.out HTT3.out hC0 hC hD0 hD hL hM hL1 (by omega) hM1)
  rw [HKE.out] at HPL
  clear hbw3
  generalize Sp.playB C L D M (K i).e i = r at *
  cases r with
  | none =>
    go_wp2_with (go_at_call 51; refine HPL.out.mono ?_; rintro e w4 ⟨rfl, _, hb4⟩; have HB4 := hid hb4; clear hb4)
    go_ret
    refine ⟨by rw [HPK.out]; rfl, fun K' hK' => by rw [HPK.out] at hK'; simp at hK', ?_⟩
    rw [hN]
    exact HBW3.out.trans ⟨HB4.out.os, HB4.out.tape, HB4.out.output, HB4.out.size, fun k hk _ => HB4.out.block k (by omega) (by omega)⟩
  | some F =>
    go_upto_region 7 with (go_at_call 51; refine HPL.out.mono ?_; rintro e w4 ⟨rfl, hp4, hb4⟩; have HP4 := hid (hp4 F rfl); have HB4 := hid hb4; clear hp4 hb4)
    have HT4 := hid (HT3.out.of_block (HB4.out.block b (by omega) (by omega)))
    have HS4 := hid (HS3.out.but HP3.out HB4.out)
    have HBW4 := hid (HBW3.out.trans (show But N b w3 w4 from ⟨HB4.out.os, HB4.out.tape, HB4.out.output, HB4.out.size, fun k hk _ => HB4.out.block k (by omega) (by omega)⟩))
    have hz4 : N + 1 ≤ w4.heap.size := by rw [← hz3]; exact HB4.out.size
    obtain ⟨gC, kC, gL, kL, x1, x2, x3, x4, x5⟩ := HS4.out.last i hL hL2
    have HL2 := hid hL2
    generalize hI : C[L[i].2] = I at *
    have HI := hid hI
    clear hI
    have u1 : decide (((L[i].2 : Nat) : Int) < 0) = false := by simp
    have u2 : decide (C.length ≤ L[i].2) = false := by simp; omega
    go_upto_region 11 with (go_at_call 32; refine (handOn_any b N K1 F I.k w4 HT4.out HP4.out).mono ?_; rintro e w5 ⟨rfl, ht5, hb5⟩; have HT5 := hid ht5; have HB5 := hid hb5; clear ht5 hb5)
    have HS5 := hid (HS4.out.butT HT4.out HB5.out)
    have HP5 := hid (HP4.out.of_block (HB5.out.block N (by omega) (by omega)))
    have HBW5 := hid (HBW4.out.trans (HB5.out.weaken (by omega)))
    have hz5 := HB5.out.size
    clear x1 x2 x3 x4 x5
    obtain ⟨gC', kC', gL', kL', x1, x2, x3, x4, x5⟩ := HS5.out.last i hL hL2
    replace x4 := x4.trans (congrArg (fun J : Sp.Ins => some (Value.int .i64 J.k)) HI.out)
    replace x5 := x5.trans (congrArg (fun J : Sp.Ins => some (Value.int .i64 J.m)) HI.out)
    go_wp2_with (go_at_call 32; refine (handOn_any b N _ F I.m w5 HT5.out HP5.out).mono ?_; rintro e w6 ⟨rfl, ht6, hb6⟩; have HT6 := hid ht6; have HB6 := hid hb6; clear ht6 hb6)
    go_ret
    refine ⟨by rw [HPK.out]; rfl, fun K' hK' => ?_, ?_⟩
    · rw [HPK.out] at hK'
      simp only [Option.map_some, Option.some.injEq] at hK'
      rw [← hK']
      exact HT6.out
    · rw [hN]
      exact HBW5.out.trans (HB6.out.weaken (by omega))
end Go.Proofs.YtccndnckceagfabDoor

namespace Go.Proofs.YtccndnckceagfabDoor.Sp
/-- round after round, a block that waits is played -/
def accR (C : List Ins) (L : List (Nat × Nat)) (D : List Ins) (M : List (Nat × Nat)) : Nat → (Nat → Ent) → Bool
  | 0, _ => false
  | f + 1, K => match nextB K with
    | none => true
    | some i => match playK C L D M K i with
      | none => false
      | some K' => accR C L D M f K'
def begT : Nat → Ent := handE (fun _ => noEnt) 0 startE
def accB (C : List Ins) (L : List (Nat × Nat)) (D : List Ins) (M : List (Nat × Nat)) : Bool := L.length == M.length && accR C L D M 32871 begT
/-- only blocks that are there wait -/
def InK (n : Nat) (K : Nat → Ent) : Prop := ∀ i, (K i).w = true → i < n
theorem InK.put {n : Nat} {K : Nat → Ent} (h : InK n K) {i : Nat} (hi : i < n) (x : Ent) : InK n (putE K i x) := by
  intro j hj
  unfold putE at hj
  by_cases e : j = i
  · omega
  · rw [if_neg e] at hj; exact h j hj
theorem InK.hand {n : Nat} {K : Nat → Ent} (h : InK n K) {q : Int} (hq : q < n) (E : Nat → Nat) : InK n (handE K q E) := by
  unfold handE
  split
  · rename_i hb
    split
    · exact h.put (by omega) _
    · exact h.put (by omega) _
  · exact h
theorem InK.play {C : List Ins} {L : List (Nat × Nat)} {D : List Ins} {M : List (Nat × Nat)} {K K' : Nat → Ent} {i : Nat} (h : InK L.length K) (hi : i < L.length) (hk : ∀ j (hj : j < C.length), C[j].k < L.length ∧ C[j].m < L.length) (hl : ∀ j (hj : j < L.length), L[j].2 < C.length) (hp : playK C L D M K i = some K') : InK L.length K' := by
  unfold playK at hp
  rw [Option.map_eq_some_iff] at hp
  obtain ⟨F, _, rfl⟩ := hp
  rw [show L.getD i (0, 0) = L[i] by rw [List.getD_eq_getElem?_getD, List.getElem?_eq_getElem hi]; rfl, show C.getD L[i].2 ⟨0, 0, 0, 0, 0, 0, 0⟩ = C[L[i].2]'(hl i hi) by rw [List.getD_eq_getElem?_getD, List.getElem?_eq_getElem (hl i hi)]; rfl]
  exact ((h.put hi _).hand (hk _ (hl i hi)).1 F).hand (hk _ (hl i hi)).2 F
theorem startE_small : Small startE := fun _ _ => bitN_lt _
end Go.Proofs.YtccndnckceagfabDoor.Sp

namespace Go.Proofs.YtccndnckceagfabDoor
open Go.RowKit

def tbL (K : Nat → Sp.Ent) : List Value := (List.range 640).map (tabF K)
theorem tbL_len (K : Nat → Sp.Ent) : (tbL K).length = 640 := by simp [tbL]
theorem tbL_at (K : Nat → Sp.Ent) (p : Nat) (hp : p < 640) : (tbL K)[p]? = some (tabF K p) := by simp [tbL, hp]
theorem tabF_one (K : Nat → Sp.Ent) (j : Nat) : (tabF K j).oneCell' = true := by
  unfold tabF
  split
  · rfl
  · split <;> rfl
theorem tbL_one (K : Nat → Sp.Ent) : ∀ v ∈ tbL K, v.oneCell' = true := by
  intro v hv
  simp only [tbL, List.mem_map] at hv
  obtain ⟨r, _, rfl⟩ := hv
  exact tabF_one K r
theorem info_tb : (Tryd.prog.info? 76).map (·.size) = some 640 := by kernel_rfl
theorem run_alloc_tb (w : World) : (Instr.alloc 76 true (.tuple #[])).run Tryd.prog w = .ok (.pointer (some ⟨w.heap.size, 0, none⟩)) (w.alloc (.cells (tbL (fun _ => Sp.noEnt)).toArray 76)) := by kernel_rfl
theorem run_build_tb (w : World) : (Instr.build 76 #[]).run Tryd.prog w = .ok (.agg (tbL (fun _ => Sp.noEnt)).toArray) w := by kernel_rfl
theorem tb_new (w : World) (K : Nat → Sp.Ent) (hK : ∀ i, i < 10 → Sp.Small (K i).e) : TbAt (w.alloc (.cells (tbL K).toArray 76)) w.heap.size K := by
  have h := World.rowIs_alloc w (tbL K).toArray 76 (tabF K) (fun r hr => by
    have hr' : r < 640 := by simpa [tbL_len] using hr
    rw [List.getElem?_toArray]
    exact tbL_at K r hr')
  have hs : (tbL K).toArray.size = 640 := by simp [tbL_len]
  rw [hs] at h
  exact ⟨h, hK⟩
theorem wpList_alloc_tb {ops : Array Oper} {rest : List Oper} {op : Oper} {a : Act} {w : World} {Q : Exit → Act → World → Prop} (hgd : op.guard = none) (ho : op.op = .alloc 76)
    (h : ∀ w', TbAt w' w.heap.size (fun _ => Sp.noEnt) → Below w.heap.size w w' → w'.heap.size = w.heap.size + 1 → wpList Tryd.prog ops Q rest (a.put op.dst (.pointer (some ⟨w.heap.size, 0, none⟩))) w') : wpList Tryd.prog ops Q (op :: rest) a w := by
  refine wpList_plain hgd fun K hK => ?_
  unfold Oper.wp execOp
  simp only [ho, Sem.run_bind, run_alloc_tb, Result.andThen_ok, Sem.run_pure]
  exact hK _ _ (h _ (tb_new _ _ (fun _ _ => zero_small)) ((Below.refl _ _).alloc (Nat.le_refl _) _) (by simp))
theorem wpList_build_tb {ops : Array Oper} {rest : List Oper} {op : Oper} {a : Act} {w : World} {Q : Exit → Act → World → Prop} (hgd : op.guard = none) (ho : op.op = .build 76 #[])
    (h : wpList Tryd.prog ops Q rest (a.put op.dst (.agg (tbL (fun _ => Sp.noEnt)).toArray)) w) : wpList Tryd.prog ops Q (op :: rest) a w := by
  refine wpList_plain hgd fun K hK => ?_
  unfold Oper.wp execOp
  simp only [ho, Sem.run_bind, List.map_toArray, List.map_nil, run_build_tb, Result.andThen_ok, Sem.run_pure]
  exact hK _ _ h
set_option maxRecDepth 20000 in
theorem wpList_store_tb {ops : Array Oper} {rest : List Oper} {op : Oper} {a : Act} {w : World} {Q : Exit → Act → World → Prop} (hgd : op.guard = none) (x y : Operand) (ho : op.op = .store 76 x y)
    (b : Nat) (K J : Nat → Sp.Ent) (hK : ∀ i, i < 10 → Sp.Small (K i).e) (hx : a.eval x = .pointer (some ⟨b, 0, none⟩)) (hy : a.eval y = .agg (tbL K).toArray) (hT : TbAt w b J)
    (h : ∀ w', TbAt w' b K → Only b w w' → wpList Tryd.prog ops Q rest (a.put op.dst undef) w') : wpList Tryd.prog ops Q (op :: rest) a w := by
  have hs : (tbL K).toArray.size = 640 := by simp [tbL_len]
  refine wpList_store_mid hgd 76 x y ho b 0 (tbL K).toArray hx hy (by rw [hs]; exact there_row hT.row 0 640 (by omega)) (by rw [hs]; exact info_tb) (all_oneCell_toArray (tbL_one K)) (h _ ⟨?_, hK⟩ ?_)
  · refine World.rowIs.congr (rowIs_setCells (tbL K) 0 hT.row) (fun j hj => ?_)
    rw [if_pos ⟨Nat.zero_le _, by rw [tbL_len]; omega⟩, Nat.sub_zero, List.getD_eq_getElem?_getD, tbL_at K j hj]
    rfl
  · exact only_setCells w b 0 (tbL K)

/-- what a program that was read keeps to -/
structure PrOk (C : List Sp.Ins) (L : List (Nat × Nat)) : Prop where
  c0 : 0 < C.length
  c1 : C.length ≤ 1100
  l0 : 0 < L.length
  l1 : L.length ≤ 10
  fst : ∀ j (hj : j < L.length), L[j].1 ≤ C.length
  lst : ∀ j (hj : j < L.length), L[j].2 < C.length
theorem prog_len {w : World} {B p : Nat} {C : List Sp.Ins} {L : List (Nat × Nat)} (h : ProgAt w B p C L) (h0 : 0 < L.length) : ∃ gL kL, w.cell? ⟨p, 1, none⟩ = some (.slice (some ⟨gL, 0, none⟩) L.length kL) := by
  obtain ⟨vC, vL, s1, s2, s3, _⟩ := h
  obtain ⟨gL, kL, rfl⟩ := Joins.ownsRow_form s3 h0
  exact ⟨gL, kL, s1.cell (i := 1) (by omega)⟩

set_option maxRecDepth 20000 in
set_option maxHeartbeats 4000000 in
theorem accepted_any (Bs ps Bt pt : Nat) (C : List Sp.Ins) (L : List (Nat × Nat)) (D : List Sp.Ins) (M : List (Nat × Nat)) (w : World) (hS : ProgAt w Bs ps C L) (hT : ProgAt w Bt pt D M) (hA : ArgsAt w) (hC : PrOk C L) (hD : PrOk D M) (hk : ∀ j (hj : j < C.length), C[j].k < L.length ∧ C[j].m < L.length) :
    Calls Tryd.prog 19 #[.pointer (some ⟨ps, 0, none⟩), .pointer (some ⟨pt, 0, none⟩)] w fun e w' => e = .returned (.bool (Sp.accB C L D M)) ∧ Below w.heap.size w w' := by
  obtain ⟨gL, kL, x1⟩ := prog_len hS hC.l0
  obtain ⟨gM, kM, y1⟩ := prog_len hT hD.l0
  have HS := hid hS
  have HT := hid hT
  have HA := hid hA
  have HC := hid hC
  have HD := hid hD
  have HK := hid hk
  have hw0 := hA.lt
  clear hS hT hA hC hD hk
  by_cases hlen : L.length = M.length
  case neg =>
    have t1 : ((L.length : Int) != (M.length : Int)) = true := by simp; omega
    have HF := hid (show Sp.accB C L D M = false by unfold Sp.accB; rw [show (L.length == M.length) = false by simp [hlen]]; rfl)
    clear hlen
    go_enter Tryd.func19, Tryd.ntmps19
    go_wp2_with fail
    go_quiet (fail)
    go_wp2_with fail
    go_ret
    exact ⟨by rw [HF.out]; rfl, ⟨rfl, rfl, rfl, Nat.le_refl _, fun _ _ => rfl⟩⟩
  case pos =>
  have t1 : ((L.length : Int) != (M.length : Int)) = false := by simp; omega
  have HF := hid (show Sp.accB C L D M = Sp.accR C L D M 32871 Sp.begT by unfold Sp.accB; rw [show (L.length == M.length) = true by simp [hlen]]; rfl)
  have HLEN := hid hlen
  clear hlen
  go_enter Tryd.func19, Tryd.ntmps19
  go_wp2_with fail
  go_quiet (fail)
  have HB0 := hid (show Below w.heap.size w (w.drewN nq) from ⟨rfl, rfl, rfl, Nat.le_refl _, fun _ _ => rfl⟩)
  have hz0 : (w.drewN nq).heap.size = w.heap.size := rfl
  clear x1 y1
  generalize hN : w.heap.size = N at *
  generalize w.drewN nq = w0 at *
  have HSX := hid (show ∀ wx, Below N w wx → ProgAt wx Bs ps C L ∧ ProgAt wx Bt pt D M ∧ ArgsAt wx from fun wx hb => ⟨HS.out.move (by rw [hN]; exact hb), HT.out.move (by rw [hN]; exact hb), HA.out.move (by rw [hN]; exact hb)⟩)
  go_upto_region 4 with (first | (refine wpList_build_tb rfl rfl ?_) | (refine wpList_alloc_tb rfl rfl ?_; intro w1 hs1 hb1 hz1; rw [hz0] at hs1 hb1 hz1; have HT1 := hid hs1; have HB1 := hid hb1; clear hs1 hb1) | (refine wpList_store_tb rfl (.tmp 5) (.tmp 20) rfl N (fun _ => Sp.noEnt) _ (fun _ _ => zero_small) (by rw [← hz0]; rfl) (by rfl) HT1.out ?_; intro w2 hs2 ho2; have HT2 := hid hs2; have HO2 := hid ho2; clear hs2 ho2))
  have hb2 : Below N w w2 := (HB0.out.trans HB1.out).trans (HO2.out.below (Nat.le_refl _))
  have HB2 := hid hb2
  have hz2 : w2.heap.size = N + 1 := by rw [HO2.out.size, hz1]
  have HA2 := hid (HSX.out w2 hb2).2.2
  clear hb2
  go_upto_region 5 with (first | (go_at_call 31; refine (atBeginning_any w2 HA2.out).mono ?_; rintro e w3 ⟨rfl, hb3⟩; rw [hz2] at hb3; have HB3 := hid hb3; clear hb3) | (refine wpList_alloc_pr rfl rfl ?_; intro w4 hs4 hb4 hz4; have HP4 := hid hs4; have HB4 := hid hb4; clear hs4 hb4) | (refine wpList_store_pr rfl (.tmp 6) (.tmp 21) rfl w3.heap.size Sp.startE _ Sp.startE_small (by rfl) (by rfl) HP4.out ?_; intro w5 hs5 ho5; have HP5 := hid hs5; have HO5 := hid ho5; clear hs5 ho5))
  have hz3 := HB3.out.size
  have hz5 : w5.heap.size = w3.heap.size + 1 := by rw [HO5.out.size, hz4]
  have hb5 : Below (N + 1) w2 w5 := (HB3.out.trans (HB4.out.mono (by omega))).trans (HO5.out.below (by omega))
  have HT5 := hid (HT2.out.of_block (hb5.block N (by omega)))
  have HB5 := hid (HB2.out.trans (hb5.mono (by omega)))
  clear hb5
  go_upto_region 6 with (go_at_call 32; refine (handOn_any N w3.heap.size (fun _ => Sp.noEnt) Sp.startE 0 w5 HT5.out HP5.out).mono ?_; rintro e w6 ⟨rfl, ht6, hb6⟩; have HT6 := hid ht6; have HB6 := hid (hb6.below (N := N) (Nat.le_refl _) (by omega)); clear ht6 hb6)
  have HBW := hid (HB5.out.trans HB6.out)
  have HIN := hid (show Sp.InK L.length Sp.begT from Sp.InK.hand (K := fun _ => Sp.noEnt) (fun i hi => by simp [Sp.noEnt] at hi) (q := 0) (by have := HC.out.l0; omega) Sp.startE)
  have HTB : Hid (TbAt w6 N Sp.begT) := HT6
  clear HT6 HT5 HT2 HT1 HP4 HP5
  go_wp2_with fail
  go_loopw [7, 8, 4] (fun nv bv rv wr => ∃ (rd : Nat) (K : Nat → Sp.Ent), nv = .int .i64 (rd : Nat) ∧ rv = .bool false ∧ rd ≤ 32871 ∧ TbAt wr N K ∧ Sp.InK L.length K ∧ Below N w wr ∧ Sp.accR C L D M (32871 - rd) K = Sp.accB C L D M) (fun nv _ _ _ => 32871 - (intOf nv).toNat)
  case atStart => exact ⟨0, Sp.begT, rfl, rfl, by omega, HTB.out, HIN.out, HBW.out, by rw [HF.out]⟩
  case round =>
    obtain ⟨rd, K, rfl, rfl, hrd, hTb, hIn, hB, hAc⟩ := hrel
    have HTk := hid hTb
    have HIk := hid hIn
    have HBk := hid hB
    have HAc := hid hAc
    have hwr := hB.size
    clear hTb hIn hB hAc
    by_cases hlt : rd < 32871
    · have HNX := hid (tabNext_any N K wr HTk.out)
      rw [show 32871 - rd = (32871 - (rd + 1)) + 1 by omega] at HAc
      simp only [Sp.accR] at HAc
      cases hnx : Sp.nextB K with
      | none =>
        have HI := hid (show Sp.nextI K = -1 by unfold Sp.nextI; rw [hnx])
        rw [hnx] at HAc
        rw [HI.out] at HNX
        clear hnx
        go_wp2_with (go_at_call 33; refine HNX.out.mono ?_; rintro e w' ⟨rfl, rfl⟩)
        go_ret
        exact ⟨by rw [← HAc.out]; rfl, by rw [hN]; exact HBk.out⟩
      | some i =>
        have HI := hid (show Sp.nextI K = (i : Int) by unfold Sp.nextI; rw [hnx])
        rw [hnx] at HAc
        simp only at HAc
        rw [HI.out] at HNX
        have hiw : (K i).w = true := by have := List.find?_some hnx; exact this
        have hi10 : i < 10 := by have := List.mem_of_find?_eq_some hnx; exact List.mem_range.mp this
        have hiL : i < L.length := HIk.out i hiw
        have hiM : i < M.length := by have := HLEN.out; omega
        obtain ⟨p1, p2, _⟩ := HSX.out wr HBk.out
        have HPB := hid (playBlock_any N Bs ps Bt pt i C L D M K wr HTk.out p1 p2 HC.out.c0 HC.out.c1 HD.out.c0 HD.out.c1 hi10 hiL hiM (HC.out.fst i hiL) (HC.out.lst i hiL) (HD.out.fst i hiM))
        have hneq : ((i : Int) == -1) = false := by simp
        clear hnx p1 p2 hiw
        cases hpk : Sp.playK C L D M K i with
        | none =>
          rw [hpk] at HAc HPB
          clear hpk
          go_wp2_with (first | (go_at_call 33; refine HNX.out.mono ?_; rintro e w' ⟨rfl, rfl⟩) | (go_at_call 34; refine HPB.out.mono ?_; rintro e w7 ⟨rfl, _, hb7⟩; have HB7 := hid (hb7.below (N := N) (Nat.le_refl _) (by omega)); clear hb7))
          go_ret
          exact ⟨by rw [← HAc.out]; rfl, by rw [hN]; exact HBk.out.trans HB7.out⟩
        | some K' =>
          have HIK := hid (HIk.out.play hiL HK.out (fun j hj => HC.out.lst j hj) hpk)
          rw [hpk] at HAc HPB
          clear hpk
          go_wp2_with (first | (go_at_call 33; refine HNX.out.mono ?_; rintro e w' ⟨rfl, rfl⟩) | (go_at_call 34; refine HPB.out.mono ?_; rintro e w7 ⟨rfl, ht7, hb7⟩; have HT7 := hid (ht7 K' rfl); have HB7 := hid (hb7.below (N := N) (Nat.le_refl _) (by omega)); clear ht7 hb7))
          go_roundw
          case rel => exact ⟨rd + 1, K', by go_num, rfl, by omega, HT7.out, HIK.out, HBk.out.trans HB7.out, HAc.out⟩
          case measure => simp [intOf]; omega
    · have HE := hid (show Sp.accB C L D M = false by rw [← HAc.out, show 32871 - rd = 0 by omega]; rfl)
      go_wp2_with fail
      go_ret
      exact ⟨by rw [HE.out]; rfl, by rw [hN]; exact HBk.out⟩
end Go.Proofs.YtccndnckceagfabDoor

namespace Go.Proofs.YtccndnckceagfabDoor
theorem prOk_of (k : Int) (hk : 0 ≤ k) (c : Nat → Int) (size : Nat) (hs : size ≤ 4096) (h : Sp.progB c size k = true) :
    PrOk (Sp.codeK k c (size / 4)) (Sp.blksTo c (size / 4)) ∧ ∀ j (hj : j < (Sp.codeK k c (size / 4)).length), (Sp.codeK k c (size / 4))[j].k < (Sp.blksTo c (size / 4)).length ∧ (Sp.codeK k c (size / 4))[j].m < (Sp.blksTo c (size / 4)).length := by
  obtain ⟨s1, s2, s3, s4⟩ := Sp.size_of_progB h
  have hpos := Sp.blocks_pos c (size / 4) (by omega) s4
  have hblk : ∀ j (hj : j < (Sp.blksTo c (size / 4)).length), (Sp.blksTo c (size / 4))[j].1 ≤ size / 4 ∧ (Sp.blksTo c (size / 4))[j].2 < size / 4 := by
    intro j hj
    obtain ⟨q, la, e, hb⟩ := (Sp.blks_spec c (size / 4)).1 j (by rw [← Sp.blksTo_len]; exact hj)
    rw [List.getElem?_eq_getElem hj] at e
    have e' := Option.some.inj e
    rw [e']
    have h1 := hb.le
    have h2 := hb.lt
    exact ⟨by show q ≤ _; omega, h2⟩
  refine ⟨⟨by rw [Sp.codeK_len]; omega, by rw [Sp.codeK_len]; omega, by rw [Sp.blksTo_len]; omega, by rw [Sp.blksTo_len]; exact s3, fun j hj => by rw [Sp.codeK_len]; exact (hblk j hj).1, fun j hj => by rw [Sp.codeK_len]; exact (hblk j hj).2⟩, fun j hj => ?_⟩
  have hd : ∀ i, i < size / 4 → Sp.dokK k c i = true := by
    intro i hi
    cases hb : Sp.dokK k c i
    · have := Sp.progK_bad k hk c size i hi hb
      rw [h] at this
      cases this
    · rfl
  have hall := Sp.progK_all k hk c size s1 s2 hd s3 s4
  rw [h] at hall
  have hj2 := List.all_eq_true.1 hall.symm _ (List.getElem_mem hj)
  simp only [Bool.and_eq_true] at hj2
  obtain ⟨t1, t2⟩ := hj2
  rw [Sp.blksTo_len]
  unfold Sp.isTgt at t1 t2
  simp only [Bool.or_eq_true, Bool.and_eq_true, beq_iff_eq, decide_eq_true_eq] at t1 t2
  omega
end Go.Proofs.YtccndnckceagfabDoor
