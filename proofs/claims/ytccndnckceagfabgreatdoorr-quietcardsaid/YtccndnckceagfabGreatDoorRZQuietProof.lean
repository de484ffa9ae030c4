/-
  The statement on runs that differ in secrets alone: the row, and its tied card.
-/
import Derived.Test.YtccndnckceagfabGreatDoorRHQuiK
import Derived.Test.YtccndnckceagfabGreatDoorRCards
import Derived.Test.YtccndnckceagfabGreatDoorRTie
import Derived.ProofKit
import Derived.LaidMore
import Derived.OpenShut
import Derived.Stop.Joined
import Derived.Stop.LaidErr
import Derived.Lib.LaidTab
import Derived.SevenTiedAt
import Derived.Carry
namespace Go.Proofs.YtccndnckceagfabGreatDoorR
open Go.ChangeShapes Go.WideShapes Go.ChangeAt Go.RowKit
open Go.ChangeMaps (open_string shut_string)

section
variable {H : Type} {enc : TypeId × Value → H} {P : Program} {w : World} {base : Nat} {spare : Nat → Bool} {held : Bool}
/-- five parameters -/
theorem trodAll_five {t t1 t2 t3 t4 : TypeId} {args : Array Value} {ds : List (DataW H)} {ps : List MemPlace} (h : DataW.TrodAll enc P w base spare held [t, t1, t2, t3, t4] args.toList ds ps) :
    ∃ v v1 v2 v3 v4 d d1 d2 d3 d4 p p1 p2 p3 p4, args = #[v, v1, v2, v3, v4] ∧ ds = [d, d1, d2, d3, d4] ∧ ps = p ++ (p1 ++ p2 ++ p3 ++ p4) ∧ DataW.Trod enc P w base spare held t v d p ∧ DataW.Trod enc P w base spare held t1 v1 d1 p1 ∧ DataW.Trod enc P w base spare held t2 v2 d2 p2 ∧ DataW.Trod enc P w base spare held t3 v3 d3 p3 ∧ DataW.Trod enc P w base spare held t4 v4 d4 p4 := by
  obtain ⟨v, vs, d, ds', p, q, hargs, rfl, rfl, hd, hrest⟩ := trodAll_cons h
  obtain ⟨v1, v2, v3, v4, d1, d2, d3, d4, p1, p2, p3, p4, ha, rfl, rfl, k1, k2, k3, k4⟩ := trodAll_four (args := vs.toArray) (by simpa using hrest)
  refine ⟨v, v1, v2, v3, v4, d, d1, d2, d3, d4, p, p1, p2, p3, p4, ?_, rfl, rfl, hd, k1, k2, k3, k4⟩
  have hvs : vs = [v1, v2, v3, v4] := by
    have := congrArg Array.toList ha
    simpa using this
  subst hvs
  cases args
  simp_all
theorem trodAll_mk5 {t t1 t2 t3 t4 : TypeId} {v v1 v2 v3 v4 : Value} {d d1 d2 d3 d4 : DataW H} {p p1 p2 p3 p4 : List MemPlace} (h : DataW.Trod enc P w base spare held t v d p) (h1 : DataW.Trod enc P w base spare held t1 v1 d1 p1)
    (h2 : DataW.Trod enc P w base spare held t2 v2 d2 p2) (h3 : DataW.Trod enc P w base spare held t3 v3 d3 p3) (h4 : DataW.Trod enc P w base spare held t4 v4 d4 p4) : DataW.TrodAll enc P w base spare held [t, t1, t2, t3, t4] [v, v1, v2, v3, v4] [d, d1, d2, d3, d4] (p ++ (p1 ++ (p2 ++ (p3 ++ p4)))) := ⟨p, _, h, trodAll_mk4 h1 h2 h3 h4, rfl⟩
end
theorem own : ownKnob Tryz.prog.godebug = none := by kernel_rfl
theorem gArgs : Tryz.prog.globalNamed "spill/code.Arguments" = some 0 := by kernel_rfl
theorem tArgs : (Tryz.prog.globals[0]?).map (·.type) = some 22 := by kernel_rfl
theorem tPow : (Tryz.prog.globals[1]?).map (·.type) = some 136 := by kernel_rfl
def laidRuns : List (String × DataW Unit) := [("math/bits.deBruijn32tab", Rows.laid_math_bits_deBruijn32tab), ("math/bits.deBruijn64tab", Rows.laid_math_bits_deBruijn64tab), ("internal/strconv.uint64pow10", Rows.laid_internal_strconv_uint64pow10), ("spill/code.Arguments", Rows.laid_spill_code_Arguments)]

theorem runs_door (os : Os) (args : Array Value) : laidMetH Tryz.prog laidRuns ((World.doorLaid Tryz.prog 400 os).forCall (fun _ _ => 0) ⟨#[], args, []⟩).memory :=
  laidMetH_of_parts3 (fuel := 8) (laidMet_of_run' 8 (by kernel_rfl) (by kernel_rfl)) (by kernel_rfl) (by kernel_rfl)
theorem facts_of_laid {W : World} (h : laidMetH Tryz.prog laidRuns W) : ArgsAt W ∧ Tab W := by
  rw [MakeChecks.laidMetH_plain _ _ _ (by kernel_rfl)] at h
  have h3 := h.tail.tail
  have hP := Lib.tabIs_of_head (k := .u64) (zs := Lib.pow10Tab) (rest := [("spill/code.Arguments", Rows.laid_spill_code_Arguments)]) gPow tPow Tryz.underlying136 Tryz.underlying130 (by kernel_rfl) (by kernel_rfl) h3
  have hT := Lib.tabIs_of_head (k := .i64) (zs := [0, 1, 26, 27]) (rest := []) gArgs tArgs Tryz.underlying22 Tryz.underlying3 (by kernel_rfl) (by kernel_rfl) h3.tail
  exact ⟨⟨hT.cell gArgs 0 (by decide), hT.cell gArgs 1 (by decide), hT.cell gArgs 2 (by decide), hT.cell gArgs 3 (by decide)⟩, hP⟩

section
variable {H : Type} {enc : TypeId × Value → H} {base base' : Nat} {spare spare' : Nat → Bool} {held : Bool} {W W' : World}
/-- of this type nothing is read in memory -/
def Still (enc : TypeId × Value → H) (base base' : Nat) (spare spare' : Nat → Bool) (held : Bool) (W W' : World) (t : TypeId) : Prop :=
  ∀ fuel cs x, DataW.trod enc Tryz.prog W base spare held fuel t cs = some x → x.2 = [] ∧ DataW.trod enc Tryz.prog W' base' spare' held fuel t cs = some x
theorem still_int {t : TypeId} {k : IntKind} (ht : Tryz.prog.underlying t = some (.int k)) : Still enc base base' spare spare' held W W' t := by
  intro fuel cs x h
  obtain ⟨n, rfl, rfl, hw⟩ := DataW.trod_int ht h
  refine ⟨rfl, ?_⟩
  cases fuel with
  | zero => simp [DataW.trod] at h
  | succ f => simp [DataW.trod, ht, hw]
theorem mapM_still {α : Type} {f g : α → Option (DataW H × List MemPlace)} : ∀ (l : List α) (xs : List (DataW H × List MemPlace)), (∀ a, a ∈ l → ∀ x, f a = some x → x.2 = [] ∧ g a = some x) → l.mapM f = some xs → xs.flatMap (·.2) = [] ∧ l.mapM g = some xs
  | [], xs, _, h => by simp at h; subst h; exact ⟨rfl, rfl⟩
  | a :: l, xs, hfg, h => by
    rw [List.mapM_cons] at h ⊢
    cases ha : f a with
    | none => rw [ha] at h; cases h
    | some x =>
      rw [ha] at h
      cases hl : l.mapM f with
      | none => rw [hl] at h; cases h
      | some ys =>
        rw [hl] at h
        obtain ⟨h1, h2⟩ := hfg a (List.mem_cons_self) x ha
        obtain ⟨h3, h4⟩ := mapM_still l ys (fun b hb => hfg b (List.mem_cons_of_mem _ hb)) hl
        have e : xs = x :: ys := by simpa using h.symm
        subst e
        rw [h2, h4]
        exact ⟨by simp [h1, h3], rfl⟩
theorem still_array {t e : TypeId} {n : Nat} (ht : Tryz.prog.underlying t = some (.array n e)) (he : Still enc base base' spare spare' held W W' e) : Still enc base base' spare spare' held W W' t := by
  intro fuel cs x h
  cases fuel with
  | zero => simp [DataW.trod] at h
  | succ f =>
    simp only [DataW.trod, ht] at h ⊢
    by_cases hl : cs.length = Tryz.prog.cellsOf t
    · rw [if_pos hl] at h ⊢
      obtain ⟨xs, h1, h2⟩ := Option.map_eq_some_iff.1 h
      obtain ⟨h3, h4⟩ := mapM_still _ xs (fun i _ y hy => he f _ y hy) h1
      subst h2
      exact ⟨h3, by rw [h4]; rfl⟩
    · rw [if_neg hl] at h; cases h
theorem still_struct {t : TypeId} {fs : Array Field} (ht : Tryz.prog.underlying t = some (.struct fs)) (he : ∀ i, i ∈ fs.toList → Still enc base base' spare spare' held W W' i.type) : Still enc base base' spare spare' held W W' t := by
  intro fuel cs x h
  cases fuel with
  | zero => simp [DataW.trod] at h
  | succ f =>
    simp only [DataW.trod, ht] at h ⊢
    by_cases hl : cs.length = Tryz.prog.cellsOf t
    · rw [if_pos hl] at h ⊢
      obtain ⟨xs, h1, h2⟩ := Option.map_eq_some_iff.1 h
      obtain ⟨h3, h4⟩ := mapM_still _ xs (fun i hi y hy => he i hi f _ y hy) h1
      subst h2
      exact ⟨h3, by rw [h4]; rfl⟩
    · rw [if_neg hl] at h; cases h
theorem still_input : Still enc base base' spare spare' held W W' 25 :=
  still_struct Tryz.underlying25 fun i hi => by
    simp only [List.mem_cons, List.not_mem_nil, or_false] at hi
    rcases hi with rfl | rfl | rfl
    · exact still_array Tryz.underlying22 (still_int Tryz.underlying3)
    · exact still_array Tryz.underlying23 (still_int Tryz.underlying3)
    · exact still_array Tryz.underlying23 (still_int Tryz.underlying3)
end
theorem cells_input : Tryz.prog.cellTypes Tryz.prog.depth 25 = some (List.replicate 20 3) := by kernel_rfl
theorem size_input : Tryz.prog.cellsOf 25 = 20 := by kernel_rfl
theorem okWide_row {P : Program} {w : World} {r : Reach} {b0 : Nat} {t : TypeId} {v : Value} {fs : Array Field} (ht : P.underlying t = some (.struct fs)) (h : Value.okWide P w r b0 t v) : ∃ cs, v = .agg cs ∧ cs.size = P.cellsOf t ∧ Row.okWide P w r b0 t cs := by
  unfold Value.okWide at h
  rw [ht] at h
  exact h
theorem okWide_of_cell {P : Program} {w : World} {r : Reach} {b0 : Nat} {t : TypeId} {v : Value} {k : IntKind} (ht : P.underlying t = some (.int k)) (h : Cell.okWide P w r b0 t v) : Value.okWide P w r b0 t v := by
  unfold Value.okWide
  rw [ht]
  exact h
/-- an input is twenty numbers: of any program -/
theorem open_twenty {P : Program} {W : World} {r : Reach} {b0 : Nat} {t e : TypeId} {fs : Array Field} {v : Value} (ht : P.underlying t = some (.struct fs)) (he : P.underlying e = some (.int .i64)) (hsize : P.cellsOf t = 20) (hts0 : P.cellTypes P.depth t = some (List.replicate 20 e)) (hval : Value.okWide P W r b0 t v) : ∃ I, v = .agg (inA I) ∧ I.wide := by
  obtain ⟨cs, rfl, hsz0, ts, hts, _, hc⟩ := okWide_row ht hval
  have hsz : cs.size = 20 := hsz0.trans hsize
  have ets : ts = List.replicate 20 e := Option.some.inj (hts.symm.trans hts0)
  subst ets
  clear hsz0 hts
  have key : ∀ j, j < 20 → ∃ n, cs[j]? = some (.int .i64 n) ∧ -9223372036854775808 ≤ n ∧ n ≤ 9223372036854775807 ∧ (⟨fun k => intOf (cs.getD k undef), fun k => intOf (cs.getD (4 + k) undef), fun k => intOf (cs.getD (12 + k) undef)⟩ : Sp.Inp).at' j = n := by
    intro j hj
    have h1 : j < cs.size := by omega
    obtain ⟨u, hu, hcell⟩ := hc j cs[j] (Array.getElem?_eq_getElem h1)
    rw [List.length_replicate, Nat.mod_eq_of_lt hj, List.getElem?_replicate, if_pos hj] at hu
    obtain rfl := Option.some.inj hu
    obtain ⟨n, hn⟩ := okWide_int he (okWide_of_cell he hcell)
    have hb : -9223372036854775808 ≤ n ∧ n ≤ 9223372036854775807 := by
      rw [hn] at hcell
      unfold Cell.okWide Cell.ok at hcell
      simp only [he] at hcell
      exact hcell.2
    have hget : cs.getD j undef = .int .i64 n := by rw [Array.getD, dif_pos h1]; exact hn
    refine ⟨n, by rw [Array.getElem?_eq_getElem h1, hn], hb.1, hb.2, ?_⟩
    unfold Sp.Inp.at'
    by_cases c1 : j < 4
    · rw [if_pos c1]
      show intOf (cs.getD j undef) = n
      rw [hget]
      rfl
    · rw [if_neg c1]
      by_cases c2 : j < 12
      · rw [if_pos c2]
        show intOf (cs.getD (4 + (j - 4)) undef) = n
        rw [show 4 + (j - 4) = j by omega, hget]
        rfl
      · rw [if_neg c2]
        show intOf (cs.getD (12 + (j - 12)) undef) = n
        rw [show 12 + (j - 12) = j by omega, hget]
        rfl
  refine ⟨⟨fun k => intOf (cs.getD k undef), fun k => intOf (cs.getD (4 + k) undef), fun k => intOf (cs.getD (12 + k) undef)⟩, congrArg Value.agg ?_, fun j hj => ?_⟩
  · refine Array.ext (by rw [hsz, inA_size]) fun j h1 h2 => ?_
    obtain ⟨n, h3, _, _, h4⟩ := key j (by omega)
    have e' := inA_at ⟨fun k => intOf (cs.getD k undef), fun k => intOf (cs.getD (4 + k) undef), fun k => intOf (cs.getD (12 + k) undef)⟩ j (by omega)
    rw [Array.getElem?_eq_getElem h2, h4] at e'
    rw [Array.getElem?_eq_getElem h1] at h3
    rw [Option.some.inj e', Option.some.inj h3]
  · obtain ⟨n, _, h1, h2, h4⟩ := key j hj
    rw [h4]
    exact ⟨h1, h2⟩

set_option maxRecDepth 100000 in
theorem quiet_lifted (os : Os) (started : os.Started) (H : Type) (enc : TypeId × Value → H) :
    ReturnsInHanded {} Tryz.checked os 3 .any (fun w args => (Rows.quietSpec.pre enc Tryz.prog Tryz.f3 [] false w args ∧ laidMetH Tryz.prog laidRuns w) ∧ sizedMet enc Tryz.prog Tryz.f3 (OpenSpec.ofChange Rows.quietSpec) false w args)
      (Rows.quietSpec.post enc Tryz.prog Tryz.f3 false true false false) := by
  refine returnsInHanded_of_change_and (C := Tryz.checked) (X := fun w _ => laidMetH Tryz.prog laidRuns w) (fun _ _ _ hh h => h.of_heap hh) own started (by kernel_rfl) Tryz.func3
    (ChangeSpec.witness_shaped (enc := enc) (C := Tryz.checked) (os := os) (X := fun w _ => laidMetH Tryz.prog laidRuns w) false (World.doorLaid Tryz.prog 400 os) #[.string ⟨#[]⟩, .int .i64 0, .agg (Array.replicate 20 (.int .i64 0)), .agg (Array.replicate 20 (.int .i64 0)), .int .i64 0] 8 rfl (World.shaped_of_RefB (by kernel_rfl) (by kernel_rfl)) (by kernel_rfl) (by kernel_rfl) (by kernel_rfl) (runs_door os _)) ?_
  intro W base args ds gs before hval0 hW _ _ hL _
  have hval : ∀ (j : Nat) t v, Tryz.f3.params[j]? = some t → args[j]? = some v → Value.okWide Tryz.prog W .any base t v := hval0
  have hW' := hW
  obtain ⟨p, q, hA0, hV, rfl, hfz, hnd⟩ := hW
  have hA : DataW.TrodAll enc Tryz.prog W 0 (fun _ => true) true Tryz.f3.params.toList args.toList ds p := hA0
  rw [Tryz.params3] at hA hval
  obtain ⟨v0, v1, v2, v3, v4, d0, d1, d2, d3, d4, p0, p1, p2, p3, p4, rfl, rfl, rfl, h0, h1, h2, h3, h4⟩ := trodAll_five hA
  obtain ⟨rfl, rfl⟩ := trodVars_none hV
  obtain ⟨s, rfl, rfl, rfl, hs⟩ := open_string Tryz.underlying9 (hval 0 9 v0 rfl rfl) h0
  obtain ⟨k, rfl, rfl, rfl, hk⟩ := open_int Tryz.underlying3 (hval 1 3 v1 rfl rfl) h1
  obtain ⟨I, rfl, hIw⟩ := open_twenty Tryz.underlying25 Tryz.underlying3 size_input cells_input (hval 2 25 v2 rfl rfl)
  obtain ⟨J, rfl, hJw⟩ := open_twenty Tryz.underlying25 Tryz.underlying3 size_input cells_input (hval 3 25 v3 rfl rfl)
  obtain ⟨n, rfl, rfl, rfl, hn⟩ := open_int Tryz.underlying3 (hval 4 3 v4 rfl rfl) h4
  obtain ⟨hAr, hTb⟩ := facts_of_laid hL
  obtain ⟨fuel1, hf1⟩ := h2
  obtain ⟨hp1, _⟩ := still_input (base' := 0) (spare' := fun _ => true) (W' := W) fuel1 _ _ hf1
  simp only at hp1
  subst hp1
  obtain ⟨fuel2, hf2⟩ := h3
  obtain ⟨hp2, _⟩ := still_input (base' := 0) (spare' := fun _ => true) (W' := W) fuel2 _ _ hf2
  simp only at hp2
  subst hp2
  clear hA0 hval0
  refine (quiet_any s k I J n W hs (bounds_i64 hk) hIw hJw (bounds_i64 hn) hAr hTb).mono fun e W' ⟨he, bel⟩ => ?_
  subst he
  exact ⟨_, rfl, _, _, _, [], [], [], hW', trodAll_mk1 (shut_bool Tryz.underlying4 _), trodAll_mk5 (shut_string Tryz.underlying9 hs) (shut_int Tryz.underlying3 hk) ⟨fuel1, (still_input fuel1 _ _ hf1).2⟩ ⟨fuel2, (still_input fuel2 _ _ hf2).2⟩ (shut_int Tryz.underlying3 hn), rfl, bel.frame _, fun h => by cases h⟩

theorem quiet_holds : Rows.QuietSaid :=
  OpenClaim.holds_of_wide 3 Tryz.f3 rfl rfl rfl rfl rfl rfl rfl ⟨rfl, rfl, rfl, rfl, rfl⟩ rfl rfl rfl rfl rfl (by kernel_rfl) Tryz.func3 (by kernel_rfl)
    (of_decide_eq_true (by kernel_rfl)) (by unfold Func.isWrapper; first | (rw [if_pos (by decide +kernel)]; kernel_rfl) | (rw [if_neg (by decide +kernel)]; exact ⟨rfl, rfl⟩))
    (fun os started H enc _ => quiet_lifted os started H enc)

theorem quiet_card_holds : Rows.QuietCardSaid :=
  Claim7.holds_tied_plain_at .later [] [.data, .data, .data, .data] true (true, "8fe81b4ed45da3dc3fd1f53eb2774aa5dc9d641cda6a96d4b57f0a7b7ab69440") false
    quiet_holds (fun _ h => by cases h) (by kernel_rfl) (fun _ h => by cases h) quiet_row_tie rfl ⟨rfl, rfl⟩ (by kernel_rfl) rfl
    (fun f fn hf hfn => by
      obtain rfl : f = 3 := Option.some.inj ((show Tryz.prog.funcNamed "spill/spillkeep.Quiet" = some 3 by kernel_rfl).symm.trans hf) |>.symm
      obtain rfl : fn = Tryz.f3 := (Option.some.inj (Tryz.func3.symm.trans hfn)).symm
      exact ⟨by kernel_rfl, fun j t ht => by
        rw [Tryz.params3] at ht
        have hm : t ∈ [9, 3, 25, 25, 3] := by simpa using Array.mem_of_getElem? ht
        have hall : ([9, 3, 25, 25, 3].all fun u => !Tryz.prog.wantsStandIn u) = true := by kernel_rfl
        exact (show Tryz.prog.wantsStandIn t = false by simpa using List.all_eq_true.1 hall t hm)⟩)
    (by kernel_rfl)
#print axioms quiet_card_holds
end Go.Proofs.YtccndnckceagfabGreatDoorR
