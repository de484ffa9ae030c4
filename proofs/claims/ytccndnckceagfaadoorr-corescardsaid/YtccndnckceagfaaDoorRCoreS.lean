/-
  Which registers meet, as the document finds it.
-/
import Derived.Test.YtccndnckceagfaaDoorRCoreN
namespace Go.Proofs.YtccndnckceagfaaDoorR
open Go.RowKit

def mtL (M : Nat → Bool) : List Value := (List.range 16384).map (fun j => .bool (M j))
theorem mtL_len (M : Nat → Bool) : (mtL M).length = 16384 := by simp [mtL]
theorem mtL_at (M : Nat → Bool) (j : Nat) (hj : j < 16384) : (mtL M)[j]? = some (.bool (M j)) := by simp [mtL, hj]
theorem mtL_one (M : Nat → Bool) : ∀ v ∈ mtL M, v.oneCell' = true := by
  intro v hv
  simp only [mtL, List.mem_map] at hv
  obtain ⟨r, _, rfl⟩ := hv
  rfl
def MtAt (w : World) (b : Nat) (M : Nat → Bool) : Prop := w.rowIs b 92 16384 (fun j => .bool (M j))
theorem info_mt : (Tryd.prog.info? 92).map (·.size) = some 16384 := by kernel_rfl
def isF : Value → Bool
  | .bool false => true
  | _ => false
theorem isF_eq {v : Value} (h : isF v = true) : v = .bool false := by
  unfold isF at h
  split at h
  · rfl
  · cases h
theorem zc_all : Tryd.zeroCells92.toList.all isF = true := by kernel_rfl
theorem zc_at (j : Nat) (hj : j < 16384) : Tryd.zeroCells92[j]? = some (.bool false) := by
  have hs := Tryd.zeroCells92_size
  have hj' : j < Tryd.zeroCells92.size := by rw [hs]; exact hj
  rw [Array.getElem?_eq_getElem hj']
  exact congrArg some (isF_eq (List.all_eq_true.1 zc_all _ (by rw [Array.mem_toList_iff]; exact Array.getElem_mem hj')))
theorem run_alloc_mt (w : World) : (Instr.alloc 92 true (.tuple #[])).run Tryd.prog w = .ok (.pointer (some ⟨w.heap.size, 0, none⟩)) (w.alloc (.cells Tryd.zeroCells92 92)) := by
  simp [Instr.alloc, Tryd.zeroValue92, newVar, newRow, Value.cells]
theorem mt_new (w : World) : MtAt (w.alloc (.cells Tryd.zeroCells92 92)) w.heap.size (fun _ => false) := by
  have h := World.rowIs_alloc w Tryd.zeroCells92 92 (fun _ => .bool false) (fun j hj => zc_at j (by rw [Tryd.zeroCells92_size] at hj; exact hj))
  rw [Tryd.zeroCells92_size] at h
  exact h
theorem MtAt.of_block {w w' : World} {b : Nat} {M : Nat → Bool} (h : MtAt w b M) (e : w'.heap[b]? = w.heap[b]?) : MtAt w' b M := World.rowIs.of_block h e
theorem MtAt.lt {w : World} {b : Nat} {M : Nat → Bool} (h : MtAt w b M) : b < w.heap.size := World.rowIs.lt h
theorem MtAt.put {w : World} {b : Nat} {M : Nat → Bool} (h : MtAt w b M) (j : Nat) : MtAt (w.setCell ⟨b, j, none⟩ (.bool true)) b (fun x => if x = j then true else M x) :=
  World.rowIs.congr (World.rowIs.set h j (.bool true)) (fun x _ => by
    show _ = Value.bool (if x = j then true else M x)
    by_cases e : x = j
    · rw [if_pos e, if_pos e]
    · rw [if_neg e, if_neg e])
theorem wpList_alloc_mt {ops : Array Oper} {rest : List Oper} {op : Oper} {a : Act} {w : World} {Q : Exit → Act → World → Prop} (hgd : op.guard = none) (ho : op.op = .alloc 92)
    (h : ∀ w', MtAt w' w.heap.size (fun _ => false) → Below w.heap.size w w' → w'.heap.size = w.heap.size + 1 → wpList Tryd.prog ops Q rest (a.put op.dst (.pointer (some ⟨w.heap.size, 0, none⟩))) w') : wpList Tryd.prog ops Q (op :: rest) a w := by
  refine wpList_plain hgd fun K hK => ?_
  unfold Oper.wp execOp
  simp only [ho, Sem.run_bind, run_alloc_mt, Result.andThen_ok, Sem.run_pure]
  exact hK _ _ (h _ (mt_new _) ((Below.refl _ _).alloc (Nat.le_refl _) _) (by simp))
set_option maxRecDepth 20000 in
theorem MtAt.range {w : World} {b : Nat} {M : Nat → Bool} (h : MtAt w b M) : w.rangeAt b 0 (mtL M) := by
  intro j v hj
  have hj' : j < 16384 := by have := (List.getElem?_eq_some_iff.1 hj).1; rwa [mtL_len] at this
  rw [mtL_at M j hj'] at hj
  rw [Nat.zero_add, World.rowIs.cell h hj', ← hj]
theorem wpList_load_mt {ops : Array Oper} {rest : List Oper} {op : Oper} {a : Act} {w : World} {Q : Exit → Act → World → Prop} (hgd : op.guard = none) (x : Operand) (ho : op.op = .load 92 x)
    (b : Nat) (M : Nat → Bool) (hx : a.eval x = .pointer (some ⟨b, 0, none⟩)) (hM : MtAt w b M)
    (h : wpList Tryd.prog ops Q rest (a.put op.dst (.agg (mtL M).toArray)) w) : wpList Tryd.prog ops Q (op :: rest) a w :=
  wpList_load_mid hgd 92 x ho b 0 hx (mtL M) _ hM.range Tryd.underlying92 rfl (by rw [mtL_len]; exact info_mt) h
set_option maxRecDepth 40000 in
theorem wpList_store_mt {ops : Array Oper} {rest : List Oper} {op : Oper} {a : Act} {w : World} {Q : Exit → Act → World → Prop} (hgd : op.guard = none) (x y : Operand) (ho : op.op = .store 92 x y)
    (b : Nat) (M H : Nat → Bool) (hx : a.eval x = .pointer (some ⟨b, 0, none⟩)) (hy : a.eval y = .agg (mtL M).toArray) (hH : MtAt w b H)
    (h : ∀ w', MtAt w' b M → Only b w w' → wpList Tryd.prog ops Q rest (a.put op.dst undef) w') : wpList Tryd.prog ops Q (op :: rest) a w := by
  have hs : (mtL M).toArray.size = 16384 := by simp [mtL_len]
  refine wpList_store_mid hgd 92 x y ho b 0 (mtL M).toArray hx hy (by rw [hs]; exact row_there hH 0 16384 (by omega)) (by rw [hs]; exact info_mt) (all_oneCell_toArray (mtL_one M)) (h _ ?_ ?_)
  · have := row_setCells hH (mtL M) 0 (by rw [mtL_len]; omega)
    refine World.rowIs.congr this fun j hj => ?_
    rw [if_pos (by rw [mtL_len]; omega), Nat.sub_zero, List.getD_eq_getElem?_getD, mtL_at M j hj]
    rfl
  · exact only_setCells w b 0 (mtL M)
theorem run_loadVar_mt {w : World} {b : Nat} {M : Nat → Bool} (h : MtAt w b M) : (loadVar 92 ⟨b, 0, none⟩).run Tryd.prog w = .ok (.agg (mtL M).toArray) w :=
  run_loadVar_mid w b 0 92 (mtL M) _ h.range Tryd.underlying92 rfl (by rw [mtL_len]; exact info_mt)

set_option maxRecDepth 20000 in
set_option maxHeartbeats 2000000 in
theorem stands_any (s : ByteArray) (v : Int) (w : World) (hs : s.size ≤ 4096) (h4 : s.size % 4 = 0) :
    Calls Tryd.prog 58 #[.string s, .int .u8 v] w fun e w' => ∃ b, e = .returned (.bool b) ∧ (b = true ↔ Sp.Stands (Sp.B s) (s.size / 4) v) ∧ w = w' := by
  have hs' : s.size ≤ maxLen := by unfold maxLen; omega
  have hct := fun w => count_any s w hs'
  go_enter Tryd.func58, Tryd.ntmps58
  go_wp2_with fail
  go_loopw [5] (fun iv wr => ∃ i : Nat, i ≤ s.size / 4 ∧ iv = .int .i64 i ∧ (∀ m, m < i → Sp.rdAt (Sp.B s) v m = false ∧ Sp.wrAt (Sp.B s) v m = false) ∧ w = wr) (fun iv _ => s.size / 4 - (intOf iv).toNat)
  case atStart => exact ⟨0, by omega, rfl, fun m hm => by omega, rfl⟩
  case round =>
    obtain ⟨i, hi, rfl, hall, rfl⟩ := hrel
    have HALL := hid hall
    clear hall
    by_cases hlt : i < s.size / 4
    · have HX := Sp.insAt_ext s i (by omega)
      have hxs := HX.size
      have HRD := hid (fun w => reads_any (s.extract (4 * i) (4 * i + 4)) v w hxs)
      have HWR := hid (fun w => writes_any (s.extract (4 * i) (4 * i + 4)) v w hxs)
      rw [HX.B0, HX.B1, HX.B2, HX.B3] at HRD
      rw [HX.B0, HX.B1] at HWR
      have HRE := hid (show Sp.rdB (Sp.B s (4 * i)) (Sp.B s (4 * i + 1)) (Sp.B s (4 * i + 2)) (Sp.B s (4 * i + 3)) v = Sp.rdAt (Sp.B s) v i from rfl)
      have HWE := hid (show Sp.wrB (Sp.B s (4 * i)) (Sp.B s (4 * i + 1)) v = Sp.wrAt (Sp.B s) v i from rfl)
      rw [HRE.out] at HRD
      rw [HWE.out] at HWR
      clear HX hxs HRE HWE
      have hat := fun w => at_any s (i : Int) w hs' (by omega) (by omega)
      simp only [Int.toNat_natCast] at hat
      generalize s.extract (4 * i) (4 * i + 4) = x at *
      cases hr : Sp.rdAt (Sp.B s) v i
      · rw [hr] at HRD
        cases hw : Sp.wrAt (Sp.B s) v i
        · rw [hw] at HWR
          have HN := hid (And.intro hr hw)
          clear hr hw
          go_wp2_with (first | (go_at_call 33; refine (hct _).mono ?_; rintro e w' ⟨rfl, rfl⟩) | (go_at_call 35; refine (hat _).mono ?_; rintro e w' ⟨rfl, rfl⟩) | (go_at_call 91; refine (HRD.out _).mono ?_; rintro e w' ⟨rfl, rfl⟩) | (go_at_call 90; refine (HWR.out _).mono ?_; rintro e w' ⟨rfl, rfl⟩))
          go_roundw
          case rel => exact ⟨i + 1, by omega, by go_num, (fun m hm => by
            by_cases e : m = i
            · rw [e]; exact HN.out
            · exact HALL.out m (by omega)), (by first | rfl | trivial)⟩
          case measure => simp [intOf]; omega
        · rw [hw] at HWR
          have HN := hid hw
          clear hr hw
          go_wp2_with (first | (go_at_call 33; refine (hct _).mono ?_; rintro e w' ⟨rfl, rfl⟩) | (go_at_call 35; refine (hat _).mono ?_; rintro e w' ⟨rfl, rfl⟩) | (go_at_call 91; refine (HRD.out _).mono ?_; rintro e w' ⟨rfl, rfl⟩) | (go_at_call 90; refine (HWR.out _).mono ?_; rintro e w' ⟨rfl, rfl⟩))
          go_ret
          exact ⟨true, rfl, ⟨fun _ => ⟨i, hlt, Or.inr HN.out⟩, fun _ => rfl⟩, rfl⟩
      · rw [hr] at HRD
        have HN := hid hr
        clear hr
        go_wp2_with (first | (go_at_call 33; refine (hct _).mono ?_; rintro e w' ⟨rfl, rfl⟩) | (go_at_call 35; refine (hat _).mono ?_; rintro e w' ⟨rfl, rfl⟩) | (go_at_call 91; refine (HRD.out _).mono ?_; rintro e w' ⟨rfl, rfl⟩))
        go_ret
        exact ⟨true, rfl, ⟨fun _ => ⟨i, hlt, Or.inl HN.out⟩, fun _ => rfl⟩, rfl⟩
    · have HI := hid (show i = s.size / 4 by omega)
      go_wp2_with (first | (go_at_call 33; refine (hct _).mono ?_; rintro e w' ⟨rfl, rfl⟩))
      go_ret
      exact ⟨false, rfl, ⟨fun h => (by cases h), fun ⟨m, hm, h⟩ => by
        have := HALL.out m (by rw [HI.out]; exact hm)
        rcases h with h | h
        · rw [this.1] at h; cases h
        · rw [this.2] at h; cases h⟩, rfl⟩
end Go.Proofs.YtccndnckceagfaaDoorR
