/-
  What is told of a run, as a value and in memory.
  The document's own Run.
  The program's own test of an input.
  What the program tells of a run that has ended.
  How the program's run begins.
  The program's run of a source program.
  What the program tells of a machine program's run is what the document tells: plain mathematics.
-/
import Derived.Test.YtccndnckceagfabDoorG04
import Derived.Test.YtccndnckceagfabDoorHStart
import Derived.Test.YtccndnckceagfabDoorG05
import Derived.Test.YtccndnckceagfabDoorG01
import Derived.Test.YtccndnckceagfabDoorG07
import Derived.Deep.RegionHeld3
import Derived.Test.YtccndnckceagfabDoorHLv
import Derived.Test.YtccndnckceagfabDoorG06
namespace Go.Proofs.YtccndnckceagfabDoor
open Go.RowKit

def outV (st : Sp.St) (j : Nat) : Value := stF ⟨#[]⟩ st (130 + j)
def outL (st : Sp.St) : List Value := (List.range 81).map (outV st)
theorem outL_len (st : Sp.St) : (outL st).length = 81 := by simp [outL]
theorem outL_at (st : Sp.St) (r : Nat) (hr : r < 81) : (outL st)[r]? = some (outV st r) := by simp [outL, hr]
theorem outL_one (st : Sp.St) : ∀ v ∈ outL st, v.oneCell' = true := by
  intro v hv
  simp only [outL, List.mem_map] at hv
  obtain ⟨r, _, rfl⟩ := hv
  unfold outV stF
  repeat' split
  all_goals rfl
structure OutAt (w : World) (b o : Nat) (st : Sp.St) : Prop where
  cell : ∀ r, r < 81 → w.cell? ⟨b, o + r, none⟩ = some (outV st r)
  free : ∀ r, r < 81 → w.frozen? ⟨b, o + r, none⟩ = false
theorem OutAt.range {w : World} {b o : Nat} {st : Sp.St} (h : OutAt w b o st) : w.rangeAt b o (outL st) := by
  intro j v hj
  have hj' : j < 81 := by have := (List.getElem?_eq_some_iff.1 hj).1; rwa [outL_len] at this
  rw [outL_at st j hj'] at hj
  rw [h.cell j hj', ← hj]
theorem OutAt.there {w : World} {b o : Nat} {st : Sp.St} (h : OutAt w b o st) : w.there b o 81 := fun j hj => ⟨by rw [h.cell j hj]; rfl, h.free j hj⟩
theorem OutAt.of_range {w : World} {b o : Nat} {st : Sp.St} (h : w.rangeAt b o (outL st)) (ht : w.there b o 81) : OutAt w b o st :=
  ⟨fun r hr => h r _ (outL_at st r hr), fun r hr => (ht r hr).2⟩
theorem OutAt.of_block {w w' : World} {b o : Nat} {st : Sp.St} (h : OutAt w b o st) (e : w'.heap[b]? = w.heap[b]?) : OutAt w' b o st :=
  ⟨fun r hr => by rw [← h.cell r hr]; unfold World.cell?; rw [e], fun r hr => by rw [← h.free r hr]; unfold World.frozen?; rw [e]⟩
theorem out_new (w : World) (st : Sp.St) (t : Nat) : OutAt (w.alloc (.cells (outL st).toArray t)) w.heap.size 0 st := by
  have h := World.rowIs_alloc w (outL st).toArray t (outV st) (fun r hr => by
    have hr' : r < 81 := by simpa [outL_len] using hr
    rw [List.getElem?_toArray]
    exact outL_at st r hr')
  have hs : (outL st).toArray.size = 81 := by simp [outL_len]
  rw [hs] at h
  exact ⟨fun r hr => by rw [Nat.zero_add]; exact h.cell hr, fun r _ => by rw [Nat.zero_add]; exact h.frozen r⟩
theorem results_cell_two {P : Program} {fn : Func} {q r : Tmp} {ty : TypeId} (h : fn.results = #[.cell q ty, .tmp r]) (tmps : Array Value) (w : World) {a : Addr} {v : Value} (hp : tmps.getD q undef = .pointer (some a)) (hl : (loadVar ty a).run P w = .ok v w) :
    (results fn tmps).run P w = .ok (.tuple #[v, tmps.getD r undef]) w := by
  have hp' : tmps[q]?.getD undef = .pointer (some a) := by simpa using hp
  simp only [results, h]
  simp [hp', asAddr, hl]
end Go.Proofs.YtccndnckceagfabDoor

namespace Go.Proofs.YtccndnckceagfabDoor
open Go.RowKit
namespace Sp
/-- the places of a source program's arguments -/
def pS (j : Nat) : Nat := if j = 0 then 97 else if j = 1 then 98 else if j = 2 then 65 else 66
/-- what Run answers -/
def RunR (s : ByteArray) (I : Inp) (fuel : Int) (st : St) (e : Int) : Prop :=
  (e ≠ 0 ∧ FormedR s e ∧ st = st0) ∨ (FormedR s 0 ∧ mayB I fuel = false ∧ e = 2 ∧ st = st0) ∨ (FormedR s 0 ∧ mayB I fuel = true ∧ e = 0 ∧ st = runG (stepT s) fuel.toNat (start pS I.cut 4))
end Sp

def RunPost (s : ByteArray) (I : Sp.Inp) (fuel : Int) (w : World) (e : Ending) (w' : World) : Prop :=
  ∃ st f, e = .returned (.tuple #[.agg (outL st).toArray, .int .i64 f]) ∧ Sp.RunR s I fuel st f ∧ Below w.heap.size w w'

end Go.Proofs.YtccndnckceagfabDoor

namespace Go.Proofs.YtccndnckceagfabDoor
open Go.RowKit

theorem info_arr4 : (Tryd.prog.info? 67).map (·.size) = some 4 := by kernel_rfl
/-- four numbers read whole -/
theorem wpList_load4 {ops : Array Oper} {rest : List Oper} {op : Oper} {a : Act} {w : World} {Q : Exit → Act → World → Prop} (hgd : op.guard = none) (x : Operand) (ho : op.op = .load 67 x)
    (b o : Nat) (f : Nat → Int) (hx : a.eval x = .pointer (some ⟨b, o, none⟩)) (hf : ∀ j, j < 4 → w.cell? ⟨b, o + j, none⟩ = some (.int .i64 (f j)))
    (h : wpList Tryd.prog ops Q rest (a.put op.dst (.agg #[.int .i64 (f 0), .int .i64 (f 1), .int .i64 (f 2), .int .i64 (f 3)])) w) : wpList Tryd.prog ops Q (op :: rest) a w :=
  wpList_load_mid hgd 67 x ho b o hx [.int .i64 (f 0), .int .i64 (f 1), .int .i64 (f 2), .int .i64 (f 3)] _ (fun j v hj => by
    have hj' : j < 4 := (List.getElem?_eq_some_iff.1 hj).1
    rw [hf j hj', ← hj]
    have : j = 0 ∨ j = 1 ∨ j = 2 ∨ j = 3 := by omega
    rcases this with rfl | rfl | rfl | rfl <;> rfl) Tryd.underlying67 rfl info_arr4 h

theorem run_index4 (f : Nat → Int) (i : Nat) (hi : i < 4) (W : World) : (Instr.index 67 (.agg #[.int .i64 (f 0), .int .i64 (f 1), .int .i64 (f 2), .int .i64 (f 3)]) (.int .i64 (i : Int))).run Tryd.prog W = .ok (.int .i64 (f i)) W := by
  have : i = 0 ∨ i = 1 ∨ i = 2 ∨ i = 3 := by omega
  rcases this with rfl | rfl | rfl | rfl
  all_goals
    simp [Instr.index, run_underlying Tryd.underlying67, asIntOf, go_sem]

end Go.Proofs.YtccndnckceagfabDoor

namespace Go.Proofs.YtccndnckceagfabDoor
open Go.RowKit

/-- what is told of a state -/
def outSt (m : Sp.PSt) : Sp.St := ⟨fun _ => 0, 0, m.status, m.value, m.pub, m.sec, m.trace, fun _ => 0, fun _ => 0⟩
theorem range8 {w : World} {b o : Nat} {f : Nat → Int} (h : ∀ j, j < 8 → w.cell? ⟨b, o + j, none⟩ = some (.int .i64 (f j))) : w.rangeAt b o (arrL f) := by
  intro j v hj
  have hj' : j < 8 := by have := (List.getElem?_eq_some_iff.1 hj).1; rwa [arrL_len] at this
  rw [arrL_at f j hj'] at hj
  rw [h j hj', ← hj]
theorem conv_nil (w : World) : (convert 48 9 (.slice none 0 0)).run Tryd.prog w = .ok (.string ⟨#[]⟩) w := by kernel_rfl
/-- the trace as a string -/
theorem conv_trace {w : World} {B n : Nat} {v : Value} {t : ByteArray} (hn : n = t.size) (h : w.ownsRow B 5 1 v n (Lib.strCells t)) : (convert 48 9 v).run Tryd.prog w = .ok (.string t) w := by
  subst hn
  rcases Joins.ownsRow_forms h with ⟨rfl, h0⟩ | ⟨g, cap, rfl⟩
  · have e : t = ⟨#[]⟩ := ByteArray.ext (Array.ext h0 fun j _ h2 => absurd h2 (Nat.not_lt_zero _))
    rw [e]
    exact conv_nil w
  · have hl : t.data.toList.length = t.size := Array.length_toList
    have := run_convert_bytes_back (P := Tryd.prog) w 48 9 5 ⟨g, 0, none⟩ cap t.data.toList Tryd.underlying48 Tryd.underlying5 Tryd.underlying9 (fun j hj => by
      refine h.cells (g := g) rfl j _ ?_
      unfold Lib.strCells
      rw [List.getElem?_map, List.getElem?_eq_getElem hj]
      rfl)
    rw [hl] at this
    rw [this]

theorem yconv {w : World} {B : Nat} {v : Value} {t : ByteArray} {a : Act} {o : Oper} {x : Operand} (ho : o.op = .convert 48 9 x) (hx : a.eval x = v) (h : w.ownsRow B 5 1 v t.size (Lib.strCells t)) : (execOp a.eval o).run Tryd.prog w = .ok (.value (.string t)) w := by
  unfold execOp
  simp only [ho, hx, Sem.run_bind, conv_trace rfl h, Result.andThen_ok, Sem.run_pure]
end Go.Proofs.YtccndnckceagfabDoor

namespace Go.Proofs.YtccndnckceagfabDoor
open Go.RowKit

def stL (m : Sp.PSt) (v : Value) : List Value := (List.range 82).map (pF m v)
theorem stL_len (m : Sp.PSt) (v : Value) : (stL m v).length = 82 := by simp [stL]
theorem stL_at (m : Sp.PSt) (v : Value) (r : Nat) (hr : r < 82) : (stL m v)[r]? = some (pF m v r) := by simp [stL, hr]
theorem stL_one (m : Sp.PSt) (v : Value) (hv : v.oneCell' = true) : ∀ u ∈ stL m v, u.oneCell' = true := by
  intro u hu
  simp only [stL, List.mem_map] at hu
  obtain ⟨r, _, rfl⟩ := hu
  unfold pF
  repeat' split
  all_goals first | rfl | exact hv
def pst0 : Sp.PSt := ⟨fun _ => 0, fun _ => 0, fun _ => 0, ⟨#[]⟩, false, 0, 0⟩
/-- the state with which a run begins, ahead of its arguments -/
def bg (I : Sp.Inp) : Sp.PSt := ⟨fun _ => 0, I.pub, I.sec, ⟨#[]⟩, false, 2, 0⟩
theorem row_range {w : World} {b t : Nat} {m : Sp.PSt} {v : Value} (h : w.rowIs b t 82 (pF m v)) : w.rangeAt b 0 (stL m v) := by
  intro j u hj
  have hj' : j < 82 := by have := (List.getElem?_eq_some_iff.1 hj).1; rwa [stL_len] at this
  rw [stL_at m v j hj'] at hj
  rw [Nat.zero_add, h.cell hj', ← hj]
end Go.Proofs.YtccndnckceagfabDoor

namespace Go.Proofs.YtccndnckceagfabDoor
open Go.RowKit

/-- the places of the arguments -/
def argP (j : Nat) : Int := if j = 0 then 0 else if j = 1 then 1 else if j = 2 then 26 else 27
/-- the state when j arguments are laid -/
def argM (I : Sp.Inp) : Nat → Sp.PSt
  | 0 => bg I
  | j + 1 => Sp.wrP (argM I j) (argP j) (I.args j)
theorem ArgsAt.at {w : World} (h : ArgsAt w) (j : Nat) (hj : j < 4) : w.cell? ⟨0, j, none⟩ = some (.int .i64 (argP j)) := by
  have : j = 0 ∨ j = 1 ∨ j = 2 ∨ j = 3 := by omega
  rcases this with rfl | rfl | rfl | rfl
  · exact h.c0
  · exact h.c1
  · exact h.c2
  · exact h.c3
theorem argM_trace (I : Sp.Inp) (j : Nat) : (argM I j).trace = ⟨#[]⟩ := by
  induction j with
  | zero => rfl
  | succ j ih => simp only [argM]; rw [wrP_trace, ih]
theorem argM_ok (I : Sp.Inp) (h : (∀ k, 0 ≤ I.args k ∧ I.args k ≤ 65535) ∧ (∀ k, 0 ≤ I.pub k ∧ I.pub k ≤ 65535) ∧ ∀ k, 0 ≤ I.sec k ∧ I.sec k ≤ 65535) (j : Nat) : (argM I j).ok 1000 := by
  induction j with
  | zero => exact ⟨fun _ => ⟨Int.le_refl _, by show (0 : Int) ≤ 65535; omega⟩, h.2.1, h.2.2, by show 0 ≤ 1000; omega⟩
  | succ j ih => exact Sp.wrP_ok ih _ (h.1 j)

theorem form_ok {k : Int} {o a b d : Int} (ho : 0 ≤ o ∧ o ≤ 255) (hb : 0 ≤ b ∧ b ≤ 255) (hd : 0 ≤ d ∧ d ≤ 255) {i : Sp.Ins} (h : Sp.Form k o a b d i) : insOk i := by
  have r := fun x => Sp.rgK_bd k x
  have sl := fun x => Sp.slO_bd x
  have ra := r a
  have rb := r b
  have sa := sl a
  have sb := sl b
  cases h with
  | num h1 h2 h3 h4 =>
    simp only [Sp.digB, decide_eq_true_eq] at h3 h4
    exact ⟨ho, by show Sp.rgK k a ≤ 1000; omega, by show (-1 : Int) ≤ 1000; omega, by show 0 ≤ 10 * (b - 48) + (d - 48) ∧ 10 * (b - 48) + (d - 48) ≤ 99; omega⟩
  | ar => exact ⟨ho, by show Sp.rgK k a ≤ 1000; omega, by show Sp.rgK k b ≤ 1000; omega, by show (0 : Int) ≤ 0 ∧ (0 : Int) ≤ 99; omega⟩
  | two => exact ⟨ho, by show Sp.rgK k a ≤ 1000; omega, by show Sp.rgK k b ≤ 1000; omega, by show (0 : Int) ≤ 0 ∧ (0 : Int) ≤ 99; omega⟩
  | sto => exact ⟨ho, by show (-1 : Int) ≤ 1000; omega, by show Sp.rgK k a ≤ 1000; omega, by show (0 : Int) ≤ 0 ∧ (0 : Int) ≤ 99; omega⟩
  | jmp => exact ⟨ho, by show (-1 : Int) ≤ 1000; omega, by show (-1 : Int) ≤ 1000; omega, by show (0 : Int) ≤ 0 ∧ (0 : Int) ≤ 99; omega⟩
  | cnd => exact ⟨ho, by show (-1 : Int) ≤ 1000; omega, by show Sp.rgK k a ≤ 1000; omega, by show (0 : Int) ≤ 0 ∧ (0 : Int) ≤ 99; omega⟩
  | ret => exact ⟨ho, by show (-1 : Int) ≤ 1000; omega, by show Sp.rgK k a ≤ 1000; omega, by show (0 : Int) ≤ 0 ∧ (0 : Int) ≤ 99; omega⟩
  | put => exact ⟨ho, by show Sp.slO a ≤ 1000; omega, by show Sp.rgK k b ≤ 1000; omega, by show (0 : Int) ≤ 0 ∧ (0 : Int) ≤ 99; omega⟩
  | get => exact ⟨ho, by show Sp.rgK k a ≤ 1000; omega, by show Sp.slO b ≤ 1000; omega, by show (0 : Int) ≤ 0 ∧ (0 : Int) ≤ 99; omega⟩
  | clrS => exact ⟨ho, by show Sp.slO a ≤ 1000; omega, by show (-1 : Int) ≤ 1000; omega, by show (0 : Int) ≤ 0 ∧ (0 : Int) ≤ 99; omega⟩
  | clrR => exact ⟨ho, by show Sp.rgK k a ≤ 1000; omega, by show (-1 : Int) ≤ 1000; omega, by show (0 : Int) ≤ 0 ∧ (0 : Int) ≤ 99; omega⟩
theorem code_ok {k : Int} (hk : 0 ≤ k ∧ k ≤ 10) {s : ByteArray} (hp : Sp.progB (Sp.B s) s.size k = true) (j : Nat) (h : j < (Sp.codeK k (Sp.B s) (s.size / 4)).length) : insOk (Sp.codeK k (Sp.B s) (s.size / 4))[j] := by
  rw [Sp.codeK_get]
  rw [Sp.codeK_len] at h
  have hd : Sp.dokK k (Sp.B s) j = true := by
    have := Sp.okIns_of_progB hp j h
    rw [Sp.okK_eq _ _ k hk.1, Bool.and_eq_true] at this
    exact this.1
  exact form_ok (Sp.B_bd s _) (Sp.B_bd s _) (Sp.B_bd s _) (Sp.form_of hk.1 hd)
theorem str_bd (c : Nat → Int) (n : Nat) (hn : n ≤ 5000) (q : Int) : -1 ≤ Sp.strP (Sp.blksTo c n) q ∧ Sp.strP (Sp.blksTo c n) q ≤ 5000 := by
  by_cases h : 0 ≤ q ∧ q < (Sp.blksTo c n).length
  · obtain ⟨j, rfl⟩ := Int.eq_ofNat_of_zero_le h.1
    have hj : j < Sp.blocksTo c n := by have := h.2; rw [Sp.blksTo_len] at this; omega
    rw [Sp.str_fst c n j hj]
    have := Sp.fst_lt c n j hj
    omega
  · unfold Sp.strP
    rw [if_neg h]
    omega
end Go.Proofs.YtccndnckceagfabDoor

namespace Go.Proofs.YtccndnckceagfabDoor
open Go.RowKit
namespace Sp
/-- between the registers of a machine and its slots nothing is ever written -/
def Gap (k : Int) (m : PSt) : Prop := ∀ j : Nat, k ≤ j → j < 10 → m.pl j = 0
theorem gap_of {k : Int} {m m' : PSt} (h : Gap k m) (e : m'.pl = m.pl) : Gap k m' := fun j h1 h2 => by rw [e]; exact h j h1 h2
theorem gap_wr {k : Int} {m : PSt} (h : Gap k m) (p v : Int) (hp : p < k ∨ 10 ≤ p) : Gap k (wrP m p v) := by
  intro j h1 h2
  unfold wrP
  split
  · show upd m.pl p.toNat v j = 0
    unfold upd
    rw [if_neg (by omega)]
    exact h j h1 h2
  · exact h j h1 h2
theorem slt_pl (m : PSt) (o p : Int) : (sltP m o p).pl = m.pl := by
  unfold sltP
  split <;> rfl
theorem gap_rea {k : Int} {m : PSt} {i : Ins} (h : Gap k m) (hd : i.d < k ∨ 10 ≤ i.d) : Gap k (reaP m i) := by
  unfold reaP
  simp only
  split
  · exact gap_of h rfl
  split
  · exact gap_wr (m := shP m (memT i.o (rdP m i.x))) (gap_of h rfl) _ _ hd
  split
  · exact gap_wr (m := shP m (memT i.o (rdP m i.x))) (gap_of h rfl) _ _ hd
  split
  · exact gap_of h rfl
  · exact gap_of h rfl
theorem gap_step {k : Int} {F : Int → Int} {m : PSt} {a : Int} {i : Ins} (h : Gap k m) (hd : i.d < k ∨ 10 ≤ i.d) : Gap k (stepP F m a i).1 := by
  unfold stepP
  split
  · exact h
  split
  · split
    · exact gap_of h rfl
    · exact gap_of h rfl
  split
  · exact gap_of h rfl
  split
  · exact gap_rea h hd
  split
  · exact gap_wr (gap_of h (by rw [slt_pl, slt_pl])) _ _ hd
  · exact gap_wr h _ _ hd
theorem gap_walk {k : Int} {C : List Ins} {F : Int → Int} (hC : ∀ j (h : j < C.length), C[j].d < k ∨ 10 ≤ C[j].d) : ∀ (f : Nat) (m : PSt) (a : Int), Gap k m → Gap k (walkP C F f m a)
  | 0, _, _, h => h
  | f + 1, m, a, h => by
    simp only [walkP]
    split
    · exact h
    split
    · exact gap_walk hC f _ _ (gap_step h (hC _ _))
    · exact h
theorem form_gap {k : Int} (hk0 : 0 < k) {o a b d : Int} {i : Ins} (h : Form k o a b d i) : i.d < k ∨ 10 ≤ i.d := by
  have rg : ∀ x : Int, regB x k = true → rgK k x < k := fun x hx => by
    rcases rgK_val hx with ⟨h0, _⟩ | ⟨_, h1, h2, h3, h4⟩
    · omega
    · omega
  cases h with
  | ar _ ha => exact Or.inl (rg _ ha)
  | num _ ha => exact Or.inl (rg _ ha)
  | two _ ha => exact Or.inl (rg _ ha)
  | sto => exact Or.inl (by show (-1 : Int) < k; omega)
  | jmp => exact Or.inl (by show (-1 : Int) < k; omega)
  | cnd => exact Or.inl (by show (-1 : Int) < k; omega)
  | ret => exact Or.inl (by show (-1 : Int) < k; omega)
  | put _ _ ha => exact Or.inr (slo_range ha).1
  | get _ _ ha => exact Or.inl (rg _ ha)
  | clrS _ _ ha => exact Or.inr (slo_range ha).1
  | clrR _ _ ha => exact Or.inl (rg _ ha)
theorem code_gap {k : Int} (hk0 : 0 < k) {s : ByteArray} (hp : progB (B s) s.size k = true) (j : Nat) (h : j < (codeK k (B s) (s.size / 4)).length) : (codeK k (B s) (s.size / 4))[j].d < k ∨ 10 ≤ (codeK k (B s) (s.size / 4))[j].d := by
  rw [codeK_get]
  rw [codeK_len] at h
  have hd : dokK k (B s) j = true := by
    have := okIns_of_progB hp j h
    rw [okK_eq _ _ k (by omega), Bool.and_eq_true] at this
    exact this.1
  exact form_gap hk0 (form_of (by omega) hd)
/-- a run's end, the document's: registers and slots told -/
def fillM (k : Int) (st : St) : St := { st with regs := fun j => if (j : Int) < k then st.hold (48 + j) else 0, slots := fun j => st.hold (B alpha j).toNat }
theorem reg_dig {k : Int} (hk : 0 < k) (hk10 : k ≤ 10) (j : Nat) (hj : (j : Int) < k) : regB (48 + (j : Int)) k = true ∧ rgK k (48 + (j : Int)) = j := by
  have h : regB (48 + (j : Int)) k = true := by
    unfold regB digB
    rw [if_neg (by omega)]
    simp only [Bool.and_eq_true, decide_eq_true_eq]
    omega
  refine ⟨h, ?_⟩
  rcases rgK_val h with ⟨h0, _⟩ | ⟨_, h1, h2, h3, h4⟩
  · omega
  · omega
theorem alpha_let (j : Nat) (h : j < 52) : letB (B alpha j) = true ∧ slO (B alpha j) = 10 + j := by
  have e := alpha_at j h
  have hl : letB (B alpha j) = true := by
    rw [e]
    unfold letB lowB uppB
    split <;> simp <;> omega
  refine ⟨hl, ?_⟩
  rw [slo_val hl]
  have := rgO_val hl
  rw [e] at this ⊢
  split at this <;> rename_i c
  · rw [if_pos c]; omega
  · rw [if_neg c]; omega
end Sp
theorem outL_congr' {a b : Sp.St} (h1 : a.status = b.status) (h2 : a.value = b.value) (h3 : a.pub = b.pub) (h4 : a.sec = b.sec) (h5 : a.trace = b.trace) (h6 : ∀ j, j < 10 → a.regs j = b.regs j) (h7 : ∀ j, j < 52 → a.slots j = b.slots j) : outL a = outL b := by
  unfold outL
  refine List.map_congr_left fun j hj => ?_
  have hj' := List.mem_range.1 hj
  unfold outV stF
  rw [h1, h2, h3, h4, h5]
  rw [if_neg (show ¬ 130 + j = 0 by omega), if_neg (show ¬ 130 + j = 0 by omega), if_neg (show ¬ 130 + j ≤ 128 by omega), if_neg (show ¬ 130 + j ≤ 128 by omega), if_neg (show ¬ 130 + j = 129 by omega), if_neg (show ¬ 130 + j = 129 by omega)]
  repeat' split
  all_goals first | rfl | (rw [h6 _ (by omega)]) | (rw [h7 _ (by omega)])
/-- what the program tells of a machine's end -/
def outM (m : Sp.PSt) : Sp.St := { outSt m with regs := fun j => m.pl j, slots := fun j => m.pl (10 + j) }
/-- the state when j arguments of a machine are laid -/
def argK (I : Sp.Inp) : Nat → Sp.PSt
  | 0 => bg I
  | j + 1 => Sp.wrP (argK I j) j (I.args j)
theorem argK_trace (I : Sp.Inp) (j : Nat) : (argK I j).trace = ⟨#[]⟩ := by
  induction j with
  | zero => rfl
  | succ j ih => simp only [argK]; rw [wrP_trace, ih]
theorem argK_ok (I : Sp.Inp) (h : (∀ k, 0 ≤ I.args k ∧ I.args k ≤ 65535) ∧ (∀ k, 0 ≤ I.pub k ∧ I.pub k ≤ 65535) ∧ ∀ k, 0 ≤ I.sec k ∧ I.sec k ≤ 65535) (j : Nat) : (argK I j).ok 1000 := by
  induction j with
  | zero => exact ⟨fun _ => ⟨Int.le_refl _, by show (0 : Int) ≤ 65535; omega⟩, h.2.1, h.2.2, by show 0 ≤ 1000; omega⟩
  | succ j ih => exact Sp.wrP_ok ih _ (h.1 j)
theorem argK_flags (I : Sp.Inp) (j : Nat) : (argK I j).ended = false ∧ (argK I j).status = 2 := by
  induction j with
  | zero => exact ⟨rfl, rfl⟩
  | succ j ih =>
    obtain ⟨_, _, _, _, e5, e6⟩ := Sp.wrP_rest (argK I j) (j : Int) (I.args j)
    exact ⟨e5.trans ih.1, e6.trans ih.2⟩
theorem argK_gap {k : Int} (hk : 4 ≤ k) (I : Sp.Inp) (j : Nat) (hj : j ≤ 4) : Sp.Gap k (argK I j) := by
  induction j with
  | zero => exact fun _ _ _ => rfl
  | succ j ih => exact Sp.gap_wr (ih (by omega)) _ _ (Or.inl (by omega))
theorem rel_bgM (k : Int) (I : Sp.Inp) (p : Nat → Nat) : Sp.Rel k (bg I) (Sp.start p I 0) := ⟨fun _ _ => rfl, fun _ _ _ => rfl, rfl, rfl, rfl, rfl⟩
theorem rel_startM {k : Int} (hk : 4 ≤ k) (hk10 : k ≤ 10) (I : Sp.Inp) (j : Nat) (hj : j ≤ 4) : Sp.Rel k (argK I j) (Sp.start Sp.pM I j) := by
  induction j with
  | zero => exact rel_bgM k I _
  | succ j ih =>
    obtain ⟨h1, h2⟩ := Sp.reg_dig (k := k) (by omega) hk10 j (by omega)
    have h := (ih (by omega)).wr hk10 h1 (I.args j)
    rw [h2, show (48 + (j : Int)).toNat = 48 + j from by omega] at h
    exact h
theorem mrun_eq {s : ByteArray} {I : Sp.Inp} {F : Nat} {k : Int} (hk : 4 ≤ k) (hk10 : k ≤ 10) (hp : Sp.progB (Sp.B s) s.size k = true) :
    outL (outM (Sp.walkP (Sp.codeK k (Sp.B s) (s.size / 4)) (Sp.strP (Sp.blksTo (Sp.B s) (s.size / 4))) F (argK I 4) 0)) = outL (Sp.fillM k (Sp.runG (Sp.stepU s) F (Sp.start Sp.pM I 4))) := by
  have hz := Sp.size_of_progB hp
  have fl := argK_flags I 4
  have fin := Sp.walk_sim (by omega) hk10 hp (fun b hb => Sp.str_fst _ _ b hb) (fun st i hi hb => Sp.stepU_next hp hi hb) F (argK I 4) (Sp.start Sp.pM I 4) 0 (rel_startM hk hk10 I 4 (by omega)) fl.1 fl.2 rfl (by omega)
  have gap := Sp.gap_walk (F := Sp.strP (Sp.blksTo (Sp.B s) (s.size / 4))) (Sp.code_gap (by omega) hp) F (argK I 4) 0 (argK_gap hk I 4 (by omega))
  refine outL_congr' fin.status fin.rel.value fin.rel.pub fin.rel.sec fin.rel.trace (fun j hj => ?_) (fun j hj => ?_)
  · show (Sp.walkP _ _ F (argK I 4) 0).pl j = if (j : Int) < k then _ else 0
    by_cases hlt : (j : Int) < k
    · rw [if_pos hlt]
      obtain ⟨h1, h2⟩ := Sp.reg_dig (k := k) (by omega) hk10 j hlt
      have := fin.rel.reg _ h1
      rw [h2, Int.toNat_natCast, show (48 + (j : Int)).toNat = 48 + j from by omega] at this
      exact this
    · rw [if_neg hlt]
      exact gap j (by omega) hj
  · show (Sp.walkP _ _ F (argK I 4) 0).pl (10 + j) = _
    obtain ⟨h1, h2⟩ := Sp.alpha_let j hj
    have := fin.rel.slt (by omega) _ h1
    rw [h2, show (10 + (j : Int)).toNat = 10 + j from by omega] at this
    exact this
end Go.Proofs.YtccndnckceagfabDoor
