/-
  The beginning of the document's own run: arguments and memories laid.
  The document's own memory instructions.
  One step of the document's own run.
  One step of the document's own run, further.
  One step of the document's own run, further.
  One step of the document's own run, further.
  A step of the document's own run of a source program, whatever it is.
-/
import Derived.Test.YtccndnckceagfabGreatDoorRG04
import Derived.Deep.MidRow
import Derived.Deep.Cut
import Derived.Test.YtccndnckceagfabGreatDoorRG01
import Derived.Deep.RegionHeld3
namespace Go.Proofs.YtccndnckceagfabGreatDoorR
open Go.RowKit

def arrL (f : Nat → Int) : List Value := (List.range 8).map (fun j => .int .i64 (f j))
theorem arrL_len (f : Nat → Int) : (arrL f).length = 8 := by simp [arrL]
theorem arrL_at (f : Nat → Int) (r : Nat) (hr : r < 8) : (arrL f)[r]? = some (.int .i64 (f r)) := by simp [arrL, hr]
theorem arrL_one (f : Nat → Int) : ∀ v ∈ arrL f, v.oneCell' = true := by
  intro v hv
  simp only [arrL, List.mem_map] at hv
  obtain ⟨r, _, rfl⟩ := hv
  rfl
theorem info_arr8 : (Tryz.prog.info? 23).map (·.size) = some 8 := by kernel_rfl
/-- eight numbers read whole -/
theorem wpList_load8 {ops : Array Oper} {rest : List Oper} {op : Oper} {a : Act} {w : World} {Q : Exit → Act → World → Prop} (hgd : op.guard = none) (x : Operand) (ho : op.op = .load 23 x)
    (b o : Nat) (f : Nat → Int) (hx : a.eval x = .pointer (some ⟨b, o, none⟩)) (hf : ∀ j, j < 8 → w.cell? ⟨b, o + j, none⟩ = some (.int .i64 (f j)))
    (h : wpList Tryz.prog ops Q rest (a.put op.dst (.agg (arrL f).toArray)) w) : wpList Tryz.prog ops Q (op :: rest) a w :=
  wpList_load_mid hgd 23 x ho b o hx (arrL f) _ (fun j v hj => by
    have hj' : j < 8 := by have := (List.getElem?_eq_some_iff.1 hj).1; rwa [arrL_len] at this
    rw [arrL_at f j hj'] at hj
    rw [hf j hj', ← hj]) Tryz.underlying23 rfl (by rw [arrL_len]; exact info_arr8) h
theorem only_cells (w : World) (b o : Nat) (vs : List Value) : But w.heap.size b w (w.setCells b o vs) ∧ (w.setCells b o vs).heap.size = w.heap.size := by
  induction vs generalizing o w with
  | nil => exact ⟨But.refl _ _ _, rfl⟩
  | cons v vs ih =>
    obtain ⟨h1, h2⟩ := ih (w.setCell ⟨b, o, none⟩ v) (o + 1)
    have hs : (w.setCell ⟨b, o, none⟩ v).heap.size = w.heap.size := by simp [World.setCell]
    rw [hs] at h1 h2
    exact ⟨(But.set _ _).trans h1, h2⟩
theorem row_setCells {w : World} {b t n : Nat} {f : Nat → Value} (h : w.rowIs b t n f) : ∀ (vs : List Value) (o : Nat), o + vs.length ≤ n → (w.setCells b o vs).rowIs b t n (fun j => if o ≤ j ∧ j < o + vs.length then vs.getD (j - o) undef else f j) := by
  intro vs
  induction vs generalizing w f with
  | nil => intro o _; exact h.congr (fun j _ => by rw [if_neg (by simp)])
  | cons v vs ih =>
    intro o ho
    simp only [List.length_cons] at ho
    have := ih (h.set o v) (o + 1) (by omega)
    refine this.congr (fun j hj => ?_)
    simp only [List.length_cons]
    by_cases e : j = o
    · subst e
      rw [if_neg (by omega), if_pos rfl, if_pos (by omega)]
      simp
    · by_cases c : o + 1 ≤ j ∧ j < o + 1 + vs.length
      · rw [if_pos c, if_pos (by omega)]
        rw [show j - o = (j - (o + 1)) + 1 from by omega, List.getD_cons_succ]
      · rw [if_neg c, if_neg e, if_neg (by omega)]
theorem st_pub {s : ByteArray} {st : Sp.St} (f : Nat → Int) (j : Nat) (_hj : j < 211) : (if 132 ≤ j ∧ j < 132 + (arrL f).length then (arrL f).getD (j - 132) undef else stF s st j) = stF s { st with pub := f } j := by
  rw [arrL_len]
  by_cases c : 132 ≤ j ∧ j < 132 + 8
  · rw [if_pos c, List.getD_eq_getElem?_getD, arrL_at f _ (by omega)]
    unfold stF
    rw [if_neg (by omega), if_neg (by omega), if_neg (by omega), if_neg (by omega), if_neg (by omega), if_pos (by omega)]
    rfl
  · rw [if_neg c]
    unfold stF
    by_cases c0 : j = 0
    · simp [c0]
    by_cases c1 : j ≤ 128
    · simp [c0, c1]
    by_cases c2 : j = 129
    · simp [c2]
    by_cases c3 : j = 130
    · simp [c3]
    by_cases c4 : j = 131
    · simp [c4]
    · simp [c0, c1, c2, c3, c4, show ¬ j ≤ 139 by omega]
theorem st_sec {s : ByteArray} {st : Sp.St} (f : Nat → Int) (j : Nat) (_hj : j < 211) : (if 140 ≤ j ∧ j < 140 + (arrL f).length then (arrL f).getD (j - 140) undef else stF s st j) = stF s { st with sec := f } j := by
  rw [arrL_len]
  by_cases c : 140 ≤ j ∧ j < 140 + 8
  · rw [if_pos c, List.getD_eq_getElem?_getD, arrL_at f _ (by omega)]
    unfold stF
    rw [if_neg (by omega), if_neg (by omega), if_neg (by omega), if_neg (by omega), if_neg (by omega), if_neg (by omega), if_pos (by omega)]
    rfl
  · rw [if_neg c]
    unfold stF
    by_cases c0 : j = 0
    · simp [c0]
    by_cases c1 : j ≤ 128
    · simp [c0, c1]
    by_cases c2 : j = 129
    · simp [c2]
    by_cases c3 : j = 130
    · simp [c3]
    by_cases c4 : j = 131
    · simp [c4]
    by_cases c5 : j ≤ 139
    · simp [c0, c1, c2, c3, c4, c5]
    · simp [c0, c1, c2, c3, c4, c5, show ¬ j ≤ 147 by omega]
theorem row_there {w : World} {b t n : Nat} {f : Nat → Value} (h : w.rowIs b t n f) (o k : Nat) (hk : o + k ≤ n) : w.there b o k := fun j hj => ⟨by rw [h.cell (show o + j < n by omega)]; rfl, h.frozen _⟩
def st0 : Sp.St := ⟨fun _ => 0, 0, 0, 0, fun _ => 0, fun _ => 0, ⟨#[]⟩, fun _ => 0, fun _ => 0⟩
end Go.Proofs.YtccndnckceagfabGreatDoorR

namespace Go.Proofs.YtccndnckceagfabGreatDoorR
open Go.RowKit

namespace Sp
/-- what a memory instruction with the bytes o, a, b leaves of a state, its place being n, its trace T -/
def memS (st : St) (o a b n : Int) (T : ByteArray) : St :=
  if 8 ≤ n then { st with trace := T ++ ⟨#[33]⟩ }
  else if o = 108 then { st with trace := T, hold := upd st.hold a.toNat (st.pub n.toNat) }
  else if o = 76 then { st with trace := T, hold := upd st.hold a.toNat (st.sec n.toNat) }
  else if o = 115 then { st with trace := T, pub := upd st.pub n.toNat (st.hold b.toNat) }
  else { st with trace := T, sec := upd st.sec n.toNat (st.hold b.toNat) }
end Sp

theorem but_of_below {w w1 : World} {p : Nat} (h : Below w.drew.heap.size w.drew w1) : But w.heap.size p w w1 := ⟨h.os, h.tape, h.output, h.size, fun k hk _ => h.block k hk⟩

theorem dec_size (t y : ByteArray) (n : Nat) (ht : t.size ≤ 100000000) (hy : y.size ≤ 4) (hl : (Lib.decDigits n).length ≤ 7) : (t ++ y ++ (⟨(Lib.decDigits n).toArray⟩ : ByteArray)).size ≤ 200000000 := by
  rw [ByteArray.size_append, ByteArray.size_append]
  have : (⟨(Lib.decDigits n).toArray⟩ : ByteArray).size = (Lib.decDigits n).length := by simp [ByteArray.size]
  omega

theorem But.drew {B p : Nat} {u v : World} (h : But B p u v) : But B p u v.drew := ⟨h.os, h.tape, h.output, h.size, h.block⟩

end Go.Proofs.YtccndnckceagfabGreatDoorR

namespace Go.Proofs.YtccndnckceagfabGreatDoorR
open Go.RowKit

theorem But.drewN {B p : Nat} {u v : World} (h : But B p u v) (n : Nat) : But B p u (v.drewN n) := ⟨h.os, h.tape, h.output, h.size, h.block⟩

namespace Sp
/-- one step of a run at instruction i: the state behind it, and whether the run goes on -/
def stepS (c : Nat → Int) (n : Nat) (st : St) (i : Nat) (x0 : ByteArray) : St × Bool :=
  if c (4 * i) = 114 then ({ st with next := i + 1, status := 0, value := st.hold (c (4 * i + 1)).toNat }, false)
  else if c (4 * i) = 106 then ({ st with next := fst c n (c (4 * i + 1) - 48).toNat }, true)
  else if c (4 * i) = 63 then
    (if st.hold (c (4 * i + 1)).toNat ≠ 0 then ({ st with trace := st.trace ++ ⟨#[63, 49]⟩, next := fst c n (c (4 * i + 2) - 48).toNat }, true)
     else ({ st with trace := st.trace ++ ⟨#[63, 48]⟩, next := fst c n (c (4 * i + 3) - 48).toNat }, true))
  else if c (4 * i) = 108 ∨ c (4 * i) = 76 ∨ c (4 * i) = 115 ∨ c (4 * i) = 83 then
    (let v := st.hold (if c (4 * i) = 115 ∨ c (4 * i) = 83 then c (4 * i + 1) else c (4 * i + 2)).toNat
     let r := memS { st with next := i + 1 } (c (4 * i)) (c (4 * i + 1)) (c (4 * i + 2)) v (st.trace ++ x0 ++ ⟨(Lib.decDigits v.toNat).toArray⟩)
     if v < 8 then (r, true) else ({ r with status := 1 }, false))
  else if c (4 * i) = 35 then ({ st with next := i + 1, hold := upd st.hold (c (4 * i + 1)).toNat (10 * (c (4 * i + 2) - 48) + (c (4 * i + 3) - 48)) }, true)
  else if c (4 * i) = 61 then ({ st with next := i + 1, hold := upd st.hold (c (4 * i + 1)).toNat (st.hold (c (4 * i + 2)).toNat) }, true)
  else ({ st with next := i + 1, hold := upd st.hold (c (4 * i + 1)).toNat (cntS (c (4 * i)) (st.hold (c (4 * i + 2)).toNat) (st.hold (c (4 * i + 3)).toNat)) }, true)
end Sp

end Go.Proofs.YtccndnckceagfabGreatDoorR

namespace Go.Proofs.YtccndnckceagfabGreatDoorR
open Go.RowKit

end Go.Proofs.YtccndnckceagfabGreatDoorR

namespace Go.Proofs.YtccndnckceagfabGreatDoorR
open Go.RowKit

theorem keep1 {w : World} {b o o' : Nat} {v u : Value} (h : o' ≠ o) (hc : w.cell? ⟨b, o', none⟩ = some u) : (w.setCell ⟨b, o, none⟩ v).drew.cell? ⟨b, o', none⟩ = some u := by
  show (w.setCell ⟨b, o, none⟩ v).cell? ⟨b, o', none⟩ = some u
  rw [World.cell?_setCell_other (a := ⟨b, o, none⟩) (b := ⟨b, o', none⟩) (h := fun e => h (congrArg Addr.off e).symm)]
  exact hc

end Go.Proofs.YtccndnckceagfabGreatDoorR

namespace Go.Proofs.YtccndnckceagfabGreatDoorR
open Go.RowKit

/-- .. and how it ends where it traps -/
def Sp.memO (st : Sp.St) (o a b n : Int) (T : ByteArray) : Sp.St := if n < 8 then Sp.memS st o a b n T else { Sp.memS st o a b n T with status := 1 }

end Go.Proofs.YtccndnckceagfabGreatDoorR

namespace Go.Proofs.YtccndnckceagfabGreatDoorR
open Go.RowKit

namespace Sp
/-- one step of a run at instruction i: the state behind it, and whether the run goes on -/
def stepT (s : ByteArray) (st : St) (i : Nat) : St × Bool :=
  if B s (4 * i) = 114 then ({ st with next := i + 1, status := 0, value := st.hold (B s (4 * i + 1)).toNat }, false)
  else if B s (4 * i) = 106 then ({ st with next := fst (B s) (s.size / 4) (B s (4 * i + 1) - 48).toNat }, true)
  else if B s (4 * i) = 63 then
    (if st.hold (B s (4 * i + 1)).toNat ≠ 0 then ({ st with trace := st.trace ++ ⟨#[63, 49]⟩, next := fst (B s) (s.size / 4) (B s (4 * i + 2) - 48).toNat }, true)
     else ({ st with trace := st.trace ++ ⟨#[63, 48]⟩, next := fst (B s) (s.size / 4) (B s (4 * i + 3) - 48).toNat }, true))
  else if B s (4 * i) = 108 ∨ B s (4 * i) = 76 then
    (memO { st with next := i + 1 } (B s (4 * i)) (B s (4 * i + 1)) (B s (4 * i + 2)) (st.hold (B s (4 * i + 2)).toNat) (st.trace ++ (s.extract (4 * i) (4 * i + 4)).extract 0 1 ++ ⟨(Lib.decDigits (st.hold (B s (4 * i + 2)).toNat).toNat).toArray⟩), decide (st.hold (B s (4 * i + 2)).toNat < 8))
  else if B s (4 * i) = 115 ∨ B s (4 * i) = 83 then
    (memO { st with next := i + 1 } (B s (4 * i)) (B s (4 * i + 1)) (B s (4 * i + 2)) (st.hold (B s (4 * i + 1)).toNat) (st.trace ++ (s.extract (4 * i) (4 * i + 4)).extract 0 1 ++ ⟨(Lib.decDigits (st.hold (B s (4 * i + 1)).toNat).toNat).toArray⟩), decide (st.hold (B s (4 * i + 1)).toNat < 8))
  else if B s (4 * i) = 35 then ({ st with next := i + 1, hold := upd st.hold (B s (4 * i + 1)).toNat (10 * (B s (4 * i + 2) - 48) + (B s (4 * i + 3) - 48)) }, true)
  else if B s (4 * i) = 61 then ({ st with next := i + 1, hold := upd st.hold (B s (4 * i + 1)).toNat (st.hold (B s (4 * i + 2)).toNat) }, true)
  else ({ st with next := i + 1, hold := upd st.hold (B s (4 * i + 1)).toNat (cntS (B s (4 * i)) (st.hold (B s (4 * i + 2)).toNat) (st.hold (B s (4 * i + 3)).toNat)) }, true)

/-- of what bytes an instruction is made that no machine has alone -/
def InsB (c : Nat → Int) (nb i : Nat) : Prop :=
    (arithB (c (4 * i)) = true ∧ c (4 * i + 1) < 128 ∧ c (4 * i + 2) < 128 ∧ c (4 * i + 3) < 128) ∨
    (c (4 * i) = 35 ∧ c (4 * i + 1) < 128 ∧ (48 ≤ c (4 * i + 2) ∧ c (4 * i + 2) ≤ 57) ∧ (48 ≤ c (4 * i + 3) ∧ c (4 * i + 3) ≤ 57)) ∨
    ((c (4 * i) = 61 ∨ c (4 * i) = 108 ∨ c (4 * i) = 76 ∨ c (4 * i) = 115 ∨ c (4 * i) = 83) ∧ c (4 * i + 1) < 128 ∧ c (4 * i + 2) < 128) ∨
    (c (4 * i) = 106 ∧ 49 ≤ c (4 * i + 1) ∧ c (4 * i + 1) ≤ 57 ∧ c (4 * i + 1) - 48 < nb) ∨
    (c (4 * i) = 63 ∧ c (4 * i + 1) < 128 ∧ (49 ≤ c (4 * i + 2) ∧ c (4 * i + 2) ≤ 57 ∧ c (4 * i + 2) - 48 < nb) ∧ (49 ≤ c (4 * i + 3) ∧ c (4 * i + 3) ≤ 57 ∧ c (4 * i + 3) - 48 < nb)) ∨
    (c (4 * i) = 114 ∧ c (4 * i + 1) < 128)
theorem ins_bytes {c : Nat → Int} {nb i : Nat} (h : okIns c nb 0 i = true) : InsB c nb i := by
  unfold InsB
  have f0 := fit_of_okIns h 0 (by omega)
  have f1 := fit_of_okIns h 1 (by omega)
  have f2 := fit_of_okIns h 2 (by omega)
  have hz : (shp (c (4 * i)) false).size = 3 := by
    unfold okIns at h
    rw [Bool.and_eq_true, decide_eq_true_eq] at h
    exact h.1
  rw [show 4 * i + 0 + 1 = 4 * i + 1 from rfl] at f0
  rw [show 4 * i + 1 + 1 = 4 * i + 2 from rfl] at f1
  rw [show 4 * i + 2 + 1 = 4 * i + 3 from rfl] at f2
  simp only [show (decide ((0 : Int) < 0)) = false from rfl] at f0 f1 f2
  generalize c (4 * i) = o at *
  generalize c (4 * i + 1) = a at *
  generalize c (4 * i + 2) = b at *
  generalize c (4 * i + 3) = d at *
  have lt : ∀ x : Int, fitB x 82 0 nb = true → x < 128 := fun x hx => by
    simp [fitB, regB, letB, lowB, uppB] at hx
    omega
  have dg : ∀ x : Int, fitB x 78 0 nb = true → 48 ≤ x ∧ x ≤ 57 := fun x hx => by
    simpa [fitB, digB] using hx
  by_cases g1 : arithB o = true
  · have s1 : shp o false = ⟨#[82, 82, 82]⟩ := by simp [shp, g1]
    rw [s1] at f0 f1 f2
    exact Or.inl ⟨g1, lt a f0, lt b f1, lt d f2⟩
  rw [Bool.not_eq_true] at g1
  by_cases g2 : o = 35
  · have s1 : shp o false = ⟨#[82, 78, 78]⟩ := by simp [shp, arithB, g2]
    rw [s1] at f0 f1 f2
    exact Or.inr (Or.inl ⟨g2, lt a f0, dg b f1, dg d f2⟩)
  by_cases g3 : o = 61 ∨ o = 108 ∨ o = 76 ∨ o = 115 ∨ o = 83
  · have s1 : shp o false = ⟨#[82, 82, 46]⟩ := by simp [shp, g1, g2, g3]
    rw [s1] at f0 f1
    exact Or.inr (Or.inr (Or.inl ⟨g3, lt a f0, lt b f1⟩))
  by_cases g4 : o = 106
  · have s1 : shp o false = ⟨#[66, 46, 46]⟩ := by simp [g4, shp_106]
    rw [s1] at f0
    have k : fitB a 66 0 nb = true := f0
    exact Or.inr (Or.inr (Or.inr (Or.inl ⟨g4, fit_B k⟩)))
  by_cases g5 : o = 63
  · have s1 : shp o false = ⟨#[82, 66, 66]⟩ := by simp [g5, shp_63]
    rw [s1] at f0 f1 f2
    have k1 : fitB b 66 0 nb = true := f1
    have k2 : fitB d 66 0 nb = true := f2
    exact Or.inr (Or.inr (Or.inr (Or.inr (Or.inl ⟨g5, lt a f0, fit_B k1, fit_B k2⟩))))
  by_cases g6 : o = 114
  · have s1 : shp o false = ⟨#[82, 46, 46]⟩ := by simp [shp, g6, arithB]
    rw [s1] at f0
    exact Or.inr (Or.inr (Or.inr (Or.inr (Or.inr ⟨g6, lt a f0⟩))))
  · have s1 : shp o false = ⟨#[]⟩ := by simp [shp, g1, g2, g3, g4, g5, g6]
    rw [s1] at hz
    cases hz
end Sp

end Go.Proofs.YtccndnckceagfabGreatDoorR
