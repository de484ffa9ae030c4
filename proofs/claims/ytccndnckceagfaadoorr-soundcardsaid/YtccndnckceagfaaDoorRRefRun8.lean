/-
  A step of the document's own run of a source program, whatever it is.
-/
import Derived.Test.YtccndnckceagfaaDoorRRefRun6
import Derived.Test.YtccndnckceagfaaDoorRRefRun7
namespace Go.Proofs.YtccndnckceagfaaDoorR
open Go.RowKit

namespace Sp
/-- one step of a run at instruction i: the state behind it, and whether the run goes on -/
def stepT (s : ByteArray) (st : St) (i : Nat) : St × Bool :=
  if B s (4 * i) = 114 then ({ st with next := i + 1, status := 0, value := st.hold (B s (4 * i + 1)).toNat }, false)
  else if B s (4 * i) = 106 then ({ st with next := fst (B s) (s.size / 4) (B s (4 * i + 1) - 48).toNat }, true)
  else if B s (4 * i) = 63 then
    (if st.hold (B s (4 * i + 1)).toNat ≠ 0 then ({ st with trace := st.trace ++ ⟨#[63, 49]⟩, next := fst (B s) (s.size / 4) (B s (4 * i + 2) - 48).toNat }, true)
     else ({ st with trace := st.trace ++ ⟨#[63, 48]⟩, next := fst (B s) (s.size / 4) (B s (4 * i + 3) - 48).toNat }, true))
  else if B s (4 * i) = 108 ∨ B s (4 * i) = 76 then
    (memO { st with next := i + 1 } (B s (4 * i)) (B s (4 * i + 1)) (B s (4 * i + 2)) (st.hold (B s (4 * i + 2)).toNat) (st.trace ++ (s.extract (4 * i) (4 * i + 4)).extract 0 1 ++ ⟨(Lib.decDigits (st.hold (B s (4 * i + 2)).toNat).toNat).toArray⟩), decide (st.hold (B s (4 * i + 2)).toNat < 8))
  else if B s (4 * i) = 115 ∨ B s (4 * i) = 83 then
    (memO { st with next := i + 1 } (B s (4 * i)) (B s (4 * i + 1)) (B s (4 * i + 2)) (st.hold (B s (4 * i + 1)).toNat) (st.trace ++ (s.extract (4 * i) (4 * i + 4)).extract 0 1 ++ ⟨(Lib.decDigits (st.hold (B s (4 * i + 1)).toNat).toNat).toArray⟩), decide (st.hold (B s (4 * i + 1)).toNat < 8))
  else if B s (4 * i) = 35 then ({ st with next := i + 1, hold := upd st.hold (B s (4 * i + 1)).toNat (10 * (B s (4 * i + 2) - 48) + (B s (4 * i + 3) - 48)) }, true)
  else if B s (4 * i) = 61 then ({ st with next := i + 1, hold := upd st.hold (B s (4 * i + 1)).toNat (st.hold (B s (4 * i + 2)).toNat) }, true)
  else ({ st with next := i + 1, hold := upd st.hold (B s (4 * i + 1)).toNat (cntS (B s (4 * i)) (st.hold (B s (4 * i + 2)).toNat) (st.hold (B s (4 * i + 3)).toNat)) }, true)

/-- of what bytes an instruction is made that no machine has alone -/
def InsB (c : Nat → Int) (nb i : Nat) : Prop :=
    (arithB (c (4 * i)) = true ∧ c (4 * i + 1) < 128 ∧ c (4 * i + 2) < 128 ∧ c (4 * i + 3) < 128) ∨
    (c (4 * i) = 35 ∧ c (4 * i + 1) < 128 ∧ (48 ≤ c (4 * i + 2) ∧ c (4 * i + 2) ≤ 57) ∧ (48 ≤ c (4 * i + 3) ∧ c (4 * i + 3) ≤ 57)) ∨
    ((c (4 * i) = 61 ∨ c (4 * i) = 108 ∨ c (4 * i) = 76 ∨ c (4 * i) = 115 ∨ c (4 * i) = 83) ∧ c (4 * i + 1) < 128 ∧ c (4 * i + 2) < 128) ∨
    (c (4 * i) = 106 ∧ 49 ≤ c (4 * i + 1) ∧ c (4 * i + 1) ≤ 57 ∧ c (4 * i + 1) - 48 < nb) ∨
    (c (4 * i) = 63 ∧ c (4 * i + 1) < 128 ∧ (49 ≤ c (4 * i + 2) ∧ c (4 * i + 2) ≤ 57 ∧ c (4 * i + 2) - 48 < nb) ∧ (49 ≤ c (4 * i + 3) ∧ c (4 * i + 3) ≤ 57 ∧ c (4 * i + 3) - 48 < nb)) ∨
    (c (4 * i) = 114 ∧ c (4 * i + 1) < 128)
theorem ins_bytes {c : Nat → Int} {nb i : Nat} (h : okIns c nb 0 i = true) : InsB c nb i := by
  unfold InsB
  have f0 := fit_of_okIns h 0 (by omega)
  have f1 := fit_of_okIns h 1 (by omega)
  have f2 := fit_of_okIns h 2 (by omega)
  have hz : (shp (c (4 * i)) false).size = 3 := by
    unfold okIns at h
    rw [Bool.and_eq_true, decide_eq_true_eq] at h
    exact h.1
  rw [show 4 * i + 0 + 1 = 4 * i + 1 from rfl] at f0
  rw [show 4 * i + 1 + 1 = 4 * i + 2 from rfl] at f1
  rw [show 4 * i + 2 + 1 = 4 * i + 3 from rfl] at f2
  simp only [show (decide ((0 : Int) < 0)) = false from rfl] at f0 f1 f2
  generalize c (4 * i) = o at *
  generalize c (4 * i + 1) = a at *
  generalize c (4 * i + 2) = b at *
  generalize c (4 * i + 3) = d at *
  have lt : ∀ x : Int, fitB x 82 0 nb = true → x < 128 := fun x hx => by
    simp [fitB, regB, letB, lowB, uppB] at hx
    omega
  have dg : ∀ x : Int, fitB x 78 0 nb = true → 48 ≤ x ∧ x ≤ 57 := fun x hx => by
    simpa [fitB, digB] using hx
  by_cases g1 : arithB o = true
  · have s1 : shp o false = ⟨#[82, 82, 82]⟩ := by simp [shp, g1]
    rw [s1] at f0 f1 f2
    exact Or.inl ⟨g1, lt a f0, lt b f1, lt d f2⟩
  rw [Bool.not_eq_true] at g1
  by_cases g2 : o = 35
  · have s1 : shp o false = ⟨#[82, 78, 78]⟩ := by simp [shp, arithB, g2]
    rw [s1] at f0 f1 f2
    exact Or.inr (Or.inl ⟨g2, lt a f0, dg b f1, dg d f2⟩)
  by_cases g3 : o = 61 ∨ o = 108 ∨ o = 76 ∨ o = 115 ∨ o = 83
  · have s1 : shp o false = ⟨#[82, 82, 46]⟩ := by simp [shp, g1, g2, g3]
    rw [s1] at f0 f1
    exact Or.inr (Or.inr (Or.inl ⟨g3, lt a f0, lt b f1⟩))
  by_cases g4 : o = 106
  · have s1 : shp o false = ⟨#[66, 46, 46]⟩ := by simp [g4, shp_106]
    rw [s1] at f0
    have k : fitB a 66 0 nb = true := f0
    exact Or.inr (Or.inr (Or.inr (Or.inl ⟨g4, fit_B k⟩)))
  by_cases g5 : o = 63
  · have s1 : shp o false = ⟨#[82, 66, 66]⟩ := by simp [g5, shp_63]
    rw [s1] at f0 f1 f2
    have k1 : fitB b 66 0 nb = true := f1
    have k2 : fitB d 66 0 nb = true := f2
    exact Or.inr (Or.inr (Or.inr (Or.inr (Or.inl ⟨g5, lt a f0, fit_B k1, fit_B k2⟩))))
  by_cases g6 : o = 114
  · have s1 : shp o false = ⟨#[82, 46, 46]⟩ := by simp [shp, g6, arithB]
    rw [s1] at f0
    exact Or.inr (Or.inr (Or.inr (Or.inr (Or.inr ⟨g6, lt a f0⟩))))
  · have s1 : shp o false = ⟨#[]⟩ := by simp [shp, g1, g2, g3, g4, g5, g6]
    rw [s1] at hz
    cases hz
end Sp

theorem step_bytes (b : Nat) (s : ByteArray) (st : Sp.St) (i : Nat) (w : World) (hS : StAt w b s st) (hok : st.ok 100000000) (hs : s.size ≤ 4096) (hi : st.next = i) (hin : i < s.size / 4) (hb : Sp.InsB (Sp.B s) (Sp.blocksTo (Sp.B s) (s.size / 4)) i) :
    Calls Tryd.prog 70 #[.pointer (some ⟨b, 0, none⟩)] w fun e w' => e = .returned (.bool (Sp.stepT s st i).2) ∧ StAt w' b s (Sp.stepT s st i).1 ∧ But w.heap.size b w w' := by
  rcases hb with ⟨g, h1, h2, h3⟩ | ⟨g, h1, h2, h3⟩ | ⟨g, h1, h2⟩ | ⟨g, h1, h2, h3⟩ | ⟨g, h1, ⟨h2, h2', h2''⟩, h3, h3', h3''⟩ | ⟨g, h1⟩
  · have hne : Sp.B s (4 * i) ≠ 114 ∧ Sp.B s (4 * i) ≠ 106 ∧ Sp.B s (4 * i) ≠ 63 ∧ Sp.B s (4 * i) ≠ 108 ∧ Sp.B s (4 * i) ≠ 76 ∧ Sp.B s (4 * i) ≠ 115 ∧ Sp.B s (4 * i) ≠ 83 ∧ Sp.B s (4 * i) ≠ 62 ∧ Sp.B s (4 * i) ≠ 60 ∧ Sp.B s (4 * i) ≠ 126 ∧ Sp.B s (4 * i) ≠ 35 ∧ Sp.B s (4 * i) ≠ 61 := by
      simp [Sp.arithB] at g
      omega
    obtain ⟨n1, n2, n3, n4, n5, n6, n7, _, _, _, n11, n12⟩ := id hne
    have e : Sp.stepT s st i = ({ st with next := i + 1, hold := Sp.upd st.hold (Sp.B s (4 * i + 1)).toNat (Sp.cntS (Sp.B s (4 * i)) (st.hold (Sp.B s (4 * i + 2)).toNat) (st.hold (Sp.B s (4 * i + 3)).toNat)) }, true) := by
      simp [Sp.stepT, n1, n2, n3, n4, n5, n6, n7, n11, n12]
    rw [e]
    exact step_a b s st i w hS hok hs hi hin _ rfl hne h1 h2 h3
  · have e : Sp.stepT s st i = ({ st with next := i + 1, hold := Sp.upd st.hold (Sp.B s (4 * i + 1)).toNat (10 * (Sp.B s (4 * i + 2) - 48) + (Sp.B s (4 * i + 3) - 48)) }, true) := by
      simp [Sp.stepT, g]
    rw [e]
    exact step_n b s st i w hS hok hs hi hin g h1 h2 h3
  · rcases g with g | g | g | g | g
    · have e : Sp.stepT s st i = ({ st with next := i + 1, hold := Sp.upd st.hold (Sp.B s (4 * i + 1)).toNat (st.hold (Sp.B s (4 * i + 2)).toNat) }, true) := by simp [Sp.stepT, g]
      rw [e]
      exact step_eq b s st i w hS hok hs hi hin g h1 h2
    · refine (step_l b s st i w hS hok hs hi hin g h1 h2).mono ?_
      rintro e w' ⟨rfl, a, c⟩
      have e : Sp.stepT s st i = (Sp.memO { st with next := i + 1 } 108 (Sp.B s (4 * i + 1)) (Sp.B s (4 * i + 2)) (st.hold (Sp.B s (4 * i + 2)).toNat) (st.trace ++ (s.extract (4 * i) (4 * i + 4)).extract 0 1 ++ ⟨(Lib.decDigits (st.hold (Sp.B s (4 * i + 2)).toNat).toNat).toArray⟩), decide (st.hold (Sp.B s (4 * i + 2)).toNat < 8)) := by simp [Sp.stepT, g]
      rw [e]
      exact ⟨rfl, a, c⟩
    · refine (step_L b s st i w hS hok hs hi hin g h1 h2).mono ?_
      rintro e w' ⟨rfl, a, c⟩
      have e : Sp.stepT s st i = (Sp.memO { st with next := i + 1 } 76 (Sp.B s (4 * i + 1)) (Sp.B s (4 * i + 2)) (st.hold (Sp.B s (4 * i + 2)).toNat) (st.trace ++ (s.extract (4 * i) (4 * i + 4)).extract 0 1 ++ ⟨(Lib.decDigits (st.hold (Sp.B s (4 * i + 2)).toNat).toNat).toArray⟩), decide (st.hold (Sp.B s (4 * i + 2)).toNat < 8)) := by simp [Sp.stepT, g]
      rw [e]
      exact ⟨rfl, a, c⟩
    · refine (step_s b s st i w hS hok hs hi hin g h1 h2).mono ?_
      rintro e w' ⟨rfl, a, c⟩
      have e : Sp.stepT s st i = (Sp.memO { st with next := i + 1 } 115 (Sp.B s (4 * i + 1)) (Sp.B s (4 * i + 2)) (st.hold (Sp.B s (4 * i + 1)).toNat) (st.trace ++ (s.extract (4 * i) (4 * i + 4)).extract 0 1 ++ ⟨(Lib.decDigits (st.hold (Sp.B s (4 * i + 1)).toNat).toNat).toArray⟩), decide (st.hold (Sp.B s (4 * i + 1)).toNat < 8)) := by simp [Sp.stepT, g]
      rw [e]
      exact ⟨rfl, a, c⟩
    · refine (step_S b s st i w hS hok hs hi hin g h1 h2).mono ?_
      rintro e w' ⟨rfl, a, c⟩
      have e : Sp.stepT s st i = (Sp.memO { st with next := i + 1 } 83 (Sp.B s (4 * i + 1)) (Sp.B s (4 * i + 2)) (st.hold (Sp.B s (4 * i + 1)).toNat) (st.trace ++ (s.extract (4 * i) (4 * i + 4)).extract 0 1 ++ ⟨(Lib.decDigits (st.hold (Sp.B s (4 * i + 1)).toNat).toNat).toArray⟩), decide (st.hold (Sp.B s (4 * i + 1)).toNat < 8)) := by simp [Sp.stepT, g]
      rw [e]
      exact ⟨rfl, a, c⟩
  · have e : Sp.stepT s st i = ({ st with next := Sp.fst (Sp.B s) (s.size / 4) (Sp.B s (4 * i + 1) - 48).toNat }, true) := by simp [Sp.stepT, g]
    rw [e]
    exact step_j b s st i w hS hok hs hi hin g (by omega) (by omega)
  · by_cases hv : st.hold (Sp.B s (4 * i + 1)).toNat = 0
    · have e : Sp.stepT s st i = ({ st with trace := st.trace ++ ⟨#[63, 48]⟩, next := Sp.fst (Sp.B s) (s.size / 4) (Sp.B s (4 * i + 3) - 48).toNat }, true) := by simp [Sp.stepT, g, hv]
      rw [e]
      exact step_q0 b s st i w hS hok hs hi hin g h1 (by omega) (by omega) hv
    · have e : Sp.stepT s st i = ({ st with trace := st.trace ++ ⟨#[63, 49]⟩, next := Sp.fst (Sp.B s) (s.size / 4) (Sp.B s (4 * i + 2) - 48).toNat }, true) := by simp [Sp.stepT, g, hv]
      rw [e]
      exact step_q1 b s st i w hS hok hs hi hin g h1 (by omega) (by omega) hv
  · have e : Sp.stepT s st i = ({ st with next := i + 1, status := 0, value := st.hold (Sp.B s (4 * i + 1)).toNat }, false) := by simp [Sp.stepT, g]
    rw [e]
    exact step_r b s st i w hS hok hs hi hin g h1
theorem step_any (b : Nat) (s : ByteArray) (st : Sp.St) (i : Nat) (w : World) (hS : StAt w b s st) (hok : st.ok 100000000) (hs : s.size ≤ 4096) (hi : st.next = i) (hin : i < s.size / 4) (hp : Sp.progB (Sp.B s) s.size 0 = true) :
    Calls Tryd.prog 70 #[.pointer (some ⟨b, 0, none⟩)] w fun e w' => e = .returned (.bool (Sp.stepT s st i).2) ∧ StAt w' b s (Sp.stepT s st i).1 ∧ But w.heap.size b w w' :=
  step_bytes b s st i w hS hok hs hi hin (Sp.ins_bytes (Sp.okIns_of_progB hp i hin))
end Go.Proofs.YtccndnckceagfaaDoorR
