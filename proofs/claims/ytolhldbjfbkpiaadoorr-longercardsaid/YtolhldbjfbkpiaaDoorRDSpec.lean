/-
  The plain mathematics of the program's own reading of a text: instructions taken apart.
-/
import Derived.Test.YtolhldbjfbkpiaaDoorRWant
namespace Go.Proofs.YtolhldbjfbkpiaaDoorR.Sp

structure Ins where
  o : Int
  d : Int
  x : Int
  y : Int
  n : Int
  k : Int
  m : Int

def rgO (b : Int) : Int := if lowB b = true then b - 97 else if uppB b = true then b - 65 + 26 else -1
def dgO (b : Int) : Int := if digB b = true then b - 48 else -1
def isTgt (b n : Int) : Bool := b == -1 || (decide (1 ≤ b) && decide (b < n))
def endI (i : Ins) : Bool := endB i.o
def secB (r : Int) : Bool := decide (26 ≤ r)
def showI (i : Ins) : Bool :=
  if arithB i.o = true ∨ i.o = 61 then !(secB i.d) && (secB i.x || secB i.y)
  else if i.o = 108 ∨ i.o = 83 ∨ i.o = 63 then secB i.x
  else if i.o = 76 then secB i.x || !(secB i.d)
  else if i.o = 115 then secB i.x || secB i.y
  else false
def dshp (o : Int) : ByteArray :=
  if arithB o = true then ⟨#[100, 120, 121]⟩
  else if o = 35 then ⟨#[100, 110, 110]⟩
  else if o = 61 ∨ o = 108 ∨ o = 76 then ⟨#[100, 120, 46]⟩
  else if o = 115 ∨ o = 83 then ⟨#[120, 121, 46]⟩
  else if o = 106 then ⟨#[107, 46, 46]⟩
  else if o = 63 then ⟨#[120, 107, 109]⟩
  else if o = 114 then ⟨#[120, 46, 46]⟩
  else ⟨#[]⟩
/-- does the byte fit where the shape has p? -/
def tkB (p c : Int) : Bool :=
  if p = 100 ∨ p = 120 ∨ p = 121 then rgO c != -1
  else if p = 110 ∨ p = 107 ∨ p = 109 then dgO c != -1
  else c == p
/-- the instruction behind it -/
def tkI (i : Ins) (p c : Int) : Ins :=
  if p = 100 then { i with d := rgO c }
  else if p = 120 then { i with x := rgO c }
  else if p = 121 then { i with y := rgO c }
  else if p = 110 then { i with n := i.n * 10 + dgO c }
  else if p = 107 then { i with k := dgO c }
  else if p = 109 then { i with m := dgO c }
  else i
theorem dgO_bd (c : Int) : -1 ≤ dgO c ∧ dgO c ≤ 9 := by
  simp only [dgO, digB, decide_eq_true_eq]
  split <;> omega
theorem rgO_bd (c : Int) : -1 ≤ rgO c ∧ rgO c ≤ 51 := by
  simp only [rgO, lowB, uppB, decide_eq_true_eq]
  repeat' split
  all_goals omega
/-- the instruction behind q bytes of its text -/
def tkN (o : Int) (a : Nat → Int) : Nat → Ins
  | 0 => ⟨o, -1, -1, -1, 0, -1, -1⟩
  | q + 1 => tkI (tkN o a q) (B (dshp o) q) (a q)
def dokB (o : Int) (a : Nat → Int) : Bool := decide ((dshp o).size = 3) && (tkB (B (dshp o) 0) (a 0) && tkB (B (dshp o) 1) (a 1) && tkB (B (dshp o) 2) (a 2))
theorem tkI_n (i : Ins) (p c : Int) : (tkI i p c).n = i.n ∨ (tkI i p c).n = i.n * 10 + dgO c := by
  unfold tkI
  repeat' split
  all_goals first | exact Or.inl rfl | exact Or.inr rfl
theorem tkN_n (o : Int) (a : Nat → Int) (q : Nat) (h : q ≤ 2) : -1000 ≤ (tkN o a q).n ∧ (tkN o a q).n ≤ 1000 := by
  have h0 : (tkN o a 0).n = 0 := rfl
  have h1 := tkI_n (tkN o a 0) (B (dshp o) 0) (a 0)
  have h2 := tkI_n (tkN o a 1) (B (dshp o) 1) (a 1)
  have d0 := dgO_bd (a 0)
  have d1 := dgO_bd (a 1)
  have e1 : tkN o a 1 = tkI (tkN o a 0) (B (dshp o) 0) (a 0) := rfl
  have e2 : tkN o a 2 = tkI (tkN o a 1) (B (dshp o) 1) (a 1) := rfl
  rw [← e1] at h1
  rw [← e2] at h2
  have : q = 0 ∨ q = 1 ∨ q = 2 := by omega
  rcases this with rfl | rfl | rfl <;> omega
theorem tkI_o (i : Ins) (p c : Int) : (tkI i p c).o = i.o := by
  unfold tkI
  repeat' split
  all_goals rfl
theorem tkN_o (o : Int) (a : Nat → Int) (q : Nat) : (tkN o a q).o = o := by
  induction q with
  | zero => rfl
  | succ q ih => simp only [tkN]; rw [tkI_o, ih]
theorem dshp_size (o : Int) : (dshp o).size = 0 ∨ (dshp o).size = 3 := by
  have ite_ok : ∀ (p : Prop) [Decidable p] (a b : ByteArray), (a.size = 0 ∨ a.size = 3) → (b.size = 0 ∨ b.size = 3) → ((if p then a else b).size = 0 ∨ (if p then a else b).size = 3) := by
    intro p _ a b h1 h2; split <;> assumption
  unfold dshp
  repeat' (first | exact Or.inl rfl | exact Or.inr rfl | refine ite_ok _ _ _ ?_ ?_)
end Go.Proofs.YtolhldbjfbkpiaaDoorR.Sp
