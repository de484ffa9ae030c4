/-
  The plain mathematics of the program's own reading of a text: instructions taken apart.
  The program's reading of a whole text against the document's: plain mathematics.
  The plain mathematics of the program's own reading of a text, for a machine of k registers too; k = 0 stands for a source program.
-/
import Derived.Test.YtccndnckceagfabGreatDoorRG01
namespace Go.Proofs.YtccndnckceagfabGreatDoorR.Sp

structure Ins where
  o : Int
  d : Int
  x : Int
  y : Int
  n : Int
  k : Int
  m : Int

def rgO (b : Int) : Int := if lowB b = true then b - 97 else if uppB b = true then b - 65 + 26 else -1
def dgO (b : Int) : Int := if digB b = true then b - 48 else -1
def isTgt (b n : Int) : Bool := b == -1 || (decide (1 ≤ b) && decide (b < n))
def endI (i : Ins) : Bool := endB i.o
def secB (r : Int) : Bool := decide (26 ≤ r)
def showI (i : Ins) : Bool :=
  if arithB i.o = true ∨ i.o = 61 then !(secB i.d) && (secB i.x || secB i.y)
  else if i.o = 108 ∨ i.o = 83 ∨ i.o = 63 then secB i.x
  else if i.o = 76 then secB i.x || !(secB i.d)
  else if i.o = 115 then secB i.x || secB i.y
  else false
def dshp (o : Int) : ByteArray :=
  if arithB o = true then ⟨#[100, 120, 121]⟩
  else if o = 35 then ⟨#[100, 116, 110]⟩
  else if o = 61 ∨ o = 108 ∨ o = 76 then ⟨#[100, 120, 46]⟩
  else if o = 115 ∨ o = 83 then ⟨#[120, 121, 46]⟩
  else if o = 106 then ⟨#[107, 46, 46]⟩
  else if o = 63 then ⟨#[120, 107, 109]⟩
  else if o = 114 then ⟨#[120, 46, 46]⟩
  else ⟨#[]⟩
/-- does the byte fit where the shape has p? -/
def tkB (p c : Int) : Bool :=
  if p = 100 ∨ p = 120 ∨ p = 121 then rgO c != -1
  else if p = 116 ∨ p = 110 ∨ p = 107 ∨ p = 109 then dgO c != -1
  else c == p
/-- the instruction behind it -/
def tkI (i : Ins) (p c : Int) : Ins :=
  if p = 100 then { i with d := rgO c }
  else if p = 120 then { i with x := rgO c }
  else if p = 121 then { i with y := rgO c }
  else if p = 116 ∨ p = 110 then { i with n := i.n * 10 + dgO c }
  else if p = 107 then { i with k := dgO c }
  else if p = 109 then { i with m := dgO c }
  else i
theorem dgO_bd (c : Int) : -1 ≤ dgO c ∧ dgO c ≤ 9 := by
  simp only [dgO, digB, decide_eq_true_eq]
  split <;> omega
theorem rgO_bd (c : Int) : -1 ≤ rgO c ∧ rgO c ≤ 51 := by
  simp only [rgO, lowB, uppB, decide_eq_true_eq]
  repeat' split
  all_goals omega
/-- the instruction behind q bytes of its text -/
def tkN (o : Int) (a : Nat → Int) : Nat → Ins
  | 0 => ⟨o, -1, -1, -1, 0, -1, -1⟩
  | q + 1 => tkI (tkN o a q) (B (dshp o) q) (a q)
def dokB (o : Int) (a : Nat → Int) : Bool := decide ((dshp o).size = 3) && (tkB (B (dshp o) 0) (a 0) && tkB (B (dshp o) 1) (a 1) && tkB (B (dshp o) 2) (a 2))
theorem tkI_n (i : Ins) (p c : Int) : (tkI i p c).n = i.n ∨ (tkI i p c).n = i.n * 10 + dgO c := by
  unfold tkI
  repeat' split
  all_goals first | exact Or.inl rfl | exact Or.inr rfl
theorem tkN_n (o : Int) (a : Nat → Int) (q : Nat) (h : q ≤ 2) : -1000 ≤ (tkN o a q).n ∧ (tkN o a q).n ≤ 1000 := by
  have h0 : (tkN o a 0).n = 0 := rfl
  have h1 := tkI_n (tkN o a 0) (B (dshp o) 0) (a 0)
  have h2 := tkI_n (tkN o a 1) (B (dshp o) 1) (a 1)
  have d0 := dgO_bd (a 0)
  have d1 := dgO_bd (a 1)
  have e1 : tkN o a 1 = tkI (tkN o a 0) (B (dshp o) 0) (a 0) := rfl
  have e2 : tkN o a 2 = tkI (tkN o a 1) (B (dshp o) 1) (a 1) := rfl
  rw [← e1] at h1
  rw [← e2] at h2
  have : q = 0 ∨ q = 1 ∨ q = 2 := by omega
  rcases this with rfl | rfl | rfl <;> omega
theorem tkI_o (i : Ins) (p c : Int) : (tkI i p c).o = i.o := by
  unfold tkI
  repeat' split
  all_goals rfl
theorem tkN_o (o : Int) (a : Nat → Int) (q : Nat) : (tkN o a q).o = o := by
  induction q with
  | zero => rfl
  | succ q ih => simp only [tkN]; rw [tkI_o, ih]
theorem dshp_size (o : Int) : (dshp o).size = 0 ∨ (dshp o).size = 3 := by
  have ite_ok : ∀ (p : Prop) [Decidable p] (a b : ByteArray), (a.size = 0 ∨ a.size = 3) → (b.size = 0 ∨ b.size = 3) → ((if p then a else b).size = 0 ∨ (if p then a else b).size = 3) := by
    intro p _ a b h1 h2; split <;> assumption
  unfold dshp
  repeat' (first | exact Or.inl rfl | exact Or.inr rfl | refine ite_ok _ _ _ ?_ ?_)
end Go.Proofs.YtccndnckceagfabGreatDoorR.Sp

namespace Go.Proofs.YtccndnckceagfabGreatDoorR.Sp

def insAt (c : Nat → Int) (i : Nat) : Ins := tkN (c (4 * i)) (fun j => c (4 * i + j + 1)) 3
def dokAt (c : Nat → Int) (i : Nat) : Bool := dokB (c (4 * i)) (fun j => c (4 * i + j + 1))
def codeTo (c : Nat → Int) (n : Nat) : List Ins := (List.range n).map (insAt c)
def blksTo (c : Nat → Int) : Nat → List (Nat × Nat)
  | 0 => []
  | k + 1 => if endB (c (4 * k)) = true then blksTo c k ++ [(((blksTo c k).getLast?.map (fun b => b.2 + 1)).getD 0, k)] else blksTo c k

theorem tkN_congr {o : Int} {a b : Nat → Int} (q : Nat) (h : ∀ j, j < q → a j = b j) : tkN o a q = tkN o b q := by
  induction q with
  | zero => rfl
  | succ q ih => simp only [tkN]; rw [ih (fun j hj => h j (by omega)), h q (by omega)]
theorem dokB_congr {o : Int} {a b : Nat → Int} (h : ∀ j, j < 3 → a j = b j) : dokB o a = dokB o b := by
  unfold dokB
  rw [h 0 (by omega), h 1 (by omega), h 2 (by omega)]
theorem codeTo_len (c : Nat → Int) (n : Nat) : (codeTo c n).length = n := by simp [codeTo]
theorem codeTo_succ (c : Nat → Int) (n : Nat) : codeTo c (n + 1) = codeTo c n ++ [insAt c n] := by simp [codeTo, List.range_succ]
theorem codeTo_get (c : Nat → Int) (n i : Nat) (h : i < (codeTo c n).length) : (codeTo c n)[i] = insAt c i := by simp [codeTo]
theorem insAt_o (c : Nat → Int) (i : Nat) : (insAt c i).o = c (4 * i) := tkN_o _ _ _
theorem blksTo_len (c : Nat → Int) (n : Nat) : (blksTo c n).length = blocksTo c n := by
  induction n with
  | zero => rfl
  | succ n ih =>
    simp only [blksTo, blocksTo]
    split
    · simp [ih]
    · simp [ih]
theorem blksTo_lt (c : Nat → Int) (n : Nat) : ∀ b, b ∈ blksTo c n → b.2 < n := by
  induction n with
  | zero => intro b hb; cases hb
  | succ n ih =>
    intro b hb
    simp only [blksTo] at hb
    split at hb
    · rcases List.mem_append.1 hb with h | h
      · have := ih b h; omega
      · rw [List.mem_singleton.1 h]; exact Nat.lt_succ_self n
    · have := ih b hb; omega
theorem blksTo_end (c : Nat → Int) (n : Nat) (hn : 1 ≤ n) (h : endB (c (4 * (n - 1))) = true) (hl : (blksTo c n).length - 1 < (blksTo c n).length) : ((blksTo c n)[(blksTo c n).length - 1]).2 = n - 1 := by
  obtain ⟨m, rfl⟩ : ∃ m, n = m + 1 := ⟨n - 1, by omega⟩
  rw [Nat.add_sub_cancel] at h ⊢
  have e : blksTo c (m + 1) = blksTo c m ++ [(((blksTo c m).getLast?.map (fun b => b.2 + 1)).getD 0, m)] := by simp only [blksTo]; rw [if_pos h]
  simp only [e]
  rw [List.getElem_append_right (by simp)]
  simp
theorem blksTo_no (c : Nat → Int) (n : Nat) (hn : 1 ≤ n) (h : endB (c (4 * (n - 1))) = false) (hl : (blksTo c n).length - 1 < (blksTo c n).length) : ((blksTo c n)[(blksTo c n).length - 1]).2 ≠ n - 1 := by
  obtain ⟨m, rfl⟩ : ∃ m, n = m + 1 := ⟨n - 1, by omega⟩
  rw [Nat.add_sub_cancel] at h ⊢
  have e : blksTo c (m + 1) = blksTo c m := by simp only [blksTo]; rw [h]; rfl
  have := blksTo_lt c m _ (by rw [← e]; exact List.getElem_mem hl)
  omega

theorem rg_let (b : Int) : (rgO b != -1) = letB b := by
  rw [Bool.eq_iff_iff, bne_iff_ne]
  simp only [rgO, letB, lowB, uppB, decide_eq_true_eq, Bool.or_eq_true]
  repeat' split
  all_goals omega
theorem dg_dig (b : Int) : (dgO b != -1) = digB b := by
  rw [Bool.eq_iff_iff, bne_iff_ne]
  simp only [dgO, digB, decide_eq_true_eq]
  split <;> omega
theorem dg_tgt (b : Int) (n : Nat) : (digB b && isTgt (dgO b) n) = (digB b && (b != 48) && decide (b - 48 < n)) := by
  rw [Bool.eq_iff_iff]
  simp only [isTgt, dgO, digB, decide_eq_true_eq, Bool.and_eq_true, Bool.or_eq_true, beq_iff_eq, bne_iff_ne]
  by_cases h : 48 ≤ b ∧ b ≤ 57
  · rw [if_pos h]; omega
  · rw [if_neg h]; omega
theorem tgt_none (n : Int) : isTgt (-1) n = true := rfl
theorem okIns_eq (c : Nat → Int) (nb : Nat) (i : Nat) : okIns c nb 0 i = (dokAt c i && (isTgt (insAt c i).k nb && isTgt (insAt c i).m nb)) := by
  have e0 : ∀ f : Nat → Bool, ((List.range 3).all f) = (f 0 && f 1 && f 2) := fun f => by
    show (f 0 && (f 1 && (f 2 && true))) = _
    cases f 0 <;> cases f 1 <;> cases f 2 <;> rfl
  unfold okIns dokAt insAt dokB
  rw [e0]
  simp only [tkN, show (decide ((0 : Int) < 0)) = false from rfl, Nat.add_zero]
  generalize c (4 * i) = o
  rw [show 4 * i + 0 + 1 = 4 * i + 1 from rfl, show 4 * i + 1 + 1 = 4 * i + 2 from rfl, show 4 * i + 2 + 1 = 4 * i + 3 from rfl]
  generalize c (4 * i + 1) = a
  generalize c (4 * i + 2) = b
  generalize c (4 * i + 3) = d
  by_cases h1 : arithB o = true
  · have s1 : shp o false = ⟨#[82, 82, 82]⟩ := by simp [shp, h1]
    have s2 : dshp o = ⟨#[100, 120, 121]⟩ := by simp [dshp, h1]
    rw [s1, s2]
    show (true && (fitB a 82 0 nb && fitB b 82 0 nb && fitB d 82 0 nb)) = ((true && (tkB 100 a && tkB 120 b && tkB 121 d)) && (true && true))
    simp [fitB, regB, tkB, rg_let]
  rw [Bool.not_eq_true] at h1
  by_cases h2 : o = 35
  · have s1 : shp o false = ⟨#[82, 78, 78]⟩ := by simp [shp, arithB, h2]
    have s2 : dshp o = ⟨#[100, 116, 110]⟩ := by simp [dshp, arithB, h2]
    rw [s1, s2]
    show (true && (fitB a 82 0 nb && fitB b 78 0 nb && fitB d 78 0 nb)) = ((true && (tkB 100 a && tkB 116 b && tkB 110 d)) && (true && true))
    simp [fitB, regB, tkB, rg_let, dg_dig]
  by_cases h3 : o = 61 ∨ o = 108 ∨ o = 76
  · have s1 : shp o false = ⟨#[82, 82, 46]⟩ := by
      have : o = 61 ∨ o = 108 ∨ o = 76 ∨ o = 115 ∨ o = 83 := by omega
      simp [shp, h1, h2, this]
    have s2 : dshp o = ⟨#[100, 120, 46]⟩ := by simp [dshp, h1, h2, h3]
    rw [s1, s2]
    show (true && (fitB a 82 0 nb && fitB b 82 0 nb && fitB d 46 0 nb)) = ((true && (tkB 100 a && tkB 120 b && tkB 46 d)) && (true && true))
    simp [fitB, regB, tkB, rg_let]
  by_cases h4 : o = 115 ∨ o = 83
  · have s1 : shp o false = ⟨#[82, 82, 46]⟩ := by
      have : o = 61 ∨ o = 108 ∨ o = 76 ∨ o = 115 ∨ o = 83 := by omega
      simp [shp, h1, h2, this]
    have s2 : dshp o = ⟨#[120, 121, 46]⟩ := by simp [dshp, h1, h2, h3, h4]
    rw [s1, s2]
    show (true && (fitB a 82 0 nb && fitB b 82 0 nb && fitB d 46 0 nb)) = ((true && (tkB 120 a && tkB 121 b && tkB 46 d)) && (true && true))
    simp [fitB, regB, tkB, rg_let]
  have h34 : ¬ (o = 61 ∨ o = 108 ∨ o = 76 ∨ o = 115 ∨ o = 83) := by omega
  by_cases h5 : o = 106
  · have s1 : shp o false = ⟨#[66, 46, 46]⟩ := by simp [h5, shp_106]
    have s2 : dshp o = ⟨#[107, 46, 46]⟩ := by simp [dshp, h5, arithB]
    rw [s1, s2]
    show (true && (fitB a 66 0 nb && fitB b 46 0 nb && fitB d 46 0 nb)) = ((true && (tkB 107 a && tkB 46 b && tkB 46 d)) && (isTgt (dgO a) nb && true))
    have k := dg_tgt a nb
    simp only [fitB, tkB, dg_dig]
    simp
    rw [← k]
    cases digB a <;> cases isTgt (dgO a) nb <;> cases (b == 46) <;> cases (d == 46) <;> rfl
  by_cases h6 : o = 63
  · have s1 : shp o false = ⟨#[82, 66, 66]⟩ := by simp [h6, shp_63]
    have s2 : dshp o = ⟨#[120, 107, 109]⟩ := by simp [dshp, h6, arithB]
    rw [s1, s2]
    show (true && (fitB a 82 0 nb && fitB b 66 0 nb && fitB d 66 0 nb)) = ((true && (tkB 120 a && tkB 107 b && tkB 109 d)) && (isTgt (dgO b) nb && isTgt (dgO d) nb))
    have k1 := dg_tgt b nb
    have k2 := dg_tgt d nb
    simp only [fitB, tkB, dg_dig, rg_let, regB]
    simp
    rw [← k1, ← k2]
    cases letB a <;> cases digB b <;> cases digB d <;> cases isTgt (dgO b) nb <;> cases isTgt (dgO d) nb <;> rfl
  by_cases h7 : o = 114
  · have s1 : shp o false = ⟨#[82, 46, 46]⟩ := by simp [shp, h7, arithB]
    have s2 : dshp o = ⟨#[120, 46, 46]⟩ := by simp [dshp, h7, arithB]
    rw [s1, s2]
    show (true && (fitB a 82 0 nb && fitB b 46 0 nb && fitB d 46 0 nb)) = ((true && (tkB 120 a && tkB 46 b && tkB 46 d)) && (true && true))
    simp [fitB, regB, tkB, rg_let]
  · have s1 : shp o false = ⟨#[]⟩ := by simp [shp, h1, h2, h34, h5, h6, h7]
    have s2 : dshp o = ⟨#[]⟩ := by simp [dshp, h1, h2, h3, h4, h5, h6, h7]
    rw [s1, s2]
    rfl
/-- the program's whole test is the document's -/
theorem progB_bad (c : Nat → Int) (size i : Nat) (hi : i < size / 4) (h : dokAt c i = false) : progB c size 0 = false :=
  progB_no c size 0 i hi (by rw [okIns_eq, h, Bool.false_and])
theorem progB_all (c : Nat → Int) (size : Nat) (h5 : 4 ≤ size) (h4 : size % 4 = 0) (hd : ∀ i, i < size / 4 → dokAt c i = true) (hb : blocksTo c (size / 4) ≤ 10) (he : endB (c (4 * (size / 4 - 1))) = true) :
    progB c size 0 = (codeTo c (size / 4)).all fun i => isTgt i.k (blocksTo c (size / 4)) && isTgt i.m (blocksTo c (size / 4)) := by
  cases ha : (codeTo c (size / 4)).all fun i => isTgt i.k (blocksTo c (size / 4)) && isTgt i.m (blocksTo c (size / 4))
  · obtain ⟨x, hx, hn⟩ := List.all_eq_false.1 ha
    obtain ⟨i, hi, rfl⟩ := List.getElem_of_mem hx
    rw [codeTo_get] at hn
    rw [codeTo_len] at hi
    exact progB_no c size 0 i hi (by rw [okIns_eq, hd i hi, Bool.true_and]; simpa using hn)
  · refine progB_yes c size 0 h5 h4 hb he (fun i hi => ?_)
    rw [okIns_eq, hd i hi, Bool.true_and]
    have := List.all_eq_true.1 ha (insAt c i) (by rw [← codeTo_get c (size / 4) i (by rw [codeTo_len]; exact hi)]; exact List.getElem_mem _)
    exact this
theorem progB_open (c : Nat → Int) (size : Nat) (he : endB (c (4 * (size / 4 - 1))) = false) : progB c size 0 = false := by simp [progB, he]
theorem progB_many (c : Nat → Int) (size : Nat) (he : 10 < blocksTo c (size / 4)) : progB c size 0 = false := by
  have : ¬ blocksTo c (size / 4) ≤ 10 := by omega
  simp [progB, this]
theorem blocks_pos (c : Nat → Int) (n : Nat) (hn : 1 ≤ n) (he : endB (c (4 * (n - 1))) = true) : 1 ≤ blocksTo c n := by
  obtain ⟨m, rfl⟩ : ∃ m, n = m + 1 := ⟨n - 1, by omega⟩
  rw [Nat.add_sub_cancel] at he
  rw [blocksTo_yes c m he]; omega
end Go.Proofs.YtccndnckceagfabGreatDoorR.Sp

namespace Go.Proofs.YtccndnckceagfabGreatDoorR.Sp

def slO (b : Int) : Int := if rgO b = -1 then -1 else 10 + rgO b
def rgK (k b : Int) : Int := if k = 0 then rgO b else if k ≤ dgO b then -1 else dgO b
def plO (k p b : Int) : Int :=
  if p = 68 ∨ p = 88 then slO b
  else if p = 113 ∧ slO b ≠ -1 then slO b
  else if p = 48 ∧ b ≠ 48 then -1
  else rgK k b
def shpK (k o : Int) : ByteArray :=
  if k = 0 then dshp o
  else if o = 62 then ⟨#[68, 120, 46]⟩
  else if o = 60 then ⟨#[100, 88, 46]⟩
  else if o = 126 then ⟨#[113, 46, 46]⟩
  else if o = 114 then ⟨#[48, 46, 46]⟩
  else dshp o
/-- does the byte c, the place pl, fit where the shape has p? -/
def tkBK (p c pl : Int) : Bool :=
  if p = 100 ∨ p = 68 ∨ p = 113 ∨ p = 120 ∨ p = 88 ∨ p = 48 ∨ p = 121 then pl != -1
  else if p = 116 ∨ p = 110 ∨ p = 107 ∨ p = 109 then dgO c != -1
  else c == p
/-- the instruction behind it -/
def tkIK (i : Ins) (p c pl : Int) : Ins :=
  if p = 100 ∨ p = 68 ∨ p = 113 then { i with d := pl }
  else if p = 120 ∨ p = 88 ∨ p = 48 then { i with x := pl }
  else if p = 121 then { i with y := pl }
  else if p = 116 ∨ p = 110 then { i with n := i.n * 10 + dgO c }
  else if p = 107 then { i with k := dgO c }
  else if p = 109 then { i with m := dgO c }
  else i
def tkNK (k o : Int) (a : Nat → Int) : Nat → Ins
  | 0 => ⟨o, -1, -1, -1, 0, -1, -1⟩
  | q + 1 => tkIK (tkNK k o a q) (B (shpK k o) q) (a q) (plO k (B (shpK k o) q) (a q))
def dokBK (k o : Int) (a : Nat → Int) : Bool :=
  decide ((shpK k o).size = 3) && (tkBK (B (shpK k o) 0) (a 0) (plO k (B (shpK k o) 0) (a 0)) && tkBK (B (shpK k o) 1) (a 1) (plO k (B (shpK k o) 1) (a 1)) && tkBK (B (shpK k o) 2) (a 2) (plO k (B (shpK k o) 2) (a 2)))
theorem slO_bd (c : Int) : -1 ≤ slO c ∧ slO c ≤ 61 := by
  have := rgO_bd c
  unfold slO
  split <;> omega
theorem rgK_bd (k c : Int) : -1 ≤ rgK k c ∧ rgK k c ≤ 51 := by
  have := rgO_bd c
  have := dgO_bd c
  unfold rgK
  repeat' split
  all_goals omega
theorem plO_bd (k p c : Int) : -1 ≤ plO k p c ∧ plO k p c ≤ 61 := by
  have := rgK_bd k c
  have := slO_bd c
  unfold plO
  repeat' split
  all_goals omega
theorem tkIK_n (i : Ins) (p c pl : Int) : (tkIK i p c pl).n = i.n ∨ (tkIK i p c pl).n = i.n * 10 + dgO c := by
  unfold tkIK
  repeat' split
  all_goals first | exact Or.inl rfl | exact Or.inr rfl
theorem tkNK_n (k o : Int) (a : Nat → Int) (q : Nat) (h : q ≤ 2) : -1000 ≤ (tkNK k o a q).n ∧ (tkNK k o a q).n ≤ 1000 := by
  have h0 : (tkNK k o a 0).n = 0 := rfl
  have h1 := tkIK_n (tkNK k o a 0) (B (shpK k o) 0) (a 0) (plO k (B (shpK k o) 0) (a 0))
  have h2 := tkIK_n (tkNK k o a 1) (B (shpK k o) 1) (a 1) (plO k (B (shpK k o) 1) (a 1))
  have d0 := dgO_bd (a 0)
  have d1 := dgO_bd (a 1)
  have e1 : tkNK k o a 1 = tkIK (tkNK k o a 0) (B (shpK k o) 0) (a 0) (plO k (B (shpK k o) 0) (a 0)) := rfl
  have e2 : tkNK k o a 2 = tkIK (tkNK k o a 1) (B (shpK k o) 1) (a 1) (plO k (B (shpK k o) 1) (a 1)) := rfl
  rw [← e1] at h1
  rw [← e2] at h2
  have : q = 0 ∨ q = 1 ∨ q = 2 := by omega
  rcases this with rfl | rfl | rfl <;> omega
theorem tkIK_o (i : Ins) (p c pl : Int) : (tkIK i p c pl).o = i.o := by
  unfold tkIK
  repeat' split
  all_goals rfl
theorem tkNK_o (k o : Int) (a : Nat → Int) (q : Nat) : (tkNK k o a q).o = o := by
  induction q with
  | zero => rfl
  | succ q ih => simp only [tkNK]; rw [tkIK_o, ih]
theorem shpK_size (k o : Int) : (shpK k o).size = 0 ∨ (shpK k o).size = 3 := by
  unfold shpK
  repeat' split
  all_goals first | exact Or.inr rfl | exact dshp_size o

def insK (k : Int) (c : Nat → Int) (i : Nat) : Ins := tkNK k (c (4 * i)) (fun j => c (4 * i + j + 1)) 3
def dokK (k : Int) (c : Nat → Int) (i : Nat) : Bool := dokBK k (c (4 * i)) (fun j => c (4 * i + j + 1))
def codeK (k : Int) (c : Nat → Int) (n : Nat) : List Ins := (List.range n).map (insK k c)
theorem tkNK_congr {k o : Int} {a b : Nat → Int} (q : Nat) (h : ∀ j, j < q → a j = b j) : tkNK k o a q = tkNK k o b q := by
  induction q with
  | zero => rfl
  | succ q ih => simp only [tkNK]; rw [ih (fun j hj => h j (by omega)), h q (by omega)]
theorem dokBK_congr {k o : Int} {a b : Nat → Int} (h : ∀ j, j < 3 → a j = b j) : dokBK k o a = dokBK k o b := by
  unfold dokBK
  rw [h 0 (by omega), h 1 (by omega), h 2 (by omega)]
theorem codeK_len (k : Int) (c : Nat → Int) (n : Nat) : (codeK k c n).length = n := by simp [codeK]
theorem codeK_succ (k : Int) (c : Nat → Int) (n : Nat) : codeK k c (n + 1) = codeK k c n ++ [insK k c n] := by simp [codeK, List.range_succ]
theorem codeK_get (k : Int) (c : Nat → Int) (n i : Nat) (h : i < (codeK k c n).length) : (codeK k c n)[i] = insK k c i := by simp [codeK]
theorem insK_o (k : Int) (c : Nat → Int) (i : Nat) : (insK k c i).o = c (4 * i) := tkNK_o _ _ _ _

/-- the signs that a source program's shapes have -/
theorem dshp_signs (o : Int) (q : Nat) (hq : q < 3) (h : (dshp o).size = 3) : B (dshp o) q = 100 ∨ B (dshp o) q = 120 ∨ B (dshp o) q = 121 ∨ B (dshp o) q = 116 ∨ B (dshp o) q = 110 ∨ B (dshp o) q = 46 ∨ B (dshp o) q = 107 ∨ B (dshp o) q = 109 := by
  have hq' : q = 0 ∨ q = 1 ∨ q = 2 := by omega
  have s : dshp o = ⟨#[100, 120, 121]⟩ ∨ dshp o = ⟨#[100, 116, 110]⟩ ∨ dshp o = ⟨#[100, 120, 46]⟩ ∨ dshp o = ⟨#[120, 121, 46]⟩ ∨ dshp o = ⟨#[107, 46, 46]⟩ ∨ dshp o = ⟨#[120, 107, 109]⟩ ∨ dshp o = ⟨#[120, 46, 46]⟩ ∨ dshp o = ⟨#[]⟩ := by
    unfold dshp
    repeat' split
    all_goals simp
  rcases s with s | s | s | s | s | s | s | s <;> rw [s] at h ⊢ <;> rcases hq' with rfl | rfl | rfl <;> first | (exfalso; exact absurd h (by decide)) | decide
theorem plO_plain (k p b : Int) (h1 : p ≠ 68) (h2 : p ≠ 88) (h3 : p ≠ 113) (h4 : p ≠ 48) : plO k p b = rgK k b := by simp [plO, h1, h2, h3, h4]
theorem tkBK_src {p c : Int} (h : p = 100 ∨ p = 120 ∨ p = 121 ∨ p = 116 ∨ p = 110 ∨ p = 46 ∨ p = 107 ∨ p = 109) : tkBK p c (plO 0 p c) = tkB p c := by
  rcases h with rfl | rfl | rfl | rfl | rfl | rfl | rfl | rfl <;> simp [tkBK, tkB, plO, rgK]
theorem tkIK_src {i : Ins} {p c : Int} (h : p = 100 ∨ p = 120 ∨ p = 121 ∨ p = 116 ∨ p = 110 ∨ p = 46 ∨ p = 107 ∨ p = 109) : tkIK i p c (plO 0 p c) = tkI i p c := by
  rcases h with rfl | rfl | rfl | rfl | rfl | rfl | rfl | rfl <;> simp [tkIK, tkI, plO, rgK]
theorem shpK_src (o : Int) : shpK 0 o = dshp o := rfl
theorem dokK_src (c : Nat → Int) (i : Nat) : dokK 0 c i = dokAt c i := by
  unfold dokK dokBK dokAt dokB
  rw [shpK_src]
  rcases dshp_size (c (4 * i)) with h | h
  · rw [h]; rfl
  · rw [h, tkBK_src (dshp_signs _ 0 (by omega) h), tkBK_src (dshp_signs _ 1 (by omega) h), tkBK_src (dshp_signs _ 2 (by omega) h)]
theorem insK_src (c : Nat → Int) (i : Nat) (hd : dokAt c i = true) : insK 0 c i = insAt c i := by
  have h : (dshp (c (4 * i))).size = 3 := by
    unfold dokAt dokB at hd
    simp only [Bool.and_eq_true, decide_eq_true_eq] at hd
    exact hd.1
  unfold insK insAt
  simp only [tkNK, tkN, shpK_src]
  rw [tkIK_src (dshp_signs _ 0 (by omega) h), tkIK_src (dshp_signs _ 1 (by omega) h), tkIK_src (dshp_signs _ 2 (by omega) h)]
theorem codeK_src (c : Nat → Int) (n : Nat) (hd : ∀ i, i < n → dokAt c i = true) : codeK 0 c n = codeTo c n := by
  unfold codeK codeTo
  refine List.map_congr_left fun i hi => insK_src c i (hd i (List.mem_range.1 hi))

theorem rgK_reg (k b : Int) (hk : 0 ≤ k) : (rgK k b != -1) = regB b k := by
  unfold rgK regB
  by_cases h : k = 0
  · rw [if_pos h, if_pos h, rg_let]
  · rw [if_neg h, if_neg h, Bool.eq_iff_iff, bne_iff_ne]
    simp only [dgO, digB, decide_eq_true_eq, Bool.and_eq_true]
    repeat' split
    all_goals omega
theorem slO_let (b : Int) : (slO b != -1) = letB b := by
  rw [← rg_let]
  have := rgO_bd b
  rw [Bool.eq_iff_iff, bne_iff_ne, bne_iff_ne]
  unfold slO
  split <;> omega
theorem tkB_reg' (k p c : Int) (hk : 0 ≤ k) (hp : p = 100 ∨ p = 120 ∨ p = 121) : tkBK p c (plO k p c) = regB c k := by
  rw [plO_plain k p c (by omega) (by omega) (by omega) (by omega)]
  rcases hp with rfl | rfl | rfl <;> simp [tkBK, ← rgK_reg k c hk]
theorem tkB_slot (k p c : Int) (hp : p = 68 ∨ p = 88) : tkBK p c (plO k p c) = letB c := by
  rcases hp with rfl | rfl <;> simp [tkBK, plO, ← slO_let]
theorem tkB_q (k c : Int) (hk : 0 ≤ k) : tkBK 113 c (plO k 113 c) = (regB c k || letB c) := by
  rw [← rgK_reg k c hk, ← slO_let]
  have e : plO k 113 c = if slO c ≠ -1 then slO c else rgK k c := by simp [plO]
  rw [e]
  by_cases h : slO c = -1
  · simp [tkBK, h]
  · simp [tkBK, h]
theorem tkB_0 (k c : Int) (hk : 0 < k) : tkBK 48 c (plO k 48 c) = (c == 48) := by
  by_cases h : c = 48
  · subst h
    have e : plO k 48 48 = 0 := by
      have h1 : k ≠ 0 := by omega
      have h2 : dgO 48 = 0 := by decide
      have h3 : ¬ k ≤ 0 := by omega
      simp [plO, rgK, h1, h2, h3]
    rw [e]; rfl
  · have e : plO k 48 c = -1 := by simp [plO, h]
    rw [e, beq_eq_false_iff_ne.2 h]; rfl
theorem tkB_dig' (p c pl : Int) (hp : p = 116 ∨ p = 110 ∨ p = 107 ∨ p = 109) : tkBK p c pl = digB c := by
  rw [← dg_dig]
  rcases hp with rfl | rfl | rfl | rfl <;> simp [tkBK]
theorem tkB_dot (c pl : Int) : tkBK 46 c pl = (c == 46) := by simp [tkBK]
theorem okK_eq (c : Nat → Int) (nb : Nat) (k : Int) (hk : 0 ≤ k) (i : Nat) : okIns c nb k i = (dokK k c i && (isTgt (insK k c i).k nb && isTgt (insK k c i).m nb)) := by
  by_cases hk0 : k = 0
  · subst hk0
    rw [okIns_eq, dokK_src]
    cases h : dokAt c i
    · rfl
    · rw [insK_src c i h]
  have hk1 : 0 < k := by omega
  have e0 : ∀ f : Nat → Bool, ((List.range 3).all f) = (f 0 && f 1 && f 2) := fun f => by
    show (f 0 && (f 1 && (f 2 && true))) = _
    cases f 0 <;> cases f 1 <;> cases f 2 <;> rfl
  unfold okIns dokK insK dokBK
  rw [e0]
  simp only [tkNK, show (decide ((0 : Int) < k)) = true from decide_eq_true hk1, Nat.add_zero]
  generalize c (4 * i) = o
  rw [show 4 * i + 0 + 1 = 4 * i + 1 from rfl, show 4 * i + 1 + 1 = 4 * i + 2 from rfl, show 4 * i + 2 + 1 = 4 * i + 3 from rfl]
  generalize c (4 * i + 1) = a
  generalize c (4 * i + 2) = b
  generalize c (4 * i + 3) = d
  have t0 := tgt_none (nb : Int)
  by_cases m1 : o = 62
  · subst m1
    have s1 : shp 62 true = ⟨#[80, 82, 46]⟩ := by simp [shp, arithB]
    have s2 : shpK k 62 = ⟨#[68, 120, 46]⟩ := by simp [shpK, hk0]
    rw [s1, s2]
    show (true && (fitB a 80 k nb && fitB b 82 k nb && fitB d 46 k nb)) = ((true && (tkBK 68 a (plO k 68 a) && tkBK 120 b (plO k 120 b) && tkBK 46 d (plO k 46 d))) && (isTgt (-1) nb && isTgt (-1) nb))
    rw [tkB_slot k 68 a (by omega), tkB_reg' k 120 b hk (by omega), tkB_dot, t0]
    simp [fitB]
  by_cases m2 : o = 60
  · subst m2
    have s1 : shp 60 true = ⟨#[82, 80, 46]⟩ := by simp [shp, arithB]
    have s2 : shpK k 60 = ⟨#[100, 88, 46]⟩ := by simp [shpK, hk0]
    rw [s1, s2]
    show (true && (fitB a 82 k nb && fitB b 80 k nb && fitB d 46 k nb)) = ((true && (tkBK 100 a (plO k 100 a) && tkBK 88 b (plO k 88 b) && tkBK 46 d (plO k 46 d))) && (isTgt (-1) nb && isTgt (-1) nb))
    rw [tkB_reg' k 100 a hk (by omega), tkB_slot k 88 b (by omega), tkB_dot, t0]
    simp [fitB]
  by_cases m3 : o = 126
  · subst m3
    have s1 : shp 126 true = ⟨#[81, 46, 46]⟩ := by simp [shp, arithB]
    have s2 : shpK k 126 = ⟨#[113, 46, 46]⟩ := by simp [shpK, hk0]
    rw [s1, s2]
    show (true && (fitB a 81 k nb && fitB b 46 k nb && fitB d 46 k nb)) = ((true && (tkBK 113 a (plO k 113 a) && tkBK 46 b (plO k 46 b) && tkBK 46 d (plO k 46 d))) && (isTgt (-1) nb && isTgt (-1) nb))
    rw [tkB_q k a hk, tkB_dot, tkB_dot, t0]
    simp [fitB]
  by_cases m4 : o = 114
  · subst m4
    have s1 : shp 114 true = ⟨#[48, 46, 46]⟩ := by simp [shp, arithB]
    have s2 : shpK k 114 = ⟨#[48, 46, 46]⟩ := by simp [shpK, hk0]
    rw [s1, s2]
    show (true && (fitB a 48 k nb && fitB b 46 k nb && fitB d 46 k nb)) = ((true && (tkBK 48 a (plO k 48 a) && tkBK 46 b (plO k 46 b) && tkBK 46 d (plO k 46 d))) && (isTgt (-1) nb && isTgt (-1) nb))
    rw [tkB_0 k a hk1, tkB_dot, tkB_dot, t0]
    simp [fitB]
  have sK : shpK k o = dshp o := by simp [shpK, hk0, m1, m2, m3, m4]
  rw [sK]
  by_cases h1 : arithB o = true
  · have s1 : shp o true = ⟨#[82, 82, 82]⟩ := by simp [shp, h1]
    have s2 : dshp o = ⟨#[100, 120, 121]⟩ := by simp [dshp, h1]
    rw [s1, s2]
    show (true && (fitB a 82 k nb && fitB b 82 k nb && fitB d 82 k nb)) = ((true && (tkBK 100 a (plO k 100 a) && tkBK 120 b (plO k 120 b) && tkBK 121 d (plO k 121 d))) && (isTgt (-1) nb && isTgt (-1) nb))
    rw [tkB_reg' k 100 a hk (by omega), tkB_reg' k 120 b hk (by omega), tkB_reg' k 121 d hk (by omega), t0]
    simp [fitB]
  rw [Bool.not_eq_true] at h1
  by_cases h2 : o = 35
  · subst h2
    have s1 : shp 35 true = ⟨#[82, 78, 78]⟩ := by simp [shp, arithB]
    have s2 : dshp 35 = ⟨#[100, 116, 110]⟩ := by simp [dshp, arithB]
    rw [s1, s2]
    show (true && (fitB a 82 k nb && fitB b 78 k nb && fitB d 78 k nb)) = ((true && (tkBK 100 a (plO k 100 a) && tkBK 116 b (plO k 116 b) && tkBK 110 d (plO k 110 d))) && (isTgt (-1) nb && isTgt (-1) nb))
    rw [tkB_reg' k 100 a hk (by omega), tkB_dig' 116 b _ (by omega), tkB_dig' 110 d _ (by omega), t0]
    simp [fitB]
  by_cases h3 : o = 61 ∨ o = 108 ∨ o = 76
  · have s1 : shp o true = ⟨#[82, 82, 46]⟩ := by
      have : o = 61 ∨ o = 108 ∨ o = 76 ∨ o = 115 ∨ o = 83 := by omega
      simp [shp, h1, h2, this]
    have s2 : dshp o = ⟨#[100, 120, 46]⟩ := by simp [dshp, h1, h2, h3]
    rw [s1, s2]
    show (true && (fitB a 82 k nb && fitB b 82 k nb && fitB d 46 k nb)) = ((true && (tkBK 100 a (plO k 100 a) && tkBK 120 b (plO k 120 b) && tkBK 46 d (plO k 46 d))) && (isTgt (-1) nb && isTgt (-1) nb))
    rw [tkB_reg' k 100 a hk (by omega), tkB_reg' k 120 b hk (by omega), tkB_dot, t0]
    simp [fitB]
  by_cases h4 : o = 115 ∨ o = 83
  · have s1 : shp o true = ⟨#[82, 82, 46]⟩ := by
      have : o = 61 ∨ o = 108 ∨ o = 76 ∨ o = 115 ∨ o = 83 := by omega
      simp [shp, h1, h2, this]
    have s2 : dshp o = ⟨#[120, 121, 46]⟩ := by simp [dshp, h1, h2, h3, h4]
    rw [s1, s2]
    show (true && (fitB a 82 k nb && fitB b 82 k nb && fitB d 46 k nb)) = ((true && (tkBK 120 a (plO k 120 a) && tkBK 121 b (plO k 121 b) && tkBK 46 d (plO k 46 d))) && (isTgt (-1) nb && isTgt (-1) nb))
    rw [tkB_reg' k 120 a hk (by omega), tkB_reg' k 121 b hk (by omega), tkB_dot, t0]
    simp [fitB]
  have h34 : ¬ (o = 61 ∨ o = 108 ∨ o = 76 ∨ o = 115 ∨ o = 83) := by omega
  by_cases h5 : o = 106
  · subst h5
    have s1 : shp 106 true = ⟨#[66, 46, 46]⟩ := by simp [shp, arithB]
    have s2 : dshp 106 = ⟨#[107, 46, 46]⟩ := by simp [dshp, arithB]
    rw [s1, s2]
    show (true && (fitB a 66 k nb && fitB b 46 k nb && fitB d 46 k nb)) = ((true && (tkBK 107 a (plO k 107 a) && tkBK 46 b (plO k 46 b) && tkBK 46 d (plO k 46 d))) && (isTgt (dgO a) nb && isTgt (-1) nb))
    rw [tkB_dig' 107 a _ (by omega), tkB_dot, tkB_dot, t0]
    have kk := dg_tgt a nb
    simp only [fitB]
    simp
    rw [← kk]
    cases digB a <;> cases isTgt (dgO a) nb <;> cases (b == 46) <;> cases (d == 46) <;> rfl
  by_cases h6 : o = 63
  · subst h6
    have s1 : shp 63 true = ⟨#[82, 66, 66]⟩ := by simp [shp, arithB]
    have s2 : dshp 63 = ⟨#[120, 107, 109]⟩ := by simp [dshp, arithB]
    rw [s1, s2]
    show (true && (fitB a 82 k nb && fitB b 66 k nb && fitB d 66 k nb)) = ((true && (tkBK 120 a (plO k 120 a) && tkBK 107 b (plO k 107 b) && tkBK 109 d (plO k 109 d))) && (isTgt (dgO b) nb && isTgt (dgO d) nb))
    rw [tkB_reg' k 120 a hk (by omega), tkB_dig' 107 b _ (by omega), tkB_dig' 109 d _ (by omega)]
    have k1 := dg_tgt b nb
    have k2 := dg_tgt d nb
    simp only [fitB]
    simp
    rw [← k1, ← k2]
    cases regB a k <;> cases digB b <;> cases digB d <;> cases isTgt (dgO b) nb <;> cases isTgt (dgO d) nb <;> rfl
  · have s1 : shp o true = ⟨#[]⟩ := by simp [shp, h1, h2, h34, h5, h6, m1, m2, m3, m4]
    have s2 : dshp o = ⟨#[]⟩ := by simp [dshp, h1, h2, h3, h4, h5, h6, m4]
    rw [s1, s2]
    rfl
theorem progK_bad (k : Int) (hk : 0 ≤ k) (c : Nat → Int) (size i : Nat) (hi : i < size / 4) (h : dokK k c i = false) : progB c size k = false :=
  progB_no c size k i hi (by rw [okK_eq c _ k hk, h, Bool.false_and])
theorem progK_all (k : Int) (hk : 0 ≤ k) (c : Nat → Int) (size : Nat) (h5 : 4 ≤ size) (h4 : size % 4 = 0) (hd : ∀ i, i < size / 4 → dokK k c i = true) (hb : blocksTo c (size / 4) ≤ 10) (he : endB (c (4 * (size / 4 - 1))) = true) :
    progB c size k = (codeK k c (size / 4)).all fun i => isTgt i.k (blocksTo c (size / 4)) && isTgt i.m (blocksTo c (size / 4)) := by
  cases ha : (codeK k c (size / 4)).all fun i => isTgt i.k (blocksTo c (size / 4)) && isTgt i.m (blocksTo c (size / 4))
  · obtain ⟨x, hx, hn⟩ := List.all_eq_false.1 ha
    obtain ⟨i, hi, rfl⟩ := List.getElem_of_mem hx
    rw [codeK_get] at hn
    rw [codeK_len] at hi
    exact progB_no c size k i hi (by rw [okK_eq c _ k hk, hd i hi, Bool.true_and]; simpa using hn)
  · refine progB_yes c size k h5 h4 hb he (fun i hi => ?_)
    rw [okK_eq c _ k hk, hd i hi, Bool.true_and]
    have := List.all_eq_true.1 ha (insK k c i) (by rw [← codeK_get k c (size / 4) i (by rw [codeK_len]; exact hi)]; exact List.getElem_mem _)
    exact this
theorem progK_open (k : Int) (c : Nat → Int) (size : Nat) (he : endB (c (4 * (size / 4 - 1))) = false) : progB c size k = false := by simp [progB, he]
theorem progK_many (k : Int) (c : Nat → Int) (size : Nat) (he : 10 < blocksTo c (size / 4)) : progB c size k = false := by
  have : ¬ blocksTo c (size / 4) ≤ 10 := by omega
  simp [progB, this]

/-- the letters in the order in which registers are numbered -/
def alpha : ByteArray := ⟨#[97, 98, 99, 100, 101, 102, 103, 104, 105, 106, 107, 108, 109, 110, 111, 112, 113, 114, 115, 116, 117, 118, 119, 120, 121, 122, 65, 66, 67, 68, 69, 70, 71, 72, 73, 74, 75, 76, 77, 78, 79, 80, 81, 82, 83, 84, 85, 86, 87, 88, 89, 90]⟩
theorem alpha_at (n : Nat) (h : n < 52) : B alpha n = if n < 26 then (n : Int) + 97 else (n : Int) + 39 := by
  have : ∀ i : Fin 52, B alpha i.val = if i.val < 26 then (i.val : Int) + 97 else (i.val : Int) + 39 := by decide
  exact this ⟨n, h⟩
theorem alpha_yes (n : Nat) (b : Int) (h : n < 52) (e : B alpha n = b) : rgO b = n := by
  rw [alpha_at n h] at e
  subst e
  simp only [rgO, lowB, uppB, decide_eq_true_eq]
  repeat' split
  all_goals omega
theorem alpha_no (b : Int) (h : ∀ n, n < 52 → B alpha n ≠ b) : rgO b = -1 := by
  by_cases h1 : 97 ≤ b ∧ b ≤ 122
  · have := h (b - 97).toNat (by omega)
    rw [alpha_at _ (by omega), if_pos (by omega)] at this
    omega
  · by_cases h2 : 65 ≤ b ∧ b ≤ 90
    · have := h (b - 39).toNat (by omega)
      rw [alpha_at _ (by omega), if_neg (by omega)] at this
      omega
    · simp only [rgO, lowB, uppB, decide_eq_true_eq]
      rw [if_neg h1, if_neg h2]
/-- where block b begins -/
def strP (L : List (Nat × Nat)) (b : Int) : Int := if 0 ≤ b ∧ b < L.length then ((L.getD b.toNat (0, 0)).1 : Int) else -1
end Go.Proofs.YtccndnckceagfabGreatDoorR.Sp
