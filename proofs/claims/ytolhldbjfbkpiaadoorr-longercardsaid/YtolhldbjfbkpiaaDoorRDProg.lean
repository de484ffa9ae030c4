/-
  The program's reading of a whole text against the document's: plain mathematics.
-/
import Derived.Test.YtolhldbjfbkpiaaDoorRDSpec
namespace Go.Proofs.YtolhldbjfbkpiaaDoorR.Sp

def insAt (c : Nat → Int) (i : Nat) : Ins := tkN (c (4 * i)) (fun j => c (4 * i + j + 1)) 3
def dokAt (c : Nat → Int) (i : Nat) : Bool := dokB (c (4 * i)) (fun j => c (4 * i + j + 1))
def codeTo (c : Nat → Int) (n : Nat) : List Ins := (List.range n).map (insAt c)
def blksTo (c : Nat → Int) : Nat → List (Nat × Nat)
  | 0 => []
  | k + 1 => if endB (c (4 * k)) = true then blksTo c k ++ [(((blksTo c k).getLast?.map (fun b => b.2 + 1)).getD 0, k)] else blksTo c k

theorem tkN_congr {o : Int} {a b : Nat → Int} (q : Nat) (h : ∀ j, j < q → a j = b j) : tkN o a q = tkN o b q := by
  induction q with
  | zero => rfl
  | succ q ih => simp only [tkN]; rw [ih (fun j hj => h j (by omega)), h q (by omega)]
theorem dokB_congr {o : Int} {a b : Nat → Int} (h : ∀ j, j < 3 → a j = b j) : dokB o a = dokB o b := by
  unfold dokB
  rw [h 0 (by omega), h 1 (by omega), h 2 (by omega)]
theorem codeTo_len (c : Nat → Int) (n : Nat) : (codeTo c n).length = n := by simp [codeTo]
theorem codeTo_succ (c : Nat → Int) (n : Nat) : codeTo c (n + 1) = codeTo c n ++ [insAt c n] := by simp [codeTo, List.range_succ]
theorem codeTo_get (c : Nat → Int) (n i : Nat) (h : i < (codeTo c n).length) : (codeTo c n)[i] = insAt c i := by simp [codeTo]
theorem insAt_o (c : Nat → Int) (i : Nat) : (insAt c i).o = c (4 * i) := tkN_o _ _ _
theorem blksTo_len (c : Nat → Int) (n : Nat) : (blksTo c n).length = blocksTo c n := by
  induction n with
  | zero => rfl
  | succ n ih =>
    simp only [blksTo, blocksTo]
    split
    · simp [ih]
    · simp [ih]
theorem blksTo_lt (c : Nat → Int) (n : Nat) : ∀ b, b ∈ blksTo c n → b.2 < n := by
  induction n with
  | zero => intro b hb; cases hb
  | succ n ih =>
    intro b hb
    simp only [blksTo] at hb
    split at hb
    · rcases List.mem_append.1 hb with h | h
      · have := ih b h; omega
      · rw [List.mem_singleton.1 h]; exact Nat.lt_succ_self n
    · have := ih b hb; omega
theorem blksTo_end (c : Nat → Int) (n : Nat) (hn : 1 ≤ n) (h : endB (c (4 * (n - 1))) = true) (hl : (blksTo c n).length - 1 < (blksTo c n).length) : ((blksTo c n)[(blksTo c n).length - 1]).2 = n - 1 := by
  obtain ⟨m, rfl⟩ : ∃ m, n = m + 1 := ⟨n - 1, by omega⟩
  rw [Nat.add_sub_cancel] at h ⊢
  have e : blksTo c (m + 1) = blksTo c m ++ [(((blksTo c m).getLast?.map (fun b => b.2 + 1)).getD 0, m)] := by simp only [blksTo]; rw [if_pos h]
  simp only [e]
  rw [List.getElem_append_right (by simp)]
  simp
theorem blksTo_no (c : Nat → Int) (n : Nat) (hn : 1 ≤ n) (h : endB (c (4 * (n - 1))) = false) (hl : (blksTo c n).length - 1 < (blksTo c n).length) : ((blksTo c n)[(blksTo c n).length - 1]).2 ≠ n - 1 := by
  obtain ⟨m, rfl⟩ : ∃ m, n = m + 1 := ⟨n - 1, by omega⟩
  rw [Nat.add_sub_cancel] at h ⊢
  have e : blksTo c (m + 1) = blksTo c m := by simp only [blksTo]; rw [h]; rfl
  have := blksTo_lt c m _ (by rw [← e]; exact List.getElem_mem hl)
  omega

theorem rg_let (b : Int) : (rgO b != -1) = letB b := by
  rw [Bool.eq_iff_iff, bne_iff_ne]
  simp only [rgO, letB, lowB, uppB, decide_eq_true_eq, Bool.or_eq_true]
  repeat' split
  all_goals omega
theorem dg_dig (b : Int) : (dgO b != -1) = digB b := by
  rw [Bool.eq_iff_iff, bne_iff_ne]
  simp only [dgO, digB, decide_eq_true_eq]
  split <;> omega
theorem dg_tgt (b : Int) (n : Nat) : (digB b && isTgt (dgO b) n) = (digB b && (b != 48) && decide (b - 48 < n)) := by
  rw [Bool.eq_iff_iff]
  simp only [isTgt, dgO, digB, decide_eq_true_eq, Bool.and_eq_true, Bool.or_eq_true, beq_iff_eq, bne_iff_ne]
  by_cases h : 48 ≤ b ∧ b ≤ 57
  · rw [if_pos h]; omega
  · rw [if_neg h]; omega
theorem tgt_none (n : Int) : isTgt (-1) n = true := rfl
theorem okIns_eq (c : Nat → Int) (nb : Nat) (i : Nat) : okIns c nb 0 i = (dokAt c i && (isTgt (insAt c i).k nb && isTgt (insAt c i).m nb)) := by
  have e0 : ∀ f : Nat → Bool, ((List.range 3).all f) = (f 0 && f 1 && f 2) := fun f => by
    show (f 0 && (f 1 && (f 2 && true))) = _
    cases f 0 <;> cases f 1 <;> cases f 2 <;> rfl
  unfold okIns dokAt insAt dokB
  rw [e0]
  simp only [tkN, show (decide ((0 : Int) < 0)) = false from rfl, Nat.add_zero]
  generalize c (4 * i) = o
  rw [show 4 * i + 0 + 1 = 4 * i + 1 from rfl, show 4 * i + 1 + 1 = 4 * i + 2 from rfl, show 4 * i + 2 + 1 = 4 * i + 3 from rfl]
  generalize c (4 * i + 1) = a
  generalize c (4 * i + 2) = b
  generalize c (4 * i + 3) = d
  by_cases h1 : arithB o = true
  · have s1 : shp o false = ⟨#[82, 82, 82]⟩ := by simp [shp, h1]
    have s2 : dshp o = ⟨#[100, 120, 121]⟩ := by simp [dshp, h1]
    rw [s1, s2]
    show (true && (fitB a 82 0 nb && fitB b 82 0 nb && fitB d 82 0 nb)) = ((true && (tkB 100 a && tkB 120 b && tkB 121 d)) && (true && true))
    simp [fitB, regB, tkB, rg_let]
  rw [Bool.not_eq_true] at h1
  by_cases h2 : o = 35
  · have s1 : shp o false = ⟨#[82, 78, 78]⟩ := by simp [shp, arithB, h2]
    have s2 : dshp o = ⟨#[100, 110, 110]⟩ := by simp [dshp, arithB, h2]
    rw [s1, s2]
    show (true && (fitB a 82 0 nb && fitB b 78 0 nb && fitB d 78 0 nb)) = ((true && (tkB 100 a && tkB 110 b && tkB 110 d)) && (true && true))
    simp [fitB, regB, tkB, rg_let, dg_dig]
  by_cases h3 : o = 61 ∨ o = 108 ∨ o = 76
  · have s1 : shp o false = ⟨#[82, 82, 46]⟩ := by
      have : o = 61 ∨ o = 108 ∨ o = 76 ∨ o = 115 ∨ o = 83 := by omega
      simp [shp, h1, h2, this]
    have s2 : dshp o = ⟨#[100, 120, 46]⟩ := by simp [dshp, h1, h2, h3]
    rw [s1, s2]
    show (true && (fitB a 82 0 nb && fitB b 82 0 nb && fitB d 46 0 nb)) = ((true && (tkB 100 a && tkB 120 b && tkB 46 d)) && (true && true))
    simp [fitB, regB, tkB, rg_let]
  by_cases h4 : o = 115 ∨ o = 83
  · have s1 : shp o false = ⟨#[82, 82, 46]⟩ := by
      have : o = 61 ∨ o = 108 ∨ o = 76 ∨ o = 115 ∨ o = 83 := by omega
      simp [shp, h1, h2, this]
    have s2 : dshp o = ⟨#[120, 121, 46]⟩ := by simp [dshp, h1, h2, h3, h4]
    rw [s1, s2]
    show (true && (fitB a 82 0 nb && fitB b 82 0 nb && fitB d 46 0 nb)) = ((true && (tkB 120 a && tkB 121 b && tkB 46 d)) && (true && true))
    simp [fitB, regB, tkB, rg_let]
  have h34 : ¬ (o = 61 ∨ o = 108 ∨ o = 76 ∨ o = 115 ∨ o = 83) := by omega
  by_cases h5 : o = 106
  · have s1 : shp o false = ⟨#[66, 46, 46]⟩ := by simp [h5, shp_106]
    have s2 : dshp o = ⟨#[107, 46, 46]⟩ := by simp [dshp, h5, arithB]
    rw [s1, s2]
    show (true && (fitB a 66 0 nb && fitB b 46 0 nb && fitB d 46 0 nb)) = ((true && (tkB 107 a && tkB 46 b && tkB 46 d)) && (isTgt (dgO a) nb && true))
    have k := dg_tgt a nb
    simp only [fitB, tkB, dg_dig]
    simp
    rw [← k]
    cases digB a <;> cases isTgt (dgO a) nb <;> cases (b == 46) <;> cases (d == 46) <;> rfl
  by_cases h6 : o = 63
  · have s1 : shp o false = ⟨#[82, 66, 66]⟩ := by simp [h6, shp_63]
    have s2 : dshp o = ⟨#[120, 107, 109]⟩ := by simp [dshp, h6, arithB]
    rw [s1, s2]
    show (true && (fitB a 82 0 nb && fitB b 66 0 nb && fitB d 66 0 nb)) = ((true && (tkB 120 a && tkB 107 b && tkB 109 d)) && (isTgt (dgO b) nb && isTgt (dgO d) nb))
    have k1 := dg_tgt b nb
    have k2 := dg_tgt d nb
    simp only [fitB, tkB, dg_dig, rg_let, regB]
    simp
    rw [← k1, ← k2]
    cases letB a <;> cases digB b <;> cases digB d <;> cases isTgt (dgO b) nb <;> cases isTgt (dgO d) nb <;> rfl
  by_cases h7 : o = 114
  · have s1 : shp o false = ⟨#[82, 46, 46]⟩ := by simp [shp, h7, arithB]
    have s2 : dshp o = ⟨#[120, 46, 46]⟩ := by simp [dshp, h7, arithB]
    rw [s1, s2]
    show (true && (fitB a 82 0 nb && fitB b 46 0 nb && fitB d 46 0 nb)) = ((true && (tkB 120 a && tkB 46 b && tkB 46 d)) && (true && true))
    simp [fitB, regB, tkB, rg_let]
  · have s1 : shp o false = ⟨#[]⟩ := by simp [shp, h1, h2, h34, h5, h6, h7]
    have s2 : dshp o = ⟨#[]⟩ := by simp [dshp, h1, h2, h3, h4, h5, h6, h7]
    rw [s1, s2]
    rfl
/-- the program's whole test is the document's -/
theorem progB_bad (c : Nat → Int) (size i : Nat) (hi : i < size / 4) (h : dokAt c i = false) : progB c size 0 = false :=
  progB_no c size 0 i hi (by rw [okIns_eq, h, Bool.false_and])
theorem progB_all (c : Nat → Int) (size : Nat) (h5 : 4 ≤ size) (h4 : size % 4 = 0) (hd : ∀ i, i < size / 4 → dokAt c i = true) (hb : blocksTo c (size / 4) ≤ 10) (he : endB (c (4 * (size / 4 - 1))) = true) :
    progB c size 0 = (codeTo c (size / 4)).all fun i => isTgt i.k (blocksTo c (size / 4)) && isTgt i.m (blocksTo c (size / 4)) := by
  cases ha : (codeTo c (size / 4)).all fun i => isTgt i.k (blocksTo c (size / 4)) && isTgt i.m (blocksTo c (size / 4))
  · obtain ⟨x, hx, hn⟩ := List.all_eq_false.1 ha
    obtain ⟨i, hi, rfl⟩ := List.getElem_of_mem hx
    rw [codeTo_get] at hn
    rw [codeTo_len] at hi
    exact progB_no c size 0 i hi (by rw [okIns_eq, hd i hi, Bool.true_and]; simpa using hn)
  · refine progB_yes c size 0 h5 h4 hb he (fun i hi => ?_)
    rw [okIns_eq, hd i hi, Bool.true_and]
    have := List.all_eq_true.1 ha (insAt c i) (by rw [← codeTo_get c (size / 4) i (by rw [codeTo_len]; exact hi)]; exact List.getElem_mem _)
    exact this
theorem progB_open (c : Nat → Int) (size : Nat) (he : endB (c (4 * (size / 4 - 1))) = false) : progB c size 0 = false := by simp [progB, he]
theorem progB_many (c : Nat → Int) (size : Nat) (he : 10 < blocksTo c (size / 4)) : progB c size 0 = false := by
  have : ¬ blocksTo c (size / 4) ≤ 10 := by omega
  simp [progB, this]
theorem blocks_pos (c : Nat → Int) (n : Nat) (hn : 1 ≤ n) (he : endB (c (4 * (n - 1))) = true) : 1 ≤ blocksTo c n := by
  obtain ⟨m, rfl⟩ : ∃ m, n = m + 1 := ⟨n - 1, by omega⟩
  rw [Nat.add_sub_cancel] at he
  rw [blocksTo_yes c m he]; omega
end Go.Proofs.YtolhldbjfbkpiaaDoorR.Sp
