/-
  Pairs and what they say of two states: plain mathematics.
  One instruction of a machine beside one of a source program: plain mathematics.
  A machine program that is played beside a source program does what the source program does: plain mathematics.
  What is accepted has pairs for each block that can be reached: plain mathematics.
  What a source program becomes, and how it is played beside it: plain mathematics.
  What the compiler lays for an instruction is played beside it: plain mathematics.
  Blocks of what the compiler lays are well played: plain mathematics.
  What the compiler lays is accepted: plain mathematics.
  Where blocks lie in what the compiler lays, and what a run of it costs: plain mathematics.
  The blocks of what the compiler lays: plain mathematics.
  Programs that were read, as the mathematics of runs takes them.
-/
import Derived.Test.YtccndnckceagfabGreatDoorRG11
import Derived.Test.YtccndnckceagfabGreatDoorRHPSim
import Derived.Test.YtccndnckceagfabGreatDoorRHLv
import Derived.Test.YtccndnckceagfabGreatDoorRG03
import Derived.Test.YtccndnckceagfabGreatDoorRHMacSim
namespace Go.Proofs.YtccndnckceagfabGreatDoorR.Sp

theorem hasP_iff (E : Nat → Nat) (v p : Int) : hasP E v p = true ↔ (0 ≤ p ∧ p < 62) ∧ (0 ≤ v ∧ v ≤ 52) ∧ (E p.toNat).testBit v.toNat = true := by
  unfold hasP isPl bitN
  simp only [Bool.and_eq_true, decide_eq_true_eq, bne_iff_ne, ne_eq]
  by_cases hv : 0 ≤ v ∧ v ≤ 52
  · rw [if_pos hv]
    constructor
    · rintro ⟨hp, h⟩
      refine ⟨hp, hv, ?_⟩
      cases hb : (E p.toNat).testBit v.toNat
      · exfalso
        apply h
        apply Nat.eq_of_testBit_eq
        intro i
        rw [Nat.testBit_and, Nat.testBit_two_pow, Nat.zero_testBit]
        by_cases e : v.toNat = i
        · subst e; rw [hb]; rfl
        · simp [e]
      · rfl
    · rintro ⟨hp, _, h⟩
      refine ⟨hp, fun h0 => ?_⟩
      have h1 : (E p.toNat &&& 2 ^ v.toNat).testBit v.toNat = false := by rw [h0, Nat.zero_testBit]
      rw [Nat.testBit_and, h, Nat.testBit_two_pow_self] at h1
      exact absurd h1 (by decide)
  · rw [if_neg hv]
    simp [hv]
theorem bitN_test (u : Int) (i : Nat) : (bitN u).testBit i = decide (0 ≤ u ∧ u ≤ 52 ∧ u = (i : Int)) := by
  unfold bitN
  by_cases hv : 0 ≤ u ∧ u ≤ 52
  · rw [if_pos hv, Nat.testBit_two_pow]
    exact decide_eq_decide.mpr ⟨fun h => ⟨hv.1, hv.2, by omega⟩, fun h => by omega⟩
  · rw [if_neg hv, Nat.zero_testBit]
    exact (decide_eq_false (fun h => hv ⟨h.1, h.2.1⟩)).symm
theorem hasP_lose (E : Nat → Nat) (r v p : Int) : hasP (loseP E r) v p = true ↔ hasP E v p = true ∧ v ≠ r := by
  rw [hasP_iff, hasP_iff]
  have key : ∀ n : Nat, n ≤ 52 → (18446744073709551615 - bitN r).testBit n = !(bitN r).testBit n := by
    intro n hn
    have := Nat.testBit_two_pow_sub_succ (x := bitN r) (n := 64) (Nat.lt_trans (show bitN r < 2 ^ 53 by unfold bitN; split; exact Nat.pow_lt_pow_right (by omega) (by omega); exact Nat.pos_of_ne_zero (by simp)) (by decide)) n
    rw [show 2 ^ 64 - (bitN r + 1) = 18446744073709551615 - bitN r by omega] at this
    rw [this, show decide (n < 64) = true from decide_eq_true (by omega), Bool.true_and]
  unfold loseP
  rw [Nat.testBit_and, Bool.and_eq_true]
  constructor
  · rintro ⟨hp, hv, h1, h2⟩
    rw [key _ (by omega), bitN_test] at h2
    simp only [Bool.not_eq_true', decide_eq_false_iff_not] at h2
    exact ⟨⟨hp, hv, h1⟩, fun e => h2 ⟨by omega, by omega, by omega⟩⟩
  · rintro ⟨⟨hp, hv, h1⟩, hne⟩
    refine ⟨hp, hv, h1, ?_⟩
    rw [key _ (by omega), bitN_test]
    simp only [Bool.not_eq_true', decide_eq_false_iff_not]
    omega
theorem hasP_gain (E : Nat → Nat) (d x v p : Int) : hasP (gainP E d x) v p = true ↔ hasP E v p = true ∨ (v = d ∧ (0 ≤ d ∧ d ≤ 52) ∧ hasP E x p = true) := by
  rw [hasP_iff (gainP E d x), hasP_iff E v]
  unfold gainP
  by_cases hp : 0 ≤ p ∧ p < 62
  · rw [show ((p.toNat : Nat) : Int) = p by omega]
    cases hx : hasP E x p
    · simp
    · simp only [if_true, Nat.testBit_or, Bool.or_eq_true, bitN_test, decide_eq_true_eq, and_true]
      constructor
      · rintro ⟨_, hv, h | h⟩
        · exact Or.inl ⟨hp, hv, h⟩
        · exact Or.inr ⟨by omega, by omega⟩
      · rintro (⟨_, hv, h⟩ | ⟨h1, h2⟩)
        · exact ⟨hp, hv, Or.inl h⟩
        · exact ⟨hp, by omega, Or.inr ⟨by omega, by omega, by omega⟩⟩
  · constructor
    · rintro ⟨h, _⟩; exact absurd h hp
    · rintro (⟨h, _⟩ | ⟨_, _, h⟩)
      · exact absurd h hp
      · exact absurd ((hasP_iff E x p).1 h).1 hp
theorem hasP_set (E : Nat → Nat) (u q v p : Int) (hq : 0 ≤ q ∧ q < 62) : hasP (setP E u q) v p = true ↔ (p = q ∧ v = u ∧ 0 ≤ u ∧ u ≤ 52) ∨ (p ≠ q ∧ hasP E v p = true) := by
  rw [hasP_iff, hasP_iff]
  unfold setP
  rw [if_pos (show isPl q = true by simp [isPl, hq])]
  by_cases e : p = q
  · subst e
    simp only [if_true, bitN_test, decide_eq_true_eq, ne_eq, not_true, false_and, or_false, true_and]
    constructor
    · rintro ⟨_, hv, h1, h2, h3⟩; omega
    · rintro ⟨rfl, h⟩; exact ⟨hq, by omega, by omega, by omega, by omega⟩
  · constructor
    · rintro ⟨hp, hv, h⟩
      rw [if_neg (by omega)] at h
      exact Or.inr ⟨e, hp, hv, h⟩
    · rintro (⟨h, _⟩ | ⟨_, hp, hv, h⟩)
      · exact absurd h e
      · exact ⟨hp, hv, by rw [if_neg (by omega)]; exact h⟩
theorem hasP_copyPl (E : Nat → Nat) (t f v p : Int) (ht : 0 ≤ t ∧ t < 62) (hf : 0 ≤ f ∧ f < 62) : hasP (copyPl E t f) v p = true ↔ (p = t ∧ hasP E v f = true) ∨ (p ≠ t ∧ hasP E v p = true) := by
  rw [hasP_iff, hasP_iff, hasP_iff]
  unfold copyPl
  rw [if_pos (show isPl t = true ∧ isPl f = true by simp [isPl, ht, hf])]
  by_cases e : p = t
  · subst e
    simp only [if_true, ne_eq, not_true, false_and, or_false, true_and]
    constructor
    · rintro ⟨_, hv, h⟩; exact ⟨hf, hv, h⟩
    · rintro ⟨_, hv, h⟩; exact ⟨ht, hv, h⟩
  · constructor
    · rintro ⟨hp, hv, h⟩
      rw [if_neg (by omega)] at h
      exact Or.inr ⟨e, hp, hv, h⟩
    · rintro (⟨h, _⟩ | ⟨_, hp, hv, h⟩)
      · exact absurd h e
      · exact ⟨hp, hv, by rw [if_neg (by omega)]; exact h⟩
theorem hasP_meet (E F : Nat → Nat) (v p : Int) : hasP (meetP E F) v p = true ↔ hasP E v p = true ∧ hasP F v p = true := by
  rw [hasP_iff, hasP_iff, hasP_iff]
  unfold meetP
  rw [Nat.testBit_and, Bool.and_eq_true]
  constructor
  · rintro ⟨hp, hv, h1, h2⟩; exact ⟨⟨hp, hv, h1⟩, hp, hv, h2⟩
  · rintro ⟨⟨hp, hv, h1⟩, _, _, h2⟩; exact ⟨hp, hv, h1, h2⟩
theorem hasP_start (v p : Int) : hasP startE v p = true ↔ (0 ≤ p ∧ p < 62) ∧ v = begR p.toNat := by
  rw [hasP_iff]
  unfold startE
  rw [bitN_test, decide_eq_true_eq]
  have : 0 ≤ begR p.toNat ∧ begR p.toNat ≤ 52 := by
    unfold begR
    repeat' split
    all_goals omega
  constructor
  · rintro ⟨hp, hv, h1, h2, h3⟩; exact ⟨hp, by omega⟩
  · rintro ⟨hp, rfl⟩; exact ⟨hp, this, this.1, this.2, by omega⟩

/-! ### What pairs say of two states -/
theorem rdP_wrP (m : PSt) (p v q : Int) : rdP (wrP m p v) q = if q = p ∧ 0 ≤ p ∧ p < 62 then v else rdP m q := by
  unfold rdP wrP
  by_cases hp : 0 ≤ p ∧ p < 62
  · rw [if_pos hp]
    by_cases hq : q = p
    · subst hq; rw [if_pos hp, if_pos ⟨rfl, hp⟩]; simp [upd]
    · rw [if_neg (show ¬ (q = p ∧ 0 ≤ p ∧ p < 62) from fun h => hq h.1)]
      by_cases h0 : 0 ≤ q ∧ q < 62
      · rw [if_pos h0, if_pos h0]
        show upd m.pl p.toNat v q.toNat = _
        unfold upd
        rw [if_neg (by omega)]
      · rw [if_neg h0, if_neg h0]
  · rw [if_neg hp, if_neg (show ¬ (q = p ∧ 0 ≤ p ∧ p < 62) from fun h => hp h.2)]
/-- what a register of the source, or the number 0, is worth -/
def valP (m : PSt) (v : Int) : Int := if v = 52 then 0 else rdP m v
def Hol (E : Nat → Nat) (m μ : PSt) : Prop := ∀ v p, hasP E v p = true → rdP μ p = valP m v
theorem valP_reg (m : PSt) {v : Int} (h : v < 52) : valP m v = rdP m v := by unfold valP; rw [if_neg (by omega)]
theorem Hol.mono {E F : Nat → Nat} {m μ : PSt} (h : Hol E m μ) (hs : ∀ v p, hasP F v p = true → hasP E v p = true) : Hol F m μ := fun v p hf => h v p (hs v p hf)
theorem Hol.copyReg {E : Nat → Nat} {m μ : PSt} (h : Hol E m μ) {d x : Int} (hd : 0 ≤ d ∧ d < 52) (hx : 0 ≤ x ∧ x < 52) : Hol (copyReg E d x) (wrP m d (rdP m x)) μ := by
  intro v p hv
  have hval : ∀ v, v ≠ d → valP (wrP m d (rdP m x)) v = valP m v := by
    intro v hne
    unfold valP
    split
    · rfl
    · rw [rdP_wrP, if_neg (fun hh => hne hh.1)]
  have hvd : valP (wrP m d (rdP m x)) d = rdP m x := by
    rw [valP_reg _ hd.2, rdP_wrP, if_pos ⟨rfl, by omega⟩]
  unfold Sp.copyReg at hv
  by_cases e : d = x
  · rw [if_pos e] at hv
    by_cases ev : v = d
    · subst ev
      rw [hvd, ← e, h _ _ hv, valP_reg _ hd.2]
    · rw [hval v ev]; exact h v p hv
  · rw [if_neg e, hasP_gain] at hv
    rcases hv with hv | ⟨rfl, _, hv⟩
    · rw [hasP_lose] at hv
      rw [hval v hv.2]; exact h v p hv.1
    · rw [hasP_lose] at hv
      rw [hvd, h _ _ hv.1, valP_reg _ hx.2]
theorem Hol.copyPl {E : Nat → Nat} {m μ : PSt} (h : Hol E m μ) {d x : Int} (hd : 0 ≤ d ∧ d < 62) (hx : 0 ≤ x ∧ x < 62) : Hol (copyPl E d x) m (wrP μ d (rdP μ x)) := by
  intro v p hv
  rw [hasP_copyPl _ _ _ _ _ hd hx] at hv
  rw [rdP_wrP]
  rcases hv with ⟨rfl, hv⟩ | ⟨hne, hv⟩
  · rw [if_pos ⟨rfl, hd⟩]; exact h _ _ hv
  · rw [if_neg (fun hh => hne hh.1)]; exact h _ _ hv
theorem Hol.clear {E : Nat → Nat} {m μ : PSt} (h : Hol E m μ) {d : Int} (hd : 0 ≤ d ∧ d < 62) : Hol (setP E 52 d) m (wrP μ d 0) := by
  intro v p hv
  rw [hasP_set _ _ _ _ _ hd] at hv
  rw [rdP_wrP]
  rcases hv with ⟨rfl, rfl, _⟩ | ⟨hne, hv⟩
  · rw [if_pos ⟨rfl, hd⟩]; rfl
  · rw [if_neg (fun hh => hne hh.1)]; exact h _ _ hv
theorem Hol.wrote {E : Nat → Nat} {m μ : PSt} (h : Hol E m μ) {d e : Int} (hd : 0 ≤ d ∧ d < 52) (he : 0 ≤ e ∧ e < 62) (z : Int) : Hol (setP (loseP E d) d e) (wrP m d z) (wrP μ e z) := by
  intro v p hv
  rw [hasP_set _ _ _ _ _ he, hasP_lose] at hv
  rw [rdP_wrP]
  rcases hv with ⟨rfl, rfl, _⟩ | ⟨hne, hv, hvd⟩
  · rw [if_pos ⟨rfl, he⟩, valP_reg _ hd.2, rdP_wrP, if_pos ⟨rfl, by omega⟩]
  · rw [if_neg (fun hh => hne hh.1), h _ _ hv]
    unfold valP
    split
    · rfl
    · rw [rdP_wrP, if_neg (fun hh => hvd hh.1)]
theorem Hol.pl {E : Nat → Nat} {m μ m' μ' : PSt} (h : Hol E m μ) (h1 : m'.pl = m.pl) (h2 : μ'.pl = μ.pl) : Hol E m' μ' := by
  intro v p hv
  have := h v p hv
  unfold valP rdP at *
  rw [h1, h2]
  exact this

/-! ### The trace without the pieces of the frame -/
def frB (c : UInt8) : Bool := c == 62 || c == 60 || c == 126
def er : List UInt8 → List UInt8
  | [] => []
  | [c] => if frB c = true then [] else [c]
  | c :: d :: r => if frB c = true then er r else c :: er (d :: r)
theorem er_cons {c : UInt8} (h : frB c = false) (X : List UInt8) : er (c :: X) = c :: er X := by
  cases X with
  | nil => simp [er, h]
  | cons d r => simp [er, h]
theorem er_free : ∀ (t X : List UInt8), (∀ c ∈ t, frB c = false) → er (t ++ X) = t ++ er X
  | [], _, _ => rfl
  | c :: t, X, h => by
    rw [List.cons_append, er_cons (h c (by simp)), er_free t X (fun b hb => h b (by simp [hb])), List.cons_append]
theorem er_slot {c d : UInt8} (h : frB c = true) (X : List UInt8) : er (c :: d :: X) = er X := by simp [er, h]
theorem dec_free (u : Nat) : ∀ c ∈ Lib.decDigits u, frB c = false := by
  intro c hc
  rw [Lib.decDigits_eq, List.mem_map] at hc
  obtain ⟨t, _, rfl⟩ := hc
  have key : ∀ r : _root_.Fin 10, frB (UInt8.ofNat (48 + r.val)) = false := by decide
  exact key ⟨u / 10 ^ (Lib.nDigits u - 1 - t) % 10, Nat.mod_lt _ (by decide)⟩
end Go.Proofs.YtccndnckceagfabGreatDoorR.Sp

namespace Go.Proofs.YtccndnckceagfabGreatDoorR.Sp

def Rg (R p : Int) : Prop := 0 ≤ p ∧ p < R
/-- what an instruction that was read has: R registers -/
structure InsF (R : Int) (i : Ins) : Prop where
  ops : arithB i.o = true ∨ i.o = 35 ∨ i.o = 61 ∨ i.o = 108 ∨ i.o = 76 ∨ i.o = 115 ∨ i.o = 83 ∨ i.o = 106 ∨ i.o = 63 ∨ i.o = 114 ∨ i.o = 62 ∨ i.o = 60 ∨ i.o = 126
  ar : arithB i.o = true → Rg R i.d ∧ Rg R i.x ∧ Rg R i.y
  num : i.o = 35 → Rg R i.d ∧ i.x = -1 ∧ i.y = -1
  two : i.o = 61 ∨ i.o = 108 ∨ i.o = 76 → Rg R i.d ∧ Rg R i.x ∧ i.y = -1
  sto : i.o = 115 ∨ i.o = 83 → i.d = -1 ∧ Rg R i.x ∧ Rg R i.y
  jmp : i.o = 106 → i.d = -1 ∧ i.x = -1 ∧ i.y = -1
  cnd : i.o = 63 → i.d = -1 ∧ Rg R i.x ∧ i.y = -1
  ret : i.o = 114 → i.d = -1 ∧ Rg R i.x ∧ i.y = -1
  put : i.o = 62 → (10 ≤ i.d ∧ i.d < 62) ∧ Rg R i.x
  get : i.o = 60 → Rg R i.d ∧ 10 ≤ i.x ∧ i.x < 62
  clr : i.o = 126 → (0 ≤ i.d ∧ i.d < 62) ∧ i.x = -1
structure InsS (i : Ins) : Prop where
  f : InsF 52 i
  no : i.o ≠ 62 ∧ i.o ≠ 60 ∧ i.o ≠ 126
structure InsM (k : Int) (i : Ins) : Prop where
  f : InsF k i
  r0 : i.o = 114 → i.x = 0

/-- two states of which the pairs tell -/
structure RelP (E : Nat → Nat) (m μ : PSt) : Prop where
  hol : Hol E m μ
  pub : m.pub = μ.pub
  sec : m.sec = μ.sec
  tr : ∀ X : List UInt8, er (μ.trace.data.toList ++ X) = m.trace.data.toList ++ er X
  st : m.status = μ.status
  val : m.value = μ.value
  en : m.ended = false
  en' : μ.ended = false
/-- two runs that ended alike -/
structure Fin' (m μ : PSt) : Prop where
  pub : m.pub = μ.pub
  sec : m.sec = μ.sec
  tr : er μ.trace.data.toList = m.trace.data.toList
  st : m.status = μ.status
  val : m.value = μ.value
  en : m.ended = true
  en' : μ.ended = true
  s01 : m.status = 0 ∨ m.status = 1
  cl : m.status = 0 → (∀ p : Nat, 1 ≤ p → p < 62 → μ.pl p = 0) ∧ μ.pl 0 = μ.value

theorem RelP.mono {E F : Nat → Nat} {m μ : PSt} (h : RelP E m μ) (hs : ∀ v p, hasP F v p = true → hasP E v p = true) : RelP F m μ :=
  ⟨h.hol.mono hs, h.pub, h.sec, h.tr, h.st, h.val, h.en, h.en'⟩
theorem wrP_all (m : PSt) (p v : Int) : (wrP m p v).pub = m.pub ∧ (wrP m p v).sec = m.sec ∧ (wrP m p v).trace = m.trace ∧ (wrP m p v).status = m.status ∧ (wrP m p v).value = m.value ∧ (wrP m p v).ended = m.ended := by
  unfold wrP
  split <;> exact ⟨rfl, rfl, rfl, rfl, rfl, rfl⟩
theorem arith_ops {o : Int} (h : arithB o = true) : o = 43 ∨ o = 45 ∨ o = 42 ∨ o = 38 ∨ o = 94 := by
  simp only [arithB, Bool.or_eq_true, beq_iff_eq] at h
  omega
/-- the writing of both -/
theorem RelP.both {E : Nat → Nat} {m μ : PSt} (h : RelP E m μ) {E' : Nat → Nat} {d e z z' : Int} (hh : Hol E' (wrP m d z) (wrP μ e z')) : RelP E' (wrP m d z) (wrP μ e z') := by
  obtain ⟨a1, a2, a3, a4, a5, a6⟩ := wrP_all m d z
  obtain ⟨b1, b2, b3, b4, b5, b6⟩ := wrP_all μ e z'
  refine ⟨hh, ?_, ?_, ?_, ?_, ?_, ?_, ?_⟩
  · rw [a1, b1, h.pub]
  · rw [a2, b2, h.sec]
  · rw [a3, b3]; exact h.tr
  · rw [a4, b4, h.st]
  · rw [a5, b5, h.val]
  · rw [a6, h.en]
  · rw [b6, h.en']
theorem RelP.left {E : Nat → Nat} {m μ : PSt} (h : RelP E m μ) {E' : Nat → Nat} {d z : Int} (hh : Hol E' (wrP m d z) μ) : RelP E' (wrP m d z) μ := by
  obtain ⟨a1, a2, a3, a4, a5, a6⟩ := wrP_all m d z
  refine ⟨hh, ?_, ?_, ?_, ?_, ?_, ?_, h.en'⟩
  · rw [a1, h.pub]
  · rw [a2, h.sec]
  · rw [a3]; exact h.tr
  · rw [a4, h.st]
  · rw [a5, h.val]
  · rw [a6, h.en]
theorem RelP.right {E : Nat → Nat} {m μ : PSt} (h : RelP E m μ) {E' : Nat → Nat} {d z : Int} (hh : Hol E' m (wrP μ d z)) : RelP E' m (wrP μ d z) := by
  obtain ⟨a1, a2, a3, a4, a5, a6⟩ := wrP_all μ d z
  refine ⟨hh, ?_, ?_, ?_, ?_, ?_, h.en, ?_⟩
  · rw [a1, h.pub]
  · rw [a2, h.sec]
  · rw [a3]; exact h.tr
  · rw [a4, h.st]
  · rw [a5, h.val]
  · rw [a6, h.en']
theorem append_list (a b : ByteArray) : (a ++ b).data.toList = a.data.toList ++ b.data.toList := by
  simp [ByteArray.data_append]
/-- the same piece for both -/
theorem RelP.show' {E : Nat → Nat} {m μ : PSt} (h : RelP E m μ) (t : ByteArray) (ht : ∀ c ∈ t.data.toList, frB c = false) : RelP E (shP m t) (shP μ t) := by
  refine ⟨h.hol.pl rfl rfl, h.pub, h.sec, fun X => ?_, h.st, h.val, h.en, h.en'⟩
  show er ((μ.trace ++ t).data.toList ++ X) = (m.trace ++ t).data.toList ++ er X
  rw [append_list, append_list, List.append_assoc, h.tr, er_free _ _ ht, List.append_assoc]
/-- a piece of the frame -/
theorem RelP.frame {E : Nat → Nat} {m μ : PSt} (h : RelP E m μ) (c d : UInt8) (hc : frB c = true) : RelP E m (shP μ ⟨#[c, d]⟩) := by
  refine ⟨h.hol.pl rfl rfl, h.pub, h.sec, fun X => ?_, h.st, h.val, h.en, h.en'⟩
  show er ((μ.trace ++ ⟨#[c, d]⟩).data.toList ++ X) = m.trace.data.toList ++ er X
  rw [append_list, List.append_assoc, h.tr]
  congr 1
  exact er_slot hc X
theorem RelP.slt {E : Nat → Nat} {m μ : PSt} (h : RelP E m μ) (o p : Int) (ho : o = 62 ∨ o = 60 ∨ o = 126) : RelP E m (sltP μ o p) := by
  unfold sltP
  split
  · exact h
  · refine h.frame _ _ ?_
    rcases ho with rfl | rfl | rfl <;> rfl
theorem sltP_pl (m : PSt) (o p : Int) : (sltP m o p).pl = m.pl := by unfold sltP; split <;> rfl
theorem rdP_pl {m m' : PSt} (h : m'.pl = m.pl) (p : Int) : rdP m' p = rdP m p := by unfold rdP; rw [h]

/-- a copy of the source -/
theorem pass_step {E : Nat → Nat} {m μ : PSt} {j : Ins} (hj : InsS j) (ho : j.o = 61) (h : RelP E m μ) (F : Int → Int) (q : Int) : RelP (copyReg E j.d j.x) (stepP F m q j).1 μ ∧ (stepP F m q j).2 = q + 1 := by
  obtain ⟨hd, hx, _⟩ := hj.f.two (Or.inl ho)
  have e : stepP F m q j = (wrP m j.d (rdP m j.x), q + 1) := by
    unfold stepP cmpP
    rw [ho]
    simp [arithB]
  rw [e]
  exact ⟨h.left (h.hol.copyReg hd hx), rfl⟩
/-- a move of the machine -/
theorem move_step {E : Nat → Nat} {m μ : PSt} {k : Int} (hk : k ≤ 10) {i : Ins} (hi : InsM k i) (ho : isMv i.o = true) (h : RelP E m μ) (F : Int → Int) (a : Int) : RelP (moveP E i) m (stepP F μ a i).1 ∧ (stepP F μ a i).2 = a + 1 := by
  simp only [isMv, Bool.or_eq_true, beq_iff_eq] at ho
  by_cases h61 : i.o = 61
  · obtain ⟨hd, hx, _⟩ := hi.f.two (Or.inl h61)
    have e : stepP F μ a i = (wrP μ i.d (rdP μ i.x), a + 1) := by
      unfold stepP cmpP
      rw [h61]
      simp [arithB]
    have e2 : moveP E i = copyPl E i.d i.x := by unfold moveP; rw [if_neg (by omega)]
    rw [e, e2]
    have hd1 := hd.1
    have hd2 := hd.2
    have hx1 := hx.1
    have hx2 := hx.2
    exact ⟨h.right (h.hol.copyPl (by omega) (by omega)), rfl⟩
  have ho3 : i.o = 62 ∨ i.o = 60 ∨ i.o = 126 := by omega
  have e : stepP F μ a i = (movP μ i, a + 1) := by
    unfold stepP
    rw [if_neg (by omega), if_neg (by omega), if_neg (by omega), if_neg (by omega), if_pos ho3]
  rw [e]
  refine ⟨?_, rfl⟩
  have h2 : RelP E m (sltP (sltP μ i.o i.d) i.o i.x) := (h.slt _ _ ho3).slt _ _ ho3
  show RelP (moveP E i) m (movP μ i)
  unfold movP moveP
  generalize sltP (sltP μ i.o i.d) i.o i.x = μ2 at h2
  by_cases h126 : i.o = 126
  · obtain ⟨hd, hx⟩ := hi.f.clr h126
    rw [if_pos h126, hx, show rdP μ2 (-1) = 0 from rfl]
    exact h2.right (h2.hol.clear hd)
  · rw [if_neg h126]
    have hdx : (0 ≤ i.d ∧ i.d < 62) ∧ (0 ≤ i.x ∧ i.x < 62) := by
      rcases ho3 with h1 | h1 | h1
      · obtain ⟨a1, a2, a3⟩ := hi.f.put h1
        omega
      · obtain ⟨⟨a1, a2⟩, a3⟩ := hi.f.get h1
        omega
      · exact absurd h1 h126
    exact h2.right (h2.hol.copyPl hdx.1 hdx.2)
theorem mayRd_val {E : Nat → Nat} {m μ : PSt} (h : Hol E m μ) {r p : Int} (hr : r < 52) (hm : mayRd E r p = true) : rdP μ p = rdP m r := by
  unfold mayRd at hm
  by_cases e : r = -1
  · rw [if_pos e, beq_iff_eq] at hm
    rw [e, hm]
    rfl
  · rw [if_neg e] at hm
    rw [h _ _ hm, valP_reg _ hr]
theorem InsF.lt {i : Ins} (h : InsF 52 i) (ho : i.o ≠ 60) : i.x < 52 ∧ i.y < 52 ∨ i.o = 62 ∨ i.o = 126 := by
  rcases h.ops with o | o | o | o | o | o | o | o | o | o | o | o | o
  · have := h.ar o; unfold Rg at this; omega
  · have := h.num o; unfold Rg at this; omega
  · have := h.two (by omega); unfold Rg at this; omega
  · have := h.two (by omega); unfold Rg at this; omega
  · have := h.two (by omega); unfold Rg at this; omega
  · have := h.sto (by omega); unfold Rg at this; omega
  · have := h.sto (by omega); unfold Rg at this; omega
  · have := h.jmp o; omega
  · have := h.cnd o; unfold Rg at this; omega
  · have := h.ret o; unfold Rg at this; omega
  · omega
  · omega
  · omega
theorem memT_free (o v : Int) (ho : o = 108 ∨ o = 76 ∨ o = 115 ∨ o = 83) : ∀ c ∈ (memT o v).data.toList, frB c = false := by
  intro c hc
  unfold memT at hc
  rw [append_list] at hc
  rcases List.mem_append.1 hc with h | h
  · simp only [List.mem_singleton] at h
    subst h
    rcases ho with rfl | rfl | rfl | rfl <;> rfl
  · have : c ∈ Lib.decDigits v.toNat := by simpa using h
    exact dec_free _ c this
theorem cleared_pl {E : Nat → Nat} {m μ : PSt} (h : Hol E m μ) (hc : clearedP E = true) (p : Nat) (h1 : 1 ≤ p) (h2 : p < 62) : μ.pl p = 0 := by
  unfold clearedP at hc
  have := List.all_eq_true.1 hc (p - 1) (List.mem_range.mpr (by omega))
  have h3 := h _ _ this
  have e : ((p - 1 : Nat) : Int) + 1 = (p : Int) := by omega
  rw [e] at h3
  unfold rdP at h3
  rw [if_pos (by omega)] at h3
  exact h3

def NextOf (F F' : Int → Int) (q a : Int) (j : Ins) (q' a' : Int) : Prop :=
  (endB j.o = false ∧ q' = q + 1 ∧ a' = a + 1) ∨ (endB j.o = true ∧ ∃ s, ((s = j.k ∧ (j.o = 106 ∨ j.o = 63)) ∨ (s = j.m ∧ j.o = 63)) ∧ q' = F s ∧ a' = F' s)
/-- an instruction of the machine that stands for one of the source -/
theorem follow_step {E : Nat → Nat} {m μ : PSt} {k : Int} (hk : k ≤ 10) {j i : Ins} (hj : InsS j) (hi : InsM k i) (hmv : isMv i.o = false) (hf : followP E j i = true) (h : RelP E m μ) (F F' : Int → Int) (q a : Int) :
    Fin' (stepP F m q j).1 (stepP F' μ a i).1 ∨ (RelP (wroteP E j i) (stepP F m q j).1 (stepP F' μ a i).1 ∧ NextOf F F' q a j (stepP F m q j).2 (stepP F' μ a i).2) := by
  have hmv' : i.o ≠ 61 ∧ i.o ≠ 62 ∧ i.o ≠ 60 ∧ i.o ≠ 126 := by
    simp only [isMv, Bool.or_eq_false_iff, beq_eq_false_iff_ne] at hmv
    omega
  unfold followP sameOp at hf
  simp only [Bool.and_eq_true, beq_iff_eq, Bool.or_eq_true, bne_iff_ne] at hf
  obtain ⟨⟨⟨⟨⟨⟨eo, en⟩, ek⟩, em⟩, rx⟩, ry⟩, hcl⟩ := hf
  have hjlt : j.x < 52 ∧ j.y < 52 := by
    rcases hj.f.lt hj.no.2.1 with h | h | h
    · exact h
    · exact absurd h hj.no.1
    · exact absurd h hj.no.2.2
  have vx : rdP μ i.x = rdP m j.x := mayRd_val h.hol hjlt.1 rx
  have vy : rdP μ i.y = rdP m j.y := mayRd_val h.hol hjlt.2 ry
  have nd : j.d = -1 → wroteP E j i = E := fun e => by unfold wroteP; rw [if_pos e]
  by_cases o1 : j.o = 106
  · refine Or.inr ?_
    rw [nd (hj.f.jmp o1).1]
    unfold stepP
    rw [if_pos o1, if_pos (by omega)]
    exact ⟨h, Or.inr ⟨by rw [o1]; rfl, j.k, Or.inl ⟨rfl, Or.inl o1⟩, rfl, by rw [ek]⟩⟩
  by_cases o2 : j.o = 63
  · refine Or.inr ?_
    rw [nd (hj.f.cnd o2).1]
    have es : stepP F m q j = (if rdP m j.x ≠ 0 then (shP m ⟨#[63, 49]⟩, F j.k) else (shP m ⟨#[63, 48]⟩, F j.m)) := by
      unfold stepP
      rw [if_neg o1, if_pos o2]
    have es' : stepP F' μ a i = (if rdP m j.x ≠ 0 then (shP μ ⟨#[63, 49]⟩, F' i.k) else (shP μ ⟨#[63, 48]⟩, F' i.m)) := by
      unfold stepP
      rw [if_neg (show ¬ i.o = 106 by omega), if_pos (show i.o = 63 by omega), vx]
    rw [es, es']
    by_cases hz : rdP m j.x ≠ 0
    · rw [if_pos hz, if_pos hz]
      exact ⟨h.show' _ (by decide), Or.inr ⟨by rw [o2]; rfl, j.k, Or.inl ⟨rfl, Or.inr o2⟩, rfl, by rw [ek]⟩⟩
    · rw [if_neg hz, if_neg hz]
      exact ⟨h.show' _ (by decide), Or.inr ⟨by rw [o2]; rfl, j.m, Or.inr ⟨rfl, o2⟩, rfl, by rw [em]⟩⟩
  by_cases o3 : j.o = 114
  · refine Or.inl ?_
    have hc : clearedP (wroteP E j i) = true := by
      rcases hcl with hcl | hcl
      · exact absurd (by omega) hcl
      · exact hcl
    rw [nd (hj.f.ret o3).1] at hc
    unfold stepP
    rw [if_neg o1, if_neg o2, if_pos o3, if_neg (by omega), if_neg (by omega), if_pos (by omega)]
    refine ⟨h.pub, h.sec, ?_, rfl, ?_, rfl, rfl, Or.inl rfl, fun _ => ⟨fun p h1 h2 => cleared_pl h.hol hc p h1 h2, ?_⟩⟩
    · have := h.tr []
      rw [List.append_nil, show er [] = [] from rfl, List.append_nil] at this
      exact this
    · exact vx.symm
    · show μ.pl 0 = rdP μ i.x
      rw [hi.r0 (by omega)]
      rfl
  by_cases o4 : j.o = 108 ∨ j.o = 76 ∨ j.o = 115 ∨ j.o = 83
  · have hend : endB j.o = false := by
      unfold endB
      rcases o4 with o | o | o | o <;> rw [o] <;> rfl
    have hm1 : RelP E (shP m (memT j.o (rdP m j.x))) (shP μ (memT j.o (rdP m j.x))) := h.show' _ (memT_free _ _ o4)
    have es : stepP F m q j = (reaP m j, q + 1) := by
      unfold stepP
      rw [if_neg o1, if_neg o2, if_neg o3, if_pos o4]
    have es' : stepP F' μ a i = (reaP μ i, a + 1) := by
      unfold stepP
      rw [if_neg (by omega), if_neg (by omega), if_neg (by omega), if_pos (by omega)]
    rw [es, es']
    unfold reaP
    simp only [vx, eo]
    generalize rdP m j.x = z at *
    generalize shP m (memT j.o z) = m1 at *
    generalize hμ1 : shP μ (memT j.o z) = μ1 at *
    by_cases h8 : 8 ≤ z
    · refine Or.inl ?_
      rw [if_pos h8, if_pos h8]
      have h3 := hm1.show' ⟨#[33]⟩ (by decide)
      refine ⟨h3.pub, h3.sec, ?_, rfl, h3.val, rfl, rfl, Or.inr rfl, fun hs => ?_⟩
      · have := h3.tr []
        rw [List.append_nil, show er [] = [] from rfl, List.append_nil] at this
        exact this
      · exact absurd (show (1 : Int) = 0 from hs) (by decide)
    refine Or.inr ⟨?_, Or.inl ⟨hend, rfl, rfl⟩⟩
    rw [if_neg h8, if_neg h8]
    have hsto : ∀ f : Int, j.o = 115 ∨ j.o = 83 → j.d = -1 ∧ rdP μ1 i.y = rdP m1 j.y := by
      intro _ ho
      refine ⟨(hj.f.sto ho).1, ?_⟩
      exact mayRd_val hm1.hol hjlt.2 ry
    by_cases o5 : j.o = 108
    · rw [if_pos o5, if_pos o5]
      obtain ⟨hd, _⟩ := hj.f.two (by omega)
      obtain ⟨hd', _⟩ := hi.f.two (by omega)
      unfold wroteP
      unfold Rg at hd hd'
      rw [if_neg (by omega), hm1.pub]
      exact hm1.both (hm1.hol.wrote hd (by omega) _)
    by_cases o6 : j.o = 76
    · rw [if_neg o5, if_pos o6, if_neg o5, if_pos o6]
      obtain ⟨hd, _⟩ := hj.f.two (by omega)
      obtain ⟨hd', _⟩ := hi.f.two (by omega)
      unfold wroteP
      unfold Rg at hd hd'
      rw [if_neg (by omega), hm1.sec]
      exact hm1.both (hm1.hol.wrote hd (by omega) _)
    obtain ⟨hd, hy⟩ := hsto 0 (by omega)
    rw [nd hd]
    by_cases o7 : j.o = 115
    · rw [if_neg o5, if_neg o6, if_pos o7, if_neg o5, if_neg o6, if_pos o7, hy, hm1.pub]
      exact ⟨hm1.hol.pl rfl rfl, rfl, hm1.sec, hm1.tr, hm1.st, hm1.val, hm1.en, hm1.en'⟩
    · rw [if_neg o5, if_neg o6, if_neg o7, if_neg o5, if_neg o6, if_neg o7, hy, hm1.sec]
      exact ⟨hm1.hol.pl rfl rfl, hm1.pub, rfl, hm1.tr, hm1.st, hm1.val, hm1.en, hm1.en'⟩
  have es : stepP F m q j = (wrP m j.d (cmpP j.o (rdP m j.x) (rdP m j.y) j.n), q + 1) := by
    unfold stepP
    rw [if_neg o1, if_neg o2, if_neg o3, if_neg o4, if_neg (by omega)]
  have es' : stepP F' μ a i = (wrP μ i.d (cmpP j.o (rdP m j.x) (rdP m j.y) j.n), a + 1) := by
    unfold stepP
    rw [if_neg (by omega), if_neg (by omega), if_neg (by omega), if_neg (by omega), if_neg (by omega), vx, vy, eo, en]
  rw [es, es']
  have hdd : Rg 52 j.d ∧ Rg k i.d := by
    rcases hj.f.ops with o | o | o
    · exact ⟨(hj.f.ar o).1, (hi.f.ar (by rw [eo]; exact o)).1⟩
    · exact ⟨(hj.f.num o).1, (hi.f.num (by omega)).1⟩
    · have := hj.no
      omega
  obtain ⟨hd, hd'⟩ := hdd
  unfold Rg at hd hd'
  refine Or.inr ⟨?_, Or.inl ⟨?_, rfl, rfl⟩⟩
  · unfold wroteP
    rw [if_neg (by omega)]
    exact h.both (h.hol.wrote hd (by omega) _)
  · unfold endB
    simp [o1, o2, o3]
end Go.Proofs.YtccndnckceagfabGreatDoorR.Sp

namespace Go.Proofs.YtccndnckceagfabGreatDoorR.Sp

theorem walkP_end (C : List Ins) (F : Int → Int) (f : Nat) {m : PSt} (h : m.ended = true) (a : Int) : walkP C F f m a = m := by
  cases f with
  | zero => rfl
  | succ f => simp only [walkP]; rw [if_pos h]
theorem walkP_step (C : List Ins) (F : Int → Int) (f : Nat) {m : PSt} (h : m.ended = false) (a : Nat) (ha : a < C.length) : walkP C F (f + 1) m a = walkP C F f (stepP F m a C[a]).1 (stepP F m a C[a]).2 := by
  simp only [walkP]
  rw [if_neg (by rw [h]; decide), dif_pos ⟨by omega, by omega⟩]
  rfl
theorem walkP_more (C : List Ins) (F : Int → Int) : ∀ (t r : Nat) (m : PSt) (a : Int), (walkP C F t m a).ended = true → walkP C F (t + r) m a = walkP C F t m a
  | 0, r, m, a, h => by rw [walkP_end C F _ (show m.ended = true from h), walkP_end C F _ (show m.ended = true from h)]
  | t + 1, r, m, a, h => by
    rw [show t + 1 + r = (t + r) + 1 by omega]
    simp only [walkP] at h ⊢
    split
    · rfl
    · rename_i hne
      rw [if_neg hne] at h
      split
      · rename_i hb
        rw [dif_pos hb] at h
        exact walkP_more C F t r _ _ h
      · rfl
/-- blocks as they lie in a program -/
structure BlkOk (C : List Ins) (L : List (Nat × Nat)) : Prop where
  le : ∀ b (h : b < L.length), L[b].1 ≤ L[b].2
  lt : ∀ b (h : b < L.length), L[b].2 < C.length
  ends : ∀ b (h : b < L.length) (h2 : L[b].2 < C.length), endB C[L[b].2].o = true
  inner : ∀ b (h : b < L.length) i (h2 : i < C.length), L[b].1 ≤ i → i < L[b].2 → endB C[i].o = false
theorem strP_at (L : List (Nat × Nat)) (b : Nat) (h : b < L.length) : strP L (b : Int) = (L[b].1 : Int) := by
  unfold strP
  rw [if_pos ⟨by omega, by omega⟩, Int.toNat_natCast, List.getD_eq_getElem?_getD, List.getElem?_eq_getElem h]
  rfl

/-- what is asked of two programs, the pairs with which blocks are begun, and what a machine's steps may cost -/
structure Play (k : Int) (C : List Ins) (L : List (Nat × Nat)) (D : List Ins) (M : List (Nat × Nat)) (G : Nat → Option (Nat → Nat)) (J : Nat → Nat → Prop) (c e0 eR : Nat) : Prop where
  k10 : k ≤ 10
  len : L.length = M.length
  cb : BlkOk C L
  db : BlkOk D M
  src : ∀ j (h : j < C.length), InsS C[j]
  mac : ∀ j (h : j < D.length), InsM k D[j]
  tgt : ∀ j (h : j < C.length), (C[j].o = 106 ∨ C[j].o = 63 → 1 ≤ C[j].k ∧ C[j].k < L.length) ∧ (C[j].o = 63 → 1 ≤ C[j].m ∧ C[j].m < L.length)
  fam : ∀ b E, G b = some E → ∃ F, playB C L D M E b = some F ∧ ∀ (hb : b < L.length) (h2 : L[b].2 < C.length) (s : Nat), (((s : Int) = C[L[b].2].k) ∨ ((s : Int) = C[L[b].2].m)) → ∃ Es, G s = some Es ∧ ∀ v p, hasP Es v p = true → hasP F v p = true
  j0 : ∀ b (h : b < L.length) (h2 : b < M.length), J L[b].1 M[b].1
  j1 : ∀ q a (h : q < C.length), J q a → C[q].o = 61 → J (q + 1) a
  j2 : ∀ q a (h : a < D.length), J q a → isMv D[a].o = true → J q (a + 1)
  j3 : ∀ q a (h : q < C.length) (h2 : a < D.length), J q a → C[q].o ≠ 61 → isMv D[a].o = false → J (q + 1) (a + 1)
  cost : ∀ b q a (h : b < L.length) (h1 : b < M.length) (h2 : q < C.length) (h3 : a < D.length), L[b].1 ≤ q → M[b].1 ≤ a → a ≤ M[b].2 → J q a → C[q].o ≠ 61 → isMv D[a].o = false →
    a + 1 ≤ M[b].1 + (c * (q + 1 - L[b].1) + (if b = 0 then e0 else 0) + (if C[q].o = 114 then eR else 0))

theorem pass_run {k : Int} {C : List Ins} {L : List (Nat × Nat)} {D : List Ins} {M : List (Nat × Nat)} {G : Nat → Option (Nat → Nat)} {J : Nat → Nat → Prop} {c e0 eR : Nat} (P : Play k C L D M G J c e0 eR) (a : Nat) (μ : PSt) :
    ∀ (g : Nat) (E : Nat → Nat) (q : Nat) (n : Nat) (m : PSt), C.length ≤ g + q → J q a → RelP E m μ → (walkP C (strP L) n m q).ended = true →
      ∃ n1 m1, n + q = n1 + (passP C g E q).2 ∧ q ≤ (passP C g E q).2 ∧ walkP C (strP L) n m q = walkP C (strP L) n1 m1 (passP C g E q).2 ∧ RelP (passP C g E q).1 m1 μ ∧ J (passP C g E q).2 a ∧ n1 ≤ n ∧ ∀ (h : (passP C g E q).2 < C.length), C[(passP C g E q).2].o ≠ 61
  | 0, E, q, n, m, hg, hJ, hR, hE => ⟨n, m, rfl, Nat.le_refl _, rfl, hR, hJ, Nat.le_refl _, fun h => absurd (show q < C.length from h) (by omega)⟩
  | g + 1, E, q, n, m, hg, hJ, hR, hE => by
    by_cases hq : q < C.length
    · by_cases ho : C[q].o = 61
      · have e : passP C (g + 1) E q = passP C g (copyReg E C[q].d C[q].x) (q + 1) := by
          simp only [passP]; rw [dif_pos hq, if_pos ho]
        rw [e]
        obtain ⟨n', rfl⟩ : ∃ n', n = n' + 1 := by
          cases n with
          | zero => exact absurd (show m.ended = true from hE) (by rw [hR.en]; decide)
          | succ n => exact ⟨n, rfl⟩
        obtain ⟨r1, r2⟩ := pass_step (P.src q hq) ho hR (strP L) (q : Int)
        have ew : walkP C (strP L) (n' + 1) m q = walkP C (strP L) n' (stepP (strP L) m q C[q]).1 ((q + 1 : Nat) : Int) := by
          rw [walkP_step C _ _ hR.en q hq, r2]; rfl
        rw [ew] at hE ⊢
        obtain ⟨n1, m1, h1, h2, h3, h4, h5, h6, h7⟩ := pass_run P a μ g (copyReg E C[q].d C[q].x) (q + 1) n' _ (by omega) (P.j1 q a hq hJ ho) r1 hE
        exact ⟨n1, m1, by omega, by omega, h3, h4, h5, by omega, h7⟩
      · have e : passP C (g + 1) E q = (E, q) := by
          simp only [passP]; rw [dif_pos hq, if_neg ho]
        rw [e]
        exact ⟨n, m, rfl, Nat.le_refl _, rfl, hR, hJ, Nat.le_refl _, fun _ => ho⟩
    · have e : passP C (g + 1) E q = (E, q) := by
        simp only [passP]; rw [dif_neg hq]
      rw [e]
      exact ⟨n, m, rfl, Nat.le_refl _, rfl, hR, hJ, Nat.le_refl _, fun h => absurd h hq⟩

/-- from any place within a block -/
def SimAt (C : List Ins) (L : List (Nat × Nat)) (D : List Ins) (M : List (Nat × Nat)) (G : Nat → Option (Nat → Nat)) (J : Nat → Nat → Prop) (c e0 eR : Nat) (n f : Nat) : Prop :=
  ∀ (b : Nat) (hb : b < L.length) (hb' : b < M.length) (h2 : L[b].2 < C.length) (E E' : Nat → Nat) (q a : Nat) (m μ : PSt), playP C D M[b].2 f E q a = some (E', L[b].2 + 1) →
    (∀ s : Nat, (((s : Int) = C[L[b].2].k) ∨ ((s : Int) = C[L[b].2].m)) → ∃ Es, G s = some Es ∧ ∀ v p, hasP Es v p = true → hasP E' v p = true) →
    M[b].1 ≤ a → a ≤ M[b].2 → M[b].2 < f + a → L[b].1 ≤ q → q ≤ C.length → J q a → RelP E m μ → (walkP C (strP L) n m q).ended = true →
    ∃ t, t + a ≤ M[b].1 + (c * (n + q - L[b].1) + (if b = 0 then e0 else 0) + eR) ∧ Fin' (walkP C (strP L) n m q) (walkP D (strP M) t μ a)

theorem passP_le' {C : List Ins} : ∀ (f : Nat) (E : Nat → Nat) (q : Nat), q ≤ C.length → (passP C f E q).2 ≤ C.length
  | 0, _, _, h => h
  | f + 1, E, q, h => by
    simp only [passP]
    split
    · split
      · exact passP_le' f _ _ (by omega)
      · exact h
    · exact h
theorem mv_notEnd {o : Int} (h : isMv o = true) : endB o = false := by
  simp only [isMv, Bool.or_eq_true, beq_iff_eq] at h
  unfold endB
  simp only [Bool.or_eq_false_iff, beq_eq_false_iff_ne]
  omega

theorem sim_all {k : Int} {C : List Ins} {L : List (Nat × Nat)} {D : List Ins} {M : List (Nat × Nat)} {G : Nat → Option (Nat → Nat)} {J : Nat → Nat → Prop} {c e0 eR : Nat} (P : Play k C L D M G J c e0 eR) :
    ∀ (N n : Nat), n ≤ N → ∀ f, SimAt C L D M G J c e0 eR n f := by
  intro N
  induction N with
  | zero =>
    intro n hn f b hb hb' h2 E E' q a m μ hp hpost ha1 ha2 hf hq1 hq2 hJ hR hE
    obtain rfl : n = 0 := by omega
    exact absurd (show m.ended = true from hE) (by rw [hR.en]; decide)
  | succ N ihN =>
    intro n hn f
    induction f generalizing n with
    | zero =>
      intro b hb hb' h2 E E' q a m μ hp hpost ha1 ha2 hf
      omega
    | succ f ihf =>
      intro b hb hb' h2 E E' q a m μ hp hpost ha1 ha2 hf hq1 hq2 hJ hR hE
      have hlast := P.db.lt b hb'
      have haD : a < D.length := by omega
      obtain ⟨n1, m1, hn1, hqq, hw, hR1, hJ1, hle, hne⟩ := pass_run P a μ C.length E q n m (by omega) hJ hR hE
      have hqle := passP_le' C.length E q hq2
      rw [hw] at hE ⊢
      simp only [playP] at hp
      rw [dif_pos ⟨ha2, haD⟩] at hp
      generalize passP C C.length E q = r at *
      obtain ⟨E1, q1⟩ := r
      simp only at hp hn1 hqq hE hR1 hJ1 hqle hne ⊢
      have hlen : n + q - L[b].1 = n1 + q1 - L[b].1 := by omega
      rw [hlen]
      by_cases hmv : isMv D[a].o = true
      · rw [if_pos hmv] at hp
        obtain ⟨s1, s2⟩ := move_step P.k10 (P.mac a haD) hmv hR1 (strP M) (a : Int)
        have hane : a ≠ M[b].2 := by
          rintro rfl
          have := P.db.ends b hb' haD
          rw [mv_notEnd hmv] at this
          cases this
        obtain ⟨t, ht, hfin⟩ := ihf n1 (by omega) b hb hb' h2 (moveP E1 D[a]) E' q1 (a + 1) m1 (stepP (strP M) μ a D[a]).1 hp hpost (by omega) (by omega) (by omega) (by omega) hqle (P.j2 q1 a haD hJ1 hmv) s1 hE
        refine ⟨t + 1, by omega, ?_⟩
        rw [walkP_step D _ _ hR1.en' a haD, s2]
        exact hfin
      · rw [if_neg hmv] at hp
        rw [Bool.not_eq_true] at hmv
        by_cases hqC : q1 < C.length
        · rw [dif_pos hqC] at hp
          by_cases hfo : followP E1 C[q1] D[a] = true
          · rw [if_pos hfo] at hp
            obtain ⟨n2, rfl⟩ : ∃ n2, n1 = n2 + 1 := by
              cases n1 with
              | zero => exact absurd (show m1.ended = true from hE) (by rw [hR1.en]; decide)
              | succ n => exact ⟨n, rfl⟩
            have hcost := P.cost b q1 a hb hb' hqC haD (by omega) ha1 ha2 hJ1 (hne hqC) hmv
            have hmono : c * (q1 + 1 - L[b].1) ≤ c * (n2 + 1 + q1 - L[b].1) := Nat.mul_le_mul_left c (by omega)
            have hwS := walkP_step C (strP L) n2 hR1.en q1 hqC
            rw [hwS] at hE ⊢
            rcases follow_step P.k10 (P.src q1 hqC) (P.mac a haD) hmv hfo hR1 (strP L) (strP M) (q1 : Int) (a : Int) with hfin | ⟨hR2, hnx⟩
            · refine ⟨1, ?_, ?_⟩
              · have : (if C[q1].o = 114 then eR else 0) ≤ eR := by split <;> omega
                omega
              · rw [walkP_step D _ 0 hR1.en' a haD, walkP_end C _ _ hfin.en, walkP_end D _ _ hfin.en']
                exact hfin
            · rcases hnx with ⟨hend, e1, e2⟩ | ⟨hend, s, hs, e1, e2⟩
              · have hane : a ≠ M[b].2 := by
                  rintro rfl
                  have := P.db.ends b hb' haD
                  have hop : D[M[b].2].o = C[q1].o := by
                    unfold followP sameOp at hfo
                    simp only [Bool.and_eq_true, beq_iff_eq] at hfo
                    exact hfo.1.1.1.1.1.1
                  rw [hop, hend] at this
                  cases this
                rw [e1] at hE ⊢
                obtain ⟨t, ht, hfin⟩ := ihf n2 (by omega) b hb hb' h2 (wroteP E1 C[q1] D[a]) E' (q1 + 1) (a + 1) _ (stepP (strP M) μ a D[a]).1 hp hpost (by omega) (by omega) (by omega) (by omega) (by omega) (P.j3 q1 a hqC haD hJ1 (hne hqC) hmv) hR2 hE
                refine ⟨t + 1, ?_, ?_⟩
                · rw [show n2 + 1 + q1 - L[b].1 = n2 + (q1 + 1) - L[b].1 by omega]
                  omega
                · rw [walkP_step D _ _ hR1.en' a haD, e2]
                  exact hfin
              · have hop : D[a].o = C[q1].o := by
                  unfold followP sameOp at hfo
                  simp only [Bool.and_eq_true, beq_iff_eq] at hfo
                  exact hfo.1.1.1.1.1.1
                have haeq : a = M[b].2 := by
                  by_cases hlt : a < M[b].2
                  · have := P.db.inner b hb' a haD ha1 hlt
                    rw [hop, hend] at this
                    cases this
                  · omega
                have hpe : playP C D M[b].2 f (wroteP E1 C[q1] D[a]) (q1 + 1) (a + 1) = some (wroteP E1 C[q1] D[a], q1 + 1) := by
                  cases f with
                  | zero => rfl
                  | succ f => simp only [playP]; rw [dif_neg (by omega)]
                rw [hpe] at hp
                obtain ⟨hE', hq'⟩ := Prod.mk.inj (Option.some.inj hp)
                have hq2' : q1 = L[b].2 := by omega
                subst hq2'
                have hs1 : (s = C[L[b].2].k ∨ s = C[L[b].2].m) ∧ 1 ≤ s ∧ s < L.length := by
                  rcases hs with ⟨rfl, ho⟩ | ⟨rfl, ho⟩
                  · exact ⟨Or.inl rfl, (P.tgt _ hqC).1 ho⟩
                  · exact ⟨Or.inr rfl, (P.tgt _ hqC).2 ho⟩
                obtain ⟨hs2, hs3, hs4⟩ := hs1
                obtain ⟨s', rfl⟩ : ∃ s' : Nat, s = (s' : Int) := ⟨s.toNat, by omega⟩
                obtain ⟨Es, hG, hsub⟩ := hpost s' hs2
                rw [← hE'] at hsub
                obtain ⟨Fs, hplay, hnext⟩ := P.fam s' Es hG
                have hsL : s' < L.length := by omega
                have hsM : s' < M.length := by have := P.len; omega
                have h2s := P.cb.lt s' hsL
                unfold playB at hplay
                rw [dif_pos ⟨hsL, hsM⟩] at hplay
                have hpl : playP C D M[s'].2 D.length Es L[s'].1 M[s'].1 = some (Fs, L[s'].2 + 1) := by
                  cases hc : playP C D M[s'].2 D.length Es L[s'].1 M[s'].1 with
                  | none => rw [hc] at hplay; cases hplay
                  | some r =>
                    rw [hc] at hplay
                    simp only [plyEnd] at hplay
                    split at hplay
                    · rename_i hr2
                      rw [← Option.some.inj hplay, ← hr2]
                    · cases hplay
                rw [e1, strP_at L s' hsL] at hE ⊢
                have hMlt := P.db.lt s' hsM
                have hMle := P.db.le s' hsM
                have hLle := P.cb.le s' hsL
                obtain ⟨t, ht, hfin⟩ := ihN n2 (by omega) D.length s' hsL hsM h2s Es Fs L[s'].1 M[s'].1 _ (stepP (strP M) μ a D[a]).1 hpl (fun s hs => hnext hsL h2s s hs) (Nat.le_refl _) hMle (by omega) (Nat.le_refl _) (by omega) (P.j0 s' hsL hsM) (hR2.mono hsub) hE
                refine ⟨t + 1, ?_, ?_⟩
                · rw [if_neg (show ¬ s' = 0 by omega), show n2 + L[s'].1 - L[s'].1 = n2 by omega] at ht
                  have hno : ¬ C[L[b].2].o = 114 := by
                    rcases hs with ⟨_, ho⟩ | ⟨_, ho⟩ <;> omega
                  rw [if_neg hno] at hcost
                  have hdist : c * (n2 + 1 + L[b].2 - L[b].1) = c * n2 + c * (L[b].2 + 1 - L[b].1) := by
                    rw [← Nat.mul_add]
                    congr 1
                    have := P.cb.le b hb
                    omega
                  rw [hdist]
                  omega
                · rw [walkP_step D _ _ hR1.en' a haD, e2, strP_at M s' hsM]
                  exact hfin
          · rw [if_neg hfo] at hp
            cases hp
        · rw [dif_neg hqC] at hp
          cases hp
/-- a whole run -/
theorem sim_run {k : Int} {C : List Ins} {L : List (Nat × Nat)} {D : List Ins} {M : List (Nat × Nat)} {G : Nat → Option (Nat → Nat)} {J : Nat → Nat → Prop} {c e0 eR : Nat} (P : Play k C L D M G J c e0 eR) (h0 : 0 < L.length) (E : Nat → Nat) (hG : G 0 = some E) (hsub : ∀ v p, hasP E v p = true → hasP startE v p = true) (hL0 : ∀ h : 0 < L.length, L[0].1 = 0) (hM0 : ∀ h : 0 < M.length, M[0].1 = 0) (n : Nat) (m μ : PSt) (hR : RelP startE m μ) (hE : (walkP C (strP L) n m 0).ended = true) :
    ∃ t, t ≤ c * n + e0 + eR ∧ Fin' (walkP C (strP L) n m 0) (walkP D (strP M) t μ 0) := by
  have h0' : 0 < M.length := by have := P.len; omega
  obtain ⟨F, hplay, hnext⟩ := P.fam 0 E hG
  have h2 := P.cb.lt 0 h0
  unfold playB at hplay
  rw [dif_pos ⟨h0, h0'⟩] at hplay
  have hpl : playP C D M[0].2 D.length E L[0].1 M[0].1 = some (F, L[0].2 + 1) := by
    cases hc : playP C D M[0].2 D.length E L[0].1 M[0].1 with
    | none => rw [hc] at hplay; cases hplay
    | some r =>
      rw [hc] at hplay
      simp only [plyEnd] at hplay
      split at hplay
      · rename_i hr2
        rw [← Option.some.inj hplay, ← hr2]
      · cases hplay
  have hMlt := P.db.lt 0 h0'
  have hMle := P.db.le 0 h0'
  have hLle := P.cb.le 0 h0
  have l0 := hL0 h0
  have m0 := hM0 h0'
  obtain ⟨t, ht, hfin⟩ := sim_all P n n (Nat.le_refl _) D.length 0 h0 h0' h2 E F L[0].1 M[0].1 m μ hpl (fun s hs => hnext h0 h2 s hs) (Nat.le_refl _) hMle (by omega) (Nat.le_refl _) (by omega) (P.j0 0 h0 h0') (hR.mono hsub) (by rw [l0]; exact hE)
  rw [l0, m0] at hfin
  rw [l0, m0] at ht
  refine ⟨t, ?_, hfin⟩
  simpa using ht
end Go.Proofs.YtccndnckceagfabGreatDoorR.Sp

namespace Go.Proofs.YtccndnckceagfabGreatDoorR.Sp

def Agree (E F : Nat → Nat) : Prop := ∀ p, p < 62 → E p = F p
theorem Agree.has {E F : Nat → Nat} (h : Agree E F) (v p : Int) : hasP E v p = hasP F v p := by
  rw [Bool.eq_iff_iff, hasP_iff, hasP_iff]
  constructor
  · rintro ⟨hp, hv, hb⟩; exact ⟨hp, hv, by rw [← h _ (by omega)]; exact hb⟩
  · rintro ⟨hp, hv, hb⟩; exact ⟨hp, hv, by rw [h _ (by omega)]; exact hb⟩
def lastI (C : List Ins) (L : List (Nat × Nat)) (i : Nat) : Ins := C.getD (L.getD i (0, 0)).2 ⟨0, 0, 0, 0, 0, 0, 0⟩
/-- block s is known, with pairs of F alone -/
def Got (K : Nat → Ent) (F : Nat → Nat) (s : Int) : Prop := 0 ≤ s → s < 10 → (K s.toNat).r = true ∧ ∀ v p, hasP (K s.toNat).e v p = true → hasP F v p = true
/-- block i was played with its pairs, and handed on -/
def GoodK (C : List Ins) (L : List (Nat × Nat)) (D : List Ins) (M : List (Nat × Nat)) (K : Nat → Ent) (i : Nat) : Prop :=
  ∃ E F, Agree E (K i).e ∧ playB C L D M E i = some F ∧ Got K F (lastI C L i).k ∧ Got K F (lastI C L i).m
theorem eqP_agree {E F : Nat → Nat} (h : eqP E F = true) : Agree E F := fun p hp => by
  have := List.all_eq_true.1 h p (List.mem_range.mpr hp)
  simpa using this
/-- handing on: what was known of a block is known, of fewer pairs -/
theorem hand_keep (K : Nat → Ent) (b : Int) (F : Nat → Nat) (i : Nat) : ((K i).r = true → (handE K b F i).r = true ∧ ∀ v p, hasP (handE K b F i).e v p = true → hasP (K i).e v p = true) := by
  intro hr
  unfold handE
  split
  · split
    · unfold putE
      split
      · rename_i e
        subst e
        exact ⟨rfl, fun v p h => ((hasP_meet _ _ v p).1 h).1⟩
      · exact ⟨hr, fun v p h => h⟩
    · rename_i hn
      unfold putE
      split
      · rename_i e
        subst e
        exact absurd hr hn
      · exact ⟨hr, fun v p h => h⟩
  · exact ⟨hr, fun v p h => h⟩
theorem hand_got (K : Nat → Ent) (b : Int) (F : Nat → Nat) : Got (handE K b F) F b := by
  intro h1 h2
  unfold handE
  rw [if_pos ⟨h1, h2⟩]
  split
  · unfold putE
    rw [if_pos rfl]
    exact ⟨rfl, fun v p h => ((hasP_meet _ _ v p).1 h).2⟩
  · unfold putE
    rw [if_pos rfl]
    exact ⟨rfl, fun v p h => h⟩
theorem Got.hand {K : Nat → Ent} {F : Nat → Nat} {s : Int} (h : Got K F s) (b : Int) (F' : Nat → Nat) : Got (handE K b F') F s := by
  intro h1 h2
  obtain ⟨g1, g2⟩ := h h1 h2
  obtain ⟨k1, k2⟩ := hand_keep K b F' s.toNat g1
  exact ⟨k1, fun v p hv => g2 v p (k2 v p hv)⟩
/-- if a block does not wait behind it, its pairs are what they were -/
theorem hand_still (K : Nat → Ent) (b : Int) (F : Nat → Nat) (i : Nat) (hr : (handE K b F i).r = true) (hw : (handE K b F i).w = false) : (K i).r = true ∧ (K i).w = false ∧ Agree (K i).e (handE K b F i).e := by
  unfold handE at hr hw ⊢
  split at hr
  · rename_i hb
    rw [if_pos hb] at hw ⊢
    split at hr
    · rename_i hk
      rw [if_pos hk] at hw ⊢
      unfold putE at hr hw ⊢
      by_cases e : i = b.toNat
      · rw [if_pos e] at hw hr ⊢
        subst e
        simp only [Bool.or_eq_false_iff, Bool.not_eq_false'] at hw
        exact ⟨hk, hw.1, fun p hp => (eqP_agree hw.2 p hp).symm⟩
      · rw [if_neg e] at hw hr ⊢
        exact ⟨hr, hw, fun _ _ => rfl⟩
    · rename_i hk
      rw [if_neg hk] at hw ⊢
      unfold putE at hr hw ⊢
      by_cases e : i = b.toNat
      · rw [if_pos e] at hw
        cases hw
      · rw [if_neg e] at hw hr ⊢
        exact ⟨hr, hw, fun _ _ => rfl⟩
  · rename_i hb
    rw [if_neg hb] at hw ⊢
    exact ⟨hr, hw, fun _ _ => rfl⟩
def Inv (C : List Ins) (L : List (Nat × Nat)) (D : List Ins) (M : List (Nat × Nat)) (K : Nat → Ent) : Prop :=
  ∀ i, (K i).r = true → (K i).w = false → GoodK C L D M K i
theorem Inv.play {C : List Ins} {L : List (Nat × Nat)} {D : List Ins} {M : List (Nat × Nat)} {K K' : Nat → Ent} {i : Nat} (h : Inv C L D M K) (hp : playK C L D M K i = some K') : Inv C L D M K' := by
  unfold playK at hp
  rw [Option.map_eq_some_iff] at hp
  obtain ⟨F, hF, rfl⟩ := hp
  show Inv C L D M (handE (handE (putE K i ⟨(K i).r, false, (K i).e⟩) (lastI C L i).k F) (lastI C L i).m F)
  generalize hK0 : putE K i ⟨(K i).r, false, (K i).e⟩ = K0
  have a1 : ∀ s, (K0 s).r = (K s).r ∧ (K0 s).e = (K s).e := by
    intro s
    rw [← hK0]
    unfold putE
    split
    · rename_i e; subst e; exact ⟨rfl, rfl⟩
    · exact ⟨rfl, rfl⟩
  have a2 : ∀ {F' s}, Got K F' s → Got K0 F' s := by
    intro F' s hg h1 h2
    obtain ⟨g1, g2⟩ := hg h1 h2
    rw [(a1 _).1, (a1 _).2]
    exact ⟨g1, g2⟩
  intro j hr hw
  obtain ⟨r1, w1, g1⟩ := hand_still _ _ _ j hr hw
  obtain ⟨r2, w2, g2⟩ := hand_still _ _ _ j r1 w1
  have hag : Agree (K j).e (handE (handE K0 (lastI C L i).k F) (lastI C L i).m F j).e := by
    intro p hp
    rw [← (a1 j).2, g2 p hp, g1 p hp]
  by_cases e : j = i
  · subst e
    exact ⟨(K j).e, F, hag, hF, (hand_got K0 _ F).hand _ F, hand_got _ _ F⟩
  · have hw' : (K j).w = false := by
      rw [← hK0] at w2
      unfold putE at w2
      rw [if_neg e] at w2
      exact w2
    obtain ⟨E, F', b1, b2, b3, b4⟩ := h j (by rw [← (a1 j).1]; exact r2) hw'
    exact ⟨E, F', fun p hp => by rw [b1 p hp, hag p hp], b2, ((a2 b3).hand _ F).hand _ F, ((a2 b4).hand _ F).hand _ F⟩
theorem nextB_no {K : Nat → Ent} (h : nextB K = none) (i : Nat) (hi : i < 10) : (K i).w = false := by
  unfold nextB at h
  rw [List.find?_eq_none] at h
  have := h i (List.mem_range.mpr hi)
  simpa using this
def Zero (K : Nat → Ent) : Prop := (K 0).r = true ∧ ∀ v p, hasP (K 0).e v p = true → hasP startE v p = true
theorem Zero.hand {K : Nat → Ent} (h : Zero K) (b : Int) (F : Nat → Nat) : Zero (handE K b F) := by
  obtain ⟨k1, k2⟩ := hand_keep K b F 0 h.1
  exact ⟨k1, fun v p hv => h.2 v p (k2 v p hv)⟩
theorem Zero.play {C : List Ins} {L : List (Nat × Nat)} {D : List Ins} {M : List (Nat × Nat)} {K K' : Nat → Ent} {i : Nat} (h : Zero K) (hp : playK C L D M K i = some K') : Zero K' := by
  unfold playK at hp
  rw [Option.map_eq_some_iff] at hp
  obtain ⟨F, hF, rfl⟩ := hp
  refine Zero.hand (Zero.hand ?_ _ _) _ _
  unfold Zero putE
  split
  · rename_i e; subst e; exact h
  · exact h
theorem accR_fam {C : List Ins} {L : List (Nat × Nat)} {D : List Ins} {M : List (Nat × Nat)} : ∀ (f : Nat) (K : Nat → Ent), accR C L D M f K = true → Inv C L D M K → Zero K → ∃ K', Inv C L D M K' ∧ Zero K' ∧ ∀ i, i < 10 → (K' i).w = false
  | 0, K, h, _, _ => by cases h
  | f + 1, K, h, hI, hZ => by
    simp only [accR] at h
    split at h
    · rename_i hn
      exact ⟨K, hI, hZ, fun i hi => nextB_no hn i hi⟩
    · rename_i i hn
      split at h
      · cases h
      · rename_i K' hp
        exact accR_fam f K' h (hI.play hp) (hZ.play hp)
theorem begT_zero : Zero begT := by
  have h := hand_got (fun _ => noEnt) 0 startE (by decide) (by decide)
  exact h
theorem begT_inv (C : List Ins) (L : List (Nat × Nat)) (D : List Ins) (M : List (Nat × Nat)) : Inv C L D M begT := by
  intro i hr hw
  obtain ⟨r1, _, _⟩ := hand_still (fun _ => noEnt) 0 startE i hr hw
  cases r1
/-- what is accepted has a family of pairs -/
theorem acc_fam {C : List Ins} {L : List (Nat × Nat)} {D : List Ins} {M : List (Nat × Nat)} (h : accB C L D M = true) (hL : L.length ≤ 10) (hk : ∀ j (hj : j < C.length), C[j].k < L.length ∧ C[j].m < L.length) :
    L.length = M.length ∧ ∃ G : Nat → Option (Nat → Nat), (∃ E, G 0 = some E ∧ ∀ v p, hasP E v p = true → hasP startE v p = true) ∧
      ∀ b E, G b = some E → ∃ F, playB C L D M E b = some F ∧ ∀ (hb : b < L.length) (h2 : L[b].2 < C.length) (s : Nat), (((s : Int) = C[L[b].2].k) ∨ ((s : Int) = C[L[b].2].m)) → ∃ Es, G s = some Es ∧ ∀ v p, hasP Es v p = true → hasP F v p = true := by
  unfold accB at h
  simp only [Bool.and_eq_true, beq_iff_eq] at h
  obtain ⟨hlen, hacc⟩ := h
  obtain ⟨K, hI, hZ, hw⟩ := accR_fam _ _ hacc (begT_inv C L D M) begT_zero
  have hex : ∀ i, i < 10 ∧ (K i).r = true → ∃ E, Agree E (K i).e ∧ ∃ F, playB C L D M E i = some F ∧ Got K F (lastI C L i).k ∧ Got K F (lastI C L i).m := by
    intro i hi
    obtain ⟨E, F, h1, h2, h3, h4⟩ := hI i hi.2 (hw i hi.1)
    exact ⟨E, h1, F, h2, h3, h4⟩
  refine ⟨hlen, fun i => if hi : i < 10 ∧ (K i).r = true then some (hex i hi).choose else none, ?_, ?_⟩
  · have h0 : 0 < 10 ∧ (K 0).r = true := ⟨by decide, hZ.1⟩
    refine ⟨(hex 0 h0).choose, dif_pos h0, fun v p hv => hZ.2 v p ?_⟩
    rw [← (hex 0 h0).choose_spec.1.has v p]
    exact hv
  · intro b E hE
    by_cases hi : b < 10 ∧ (K b).r = true
    · have hE : some (hex b hi).choose = some E := (dif_pos hi).symm.trans hE
      obtain ⟨hag, F, hF, g1, g2⟩ := (hex b hi).choose_spec
      rw [Option.some.inj hE] at hF
      refine ⟨F, hF, fun hb h2 s hs => ?_⟩
      have hl : lastI C L b = C[L[b].2] := by
        unfold lastI
        rw [show L.getD b (0, 0) = L[b] by rw [List.getD_eq_getElem?_getD, List.getElem?_eq_getElem hb]; rfl, List.getD_eq_getElem?_getD, List.getElem?_eq_getElem h2]
        rfl
      rw [hl] at g1 g2
      have hkk := hk L[b].2 h2
      have hg : (K s).r = true ∧ ∀ v p, hasP (K s).e v p = true → hasP F v p = true := by
        rcases hs with hs | hs
        · rw [← hs] at g1; exact g1 (by omega) (by omega)
        · rw [← hs] at g2; exact g2 (by omega) (by omega)
      have hsi : s < 10 ∧ (K s).r = true := ⟨by omega, hg.1⟩
      refine ⟨(hex s hsi).choose, dif_pos hsi, fun v p hv => hg.2 v p ?_⟩
      rw [← (hex s hsi).choose_spec.1.has v p]
      exact hv
    · have hE : none = some E := (dif_neg hi).symm.trans hE
      cases hE
end Go.Proofs.YtccndnckceagfabGreatDoorR.Sp

namespace Go.Proofs.YtccndnckceagfabGreatDoorR.Sp

/-! ### What the compiler lays -/
def mvL (to frm : Int) : List Ins := if to = frm then [] else [⟨if 10 ≤ to then 62 else if 10 ≤ frm then 60 else 61, to, frm, -1, 0, -1, -1⟩]
def ftP (H : Int → Int) (r other : Int) : Int := if 10 ≤ H r then other else H r
def ftL (H : Int → Int) (r other : Int) : List Ins := if 10 ≤ H r then mvL other (H r) else []
def rch (k p : Int) : Int := if 10 ≤ p then k - 1 else p
def wrkI (H : Int → Int) (k : Int) (i : Ins) : Ins := { i with d := rch k (H i.d), x := ftP H i.x (k - 2), y := ftP H i.y (k - 1) }
def wrkL (H : Int → Int) (k : Int) (i : Ins) : List Ins := ftL H i.x (k - 2) ++ ftL H i.y (k - 1) ++ wrkI H k i :: mvL (H i.d) (rch k (H i.d))
def brgL (H : Int → Int) (k p r : Int) : List Ins := if H r = p then [] else ftL H r (rch k p) ++ mvL p (ftP H r (rch k p))
def clrI (p : Int) : Ins := ⟨126, p, -1, -1, 0, -1, -1⟩
def clrR (k : Int) : List Ins := (List.range (k.toNat - 1)).map fun (p : Nat) => clrI ((p : Int) + 1)
def clrS (H : Int → Int) : List Ins := ((List.range 52).filter fun (r : Nat) => decide (10 ≤ H (r : Int))).map fun (r : Nat) => clrI (H (r : Int))
def retI : Ins := ⟨114, -1, 0, -1, 0, -1, -1⟩
def endM (H : Int → Int) (k r : Int) : List Ins := brgL H k 0 r ++ (clrR k ++ clrS H)
def fol (H : Int → Int) (k : Int) (i : Ins) : List Ins :=
  if i.o = 61 then brgL H k (H i.d) i.x else if i.o = 114 then endM H k i.x ++ [retI] else wrkL H k i
def argS (n : Nat) : Int := if n = 0 then 0 else if n = 1 then 1 else if n = 2 then 26 else 27
def begA (H : Int → Int) (lv : Int → Bool) (n : Nat) : List Ins := if lv (argS n) = true then mvL (H (argS n)) n else []
def begL (H : Int → Int) (lv : Int → Bool) : List Ins := begA H lv 0 ++ (begA H lv 1 ++ (begA H lv 2 ++ begA H lv 3))
def cmpL (H : Int → Int) (k : Int) (lv : Int → Bool) (C : List Ins) : List Ins := begL H lv ++ C.flatMap (fol H k)

/-! ### Registers' side and places' side -/
theorem and_bit52 (d : Int) (hd : 0 ≤ d ∧ d < 52) : bitN 52 &&& (18446744073709551615 - bitN d) = bitN 52 := by
  obtain ⟨n, rfl⟩ : ∃ n : Nat, d = n := ⟨d.toNat, by omega⟩
  have key : ∀ i : _root_.Fin 52, bitN 52 &&& (18446744073709551615 - bitN (i.val : Int)) = bitN 52 := by decide
  exact key ⟨n, by omega⟩
theorem has52 (E : Nat → Nat) (x p : Int) (hx : 0 ≤ x ∧ x < 52) (h : E p.toNat = bitN 52) : hasP E x p = false := by
  cases hh : hasP E x p
  · rfl
  · rw [hasP_iff, h, bitN_test] at hh
    have := hh.2.2
    simp only [decide_eq_true_eq] at this
    omega
/-- a copy within the source beside a move of the machine: in either order -/
theorem copyPl_copyReg (E : Nat → Nat) (t f d x : Int) (ht : 0 ≤ t ∧ t < 62) (hf : 0 ≤ f ∧ f < 62) : copyPl (copyReg E d x) t f = copyReg (copyPl E t f) d x := by
  have c1 : isPl t = true ∧ isPl f = true := by simp [isPl, ht, hf]
  unfold copyReg
  by_cases e : d = x
  · rw [if_pos e, if_pos e]
  rw [if_neg e, if_neg e]
  funext p
  unfold copyPl
  rw [if_pos c1, if_pos c1]
  show (if p = t.toNat then gainP (loseP E d) d x f.toNat else gainP (loseP E d) d x p) = _
  unfold gainP
  by_cases hp : p = t.toNat
  · rw [if_pos hp]
    have e1 : loseP (fun y => if y = t.toNat then E f.toNat else E y) d p = loseP E d f.toNat := by
      unfold loseP
      simp only [if_pos hp]
    rw [e1]
    have e2 : hasP (loseP (fun y => if y = t.toNat then E f.toNat else E y) d) x (p : Int) = hasP (loseP E d) x ((f.toNat : Nat) : Int) := by
      unfold hasP
      rw [show isPl (p : Int) = true by simp [isPl]; omega, show isPl ((f.toNat : Nat) : Int) = true by simp [isPl]; omega, Int.toNat_natCast, Int.toNat_natCast, e1]
    rw [e2]
  · rw [if_neg hp]
    have e1 : loseP (fun y => if y = t.toNat then E f.toNat else E y) d p = loseP E d p := by
      unfold loseP
      simp only [if_neg hp]
    rw [e1]
    have e2 : hasP (loseP (fun y => if y = t.toNat then E f.toNat else E y) d) x (p : Int) = hasP (loseP E d) x (p : Int) := by
      unfold hasP
      rw [Int.toNat_natCast, e1]
    rw [e2]
theorem set52_copyReg (E : Nat → Nat) (t d x : Int) (ht : 0 ≤ t ∧ t < 62) (hd : 0 ≤ d ∧ d < 52) (hx : 0 ≤ x ∧ x < 52) : setP (copyReg E d x) 52 t = copyReg (setP E 52 t) d x := by
  have c1 : isPl t = true := by simp [isPl, ht]
  unfold copyReg
  by_cases e : d = x
  · rw [if_pos e, if_pos e]
  rw [if_neg e, if_neg e]
  funext p
  unfold setP
  rw [if_pos c1, if_pos c1]
  show (if p = t.toNat then bitN 52 else gainP (loseP E d) d x p) = _
  unfold gainP
  by_cases hp : p = t.toNat
  · rw [if_pos hp]
    have e1 : loseP (fun y => if y = t.toNat then bitN 52 else E y) d p = bitN 52 := by
      unfold loseP
      simp only [if_pos hp]
      exact and_bit52 d hd
    rw [has52 _ x _ hx (by rw [Int.toNat_natCast]; exact e1), e1]
    rfl
  · rw [if_neg hp]
    have e1 : loseP (fun y => if y = t.toNat then bitN 52 else E y) d p = loseP E d p := by
      unfold loseP
      simp only [if_neg hp]
    rw [e1]
    have e2 : hasP (loseP (fun y => if y = t.toNat then bitN 52 else E y) d) x (p : Int) = hasP (loseP E d) x (p : Int) := by
      unfold hasP
      rw [Int.toNat_natCast, e1]
    rw [e2]
/-- a move whose places are there -/
structure MvOk (i : Ins) : Prop where
  mv : isMv i.o = true
  d : 0 ≤ i.d ∧ i.d < 62
  x : i.o = 126 ∨ (0 ≤ i.x ∧ i.x < 62)
theorem moveP_copyReg (E : Nat → Nat) (i : Ins) (hi : MvOk i) (d x : Int) (hd : 0 ≤ d ∧ d < 52) (hx : 0 ≤ x ∧ x < 52) : moveP (copyReg E d x) i = copyReg (moveP E i) d x := by
  unfold moveP
  split
  · exact set52_copyReg E _ d x hi.d hd hx
  · rename_i h
    rcases hi.x with h' | h'
    · exact absurd h' h
    · exact copyPl_copyReg E _ _ d x hi.d h'
theorem passP_move {C : List Ins} (hC : ∀ j (h : j < C.length), InsS C[j]) (i : Ins) (hi : MvOk i) : ∀ (g : Nat) (E : Nat → Nat) (q : Nat), passP C g (moveP E i) q = (moveP (passP C g E q).1 i, (passP C g E q).2)
  | 0, E, q => rfl
  | g + 1, E, q => by
    simp only [passP]
    split
    · rename_i hq
      split
      · rename_i ho
        obtain ⟨hd, hx, _⟩ := (hC q hq).f.two (Or.inl ho)
        rw [← moveP_copyReg E i hi _ _ hd hx]
        exact passP_move hC i hi g _ _
      · rfl
    · rfl
theorem passP_fuel {C : List Ins} : ∀ (g g' : Nat) (E : Nat → Nat) (q : Nat), C.length ≤ g + q → C.length ≤ g' + q → passP C g E q = passP C g' E q
  | 0, 0, _, _, _, _ => rfl
  | 0, g' + 1, E, q, h, _ => by simp only [passP]; rw [dif_neg (by omega)]
  | g + 1, 0, E, q, _, h => by simp only [passP]; rw [dif_neg (by omega)]
  | g + 1, g' + 1, E, q, h, h' => by
    simp only [passP]
    split
    · split
      · exact passP_fuel g g' _ _ (by omega) (by omega)
      · rfl
    · rfl
theorem passP_stop {C : List Ins} : ∀ (g : Nat) (E : Nat → Nat) (q : Nat), C.length ≤ g + q → ∀ h : (passP C g E q).2 < C.length, C[(passP C g E q).2].o ≠ 61
  | 0, E, q, hg, h => by exact absurd (show q < C.length from h) (by omega)
  | g + 1, E, q, hg, h => by
    by_cases hq : q < C.length
    · by_cases ho : C[q].o = 61
      · have e : passP C (g + 1) E q = passP C g (copyReg E C[q].d C[q].x) (q + 1) := by
          simp only [passP]; rw [dif_pos hq, if_pos ho]
        have h' := passP_stop (C := C) g (copyReg E C[q].d C[q].x) (q + 1) (by omega)
        rw [← e] at h'
        exact h' h
      · have e : passP C (g + 1) E q = (E, q) := by
          simp only [passP]; rw [dif_pos hq, if_neg ho]
        simp only [e]
        exact ho
    · have e : passP C (g + 1) E q = (E, q) := by
        simp only [passP]; rw [dif_neg hq]
      rw [e] at h
      exact absurd h hq
theorem passP_at {C : List Ins} (g : Nat) (E : Nat → Nat) (q : Nat) (h : ∀ h : q < C.length, C[q].o ≠ 61) : passP C g E q = (E, q) := by
  cases g with
  | zero => rfl
  | succ g =>
    simp only [passP]
    split
    · rename_i hq
      rw [if_neg (h hq)]
    · rfl
/-- what is played hangs on what stands behind the copies -/
theorem playP_pass (C D : List Ins) (last f : Nat) (E F : Nat → Nat) (q r a : Nat) (ha : a ≤ last) (hD : a < D.length) (h : passP C C.length E q = passP C C.length F r) : playP C D last (f + 1) E q a = playP C D last (f + 1) F r a := by
  have c : a ≤ last ∧ a < D.length := ⟨ha, hD⟩
  simp only [playP, dif_pos c, h]
theorem play_copy (C D : List Ins) (last f : Nat) (E : Nat → Nat) (q a : Nat) (ha : a ≤ last) (hD : a < D.length) (hq : q < C.length) (ho : C[q].o = 61) : playP C D last (f + 1) E q a = playP C D last (f + 1) (copyReg E C[q].d C[q].x) (q + 1) a := by
  refine playP_pass C D last f E _ q (q + 1) a ha hD ?_
  rw [passP_fuel C.length (C.length + 1) E q (by omega) (by omega), passP_fuel C.length C.length (copyReg E C[q].d C[q].x) (q + 1) (by omega) (by omega)]
  show (if h : q < C.length then if C[q].o = 61 then passP C C.length (copyReg E C[q].d C[q].x) (q + 1) else (E, q) else (E, q)) = _
  rw [dif_pos hq, if_pos ho]
theorem play_move {C : List Ins} (hC : ∀ j (h : j < C.length), InsS C[j]) (D : List Ins) (last f : Nat) (E : Nat → Nat) (q a : Nat) (ha : a < last) (hD : last < D.length) (hi : MvOk (D[a]'(by omega))) : playP C D last (f + 2) E q a = playP C D last (f + 1) (moveP E (D[a]'(by omega))) q (a + 1) := by
  have e : playP C D last (f + 2) E q a = playP C D last (f + 1) (moveP (passP C C.length E q).1 (D[a]'(by omega))) (passP C C.length E q).2 (a + 1) := by
    show (if h : a ≤ last ∧ a < D.length then _ else _) = _
    rw [dif_pos ⟨by omega, by omega⟩, if_pos hi.mv]
  rw [e]
  refine playP_pass C D last f _ _ _ _ (a + 1) (by omega) (by omega) ?_
  rw [passP_move hC _ hi, passP_move hC _ hi]
  have hs := passP_stop (C := C) C.length E q (by omega)
  rw [passP_at C.length (passP C C.length E q).1 (passP C C.length E q).2 hs]
theorem play_follow (C D : List Ins) (last f : Nat) (E : Nat → Nat) (q a : Nat) (ha : a ≤ last) (hD : a < D.length) (hq : q < C.length) (ho : C[q].o ≠ 61) (hm : isMv D[a].o = false) (hf : followP E C[q] D[a] = true) : playP C D last (f + 1) E q a = playP C D last f (wroteP E C[q] D[a]) (q + 1) (a + 1) := by
  simp only [playP]
  rw [dif_pos ⟨ha, hD⟩, if_neg (by rw [hm]; decide)]
  simp only [passP_at C.length E q (fun _ => ho)]
  rw [dif_pos hq, if_pos hf]
theorem play_end (C D : List Ins) (last f : Nat) (E : Nat → Nat) (q a : Nat) (ha : last < a) : playP C D last f E q a = some (E, q) := by
  cases f with
  | zero => rfl
  | succ f => simp only [playP]; rw [dif_neg (by omega)]
/-- a row of instructions lies at a place -/
def LieAt (D : List Ins) (a : Nat) (s : List Ins) : Prop := ∀ i, i < s.length → D[a + i]? = s[i]?
theorem LieAt.left {D : List Ins} {a : Nat} {s t : List Ins} (h : LieAt D a (s ++ t)) : LieAt D a s := fun i hi => by
  rw [h i (by rw [List.length_append]; omega), List.getElem?_append_left hi]
theorem LieAt.right {D : List Ins} {a : Nat} {s t : List Ins} (h : LieAt D a (s ++ t)) : LieAt D (a + s.length) t := fun i hi => by
  have := h (s.length + i) (by rw [List.length_append]; omega)
  rw [List.getElem?_append_right (by omega), Nat.add_sub_cancel_left] at this
  rw [Nat.add_assoc]
  exact this
theorem LieAt.head {D : List Ins} {a : Nat} {i : Ins} {s : List Ins} (h : LieAt D a (i :: s)) : ∃ hD : a < D.length, D[a] = i := by
  have := h 0 (by simp)
  rw [Nat.add_zero] at this
  obtain ⟨h1, h2⟩ := List.getElem?_eq_some_iff.1 (this.trans rfl)
  exact ⟨h1, h2⟩
theorem LieAt.tail {D : List Ins} {a : Nat} {i : Ins} {s : List Ins} (h : LieAt D a (i :: s)) : LieAt D (a + 1) s := LieAt.right (s := [i]) h
theorem play_moves {C : List Ins} (hC : ∀ j (h : j < C.length), InsS C[j]) (D : List Ins) (last : Nat) (hD : last < D.length) : ∀ (s : List Ins) (f : Nat) (E : Nat → Nat) (q a : Nat), LieAt D a s → (∀ i ∈ s, MvOk i) → a + s.length ≤ last → playP C D last (f + s.length + 1) E q a = playP C D last (f + 1) (s.foldl moveP E) q (a + s.length)
  | [], f, E, q, a, _, _, _ => rfl
  | i :: s, f, E, q, a, hL, hm, hl => by
    obtain ⟨h1, h2⟩ := hL.head
    rw [List.length_cons] at hl
    have hi : MvOk D[a] := by rw [h2]; exact hm i (by simp)
    rw [List.length_cons, show f + (s.length + 1) + 1 = (f + s.length) + 2 by omega, play_move hC D last (f + s.length) E q a (by omega) hD hi, h2, play_moves hC D last hD s f (moveP E i) q (a + 1) hL.tail (fun j hj => hm j (by simp [hj])) (by omega)]
    rw [List.foldl_cons, show a + 1 + s.length = a + (s.length + 1) by omega]
end Go.Proofs.YtccndnckceagfabGreatDoorR.Sp

namespace Go.Proofs.YtccndnckceagfabGreatDoorR.Sp

/-- homes, and which registers are live ahead of each instruction -/
structure Homes (k : Int) (C : List Ins) (L : List (Nat × Nat)) (H : Int → Int) (lv : Nat → Int → Bool) : Prop where
  k6 : 6 ≤ k ∧ k ≤ 10
  none : H (-1) = -1
  home : ∀ r, 0 ≤ r → r < 52 → H r = -1 ∨ (0 ≤ H r ∧ H r < k - 2) ∨ H r = 10 + r
  std : ∀ j (h : j < C.length), (0 ≤ C[j].d → H C[j].d ≠ -1) ∧ (0 ≤ C[j].x → H C[j].x ≠ -1) ∧ (0 ≤ C[j].y → H C[j].y ≠ -1)
  lvr : ∀ q r, lv q r = true → 0 ≤ r ∧ r < 52 ∧ H r ≠ -1
  rd : ∀ q (h : q < C.length) r, 0 ≤ r → (C[q].x = r ∨ C[q].y = r) → lv q r = true
  thru : ∀ q (h : q < C.length) r, endB C[q].o = false → r ≠ C[q].d → lv (q + 1) r = true → lv q r = true
  jump : ∀ b (h : b < L.length) (h2 : L[b].2 < C.length) (s : Nat) (hs : s < L.length), ((s : Int) = C[L[b].2].k ∨ (s : Int) = C[L[b].2].m) → ∀ r, lv L[s].1 r = true → lv L[b].2 r = true
  dif : ∀ q (h : q < C.length) r, endB C[q].o = false → 0 ≤ C[q].d → r ≠ C[q].d → lv (q + 1) r = true → H r ≠ H C[q].d
  start : ∀ r, lv 0 r = true → ∃ n, n < 4 ∧ r = argS n
  seat : ∀ n, n < 4 → lv 0 (argS n) = true → H (argS n) < 10 → H (argS n) = n
/-- a place that nobody has -/
def UnU (k : Int) (H : Int → Int) (p : Int) : Prop := (k ≤ p ∧ p < 10) ∨ (10 ≤ p ∧ p < 62 ∧ H (p - 10) ≠ p)
def Bas (k : Int) (H : Int → Int) (lq : Int → Bool) (E : Nat → Nat) : Prop := (∀ r, lq r = true → hasP E r (H r) = true) ∧ ∀ p, UnU k H p → hasP E 52 p = true

theorem mvL_ok (to frm : Int) (ht : 0 ≤ to ∧ to < 62) (hf : 0 ≤ frm ∧ frm < 62) : ∀ i ∈ mvL to frm, MvOk i := by
  intro i hi
  unfold mvL at hi
  split at hi
  · cases hi
  · rw [List.mem_singleton] at hi
    subst hi
    refine ⟨?_, ht, Or.inr hf⟩
    show isMv (if 10 ≤ to then 62 else if 10 ≤ frm then 60 else 61) = true
    split
    · rfl
    · split <;> rfl
theorem has_mvL (E : Nat → Nat) (to frm : Int) (ht : 0 ≤ to ∧ to < 62) (hf : 0 ≤ frm ∧ frm < 62) (v p : Int) : hasP ((mvL to frm).foldl moveP E) v p = true ↔ (p = to ∧ hasP E v frm = true) ∨ (p ≠ to ∧ hasP E v p = true) := by
  unfold mvL
  by_cases e : to = frm
  · rw [if_pos e]
    subst e
    show hasP E v p = true ↔ _
    constructor
    · intro h
      by_cases hp : p = to
      · exact Or.inl ⟨hp, hp ▸ h⟩
      · exact Or.inr ⟨hp, h⟩
    · rintro (⟨rfl, h⟩ | ⟨_, h⟩) <;> exact h
  · rw [if_neg e]
    show hasP (moveP E _) v p = true ↔ _
    have : moveP E ⟨if 10 ≤ to then 62 else if 10 ≤ frm then 60 else 61, to, frm, -1, 0, -1, -1⟩ = copyPl E to frm := by
      unfold moveP
      rw [if_neg]
      show ¬ (if 10 ≤ to then (62 : Int) else if 10 ≤ frm then 60 else 61) = 126
      split
      · decide
      · split <;> decide
    rw [this]
    exact hasP_copyPl E to frm v p ht hf
theorem play_movesI {C : List Ins} (hC : ∀ j (h : j < C.length), InsS C[j]) (D : List Ins) (last : Nat) (hD : last < D.length) (s : List Ins) (f : Nat) (E : Nat → Nat) (q a : Nat) (hL : LieAt D a s) (hm : ∀ i ∈ s, MvOk i) (hl : a + s.length ≤ last) (hf : last < f + a) : playP C D last f E q a = playP C D last (f - s.length) (s.foldl moveP E) q (a + s.length) := by
  obtain ⟨g, rfl⟩ : ∃ g, f = g + s.length + 1 := ⟨f - s.length - 1, by omega⟩
  rw [play_moves hC D last hD s g E q a hL hm hl]
  congr 1
  omega

section
variable {k : Int} {C : List Ins} {L : List (Nat × Nat)} {H : Int → Int} {lv : Nat → Int → Bool}

theorem Homes.pl (h : Homes k C L H lv) {r : Int} (h0 : 0 ≤ r) (h1 : r < 52) (h2 : H r ≠ -1) : (0 ≤ H r ∧ H r < 62) ∧ H r ≠ k - 2 ∧ H r ≠ k - 1 ∧ ¬ (k ≤ H r ∧ H r < 10) := by
  have := h.k6
  rcases h.home r h0 h1 with e | e | e
  · exact absurd e h2
  · omega
  · omega
theorem Homes.unu (h : Homes k C L H lv) {p : Int} (hp : UnU k H p) : (0 ≤ p ∧ p < 62) ∧ p ≠ k - 2 ∧ p ≠ k - 1 ∧ ∀ r, 0 ≤ r → r < 52 → H r ≠ p := by
  have := h.k6
  rcases hp with hp | ⟨h1, h2, h3⟩
  · refine ⟨by omega, by omega, by omega, fun r h0 h1 e => ?_⟩
    rcases h.home r h0 h1 with e' | e' | e' <;> omega
  · refine ⟨by omega, by omega, by omega, fun r h0 h4 e => ?_⟩
    rcases h.home r h0 h4 with e' | e' | e'
    · omega
    · omega
    · have : p - 10 = r := by omega
      rw [this] at h3
      exact h3 e
/-- a fetch into a spare register -/
theorem ftL_ok (h : Homes k C L H lv) {r o : Int} (ho : o = k - 2 ∨ o = k - 1 ∨ o = 0) (hr : r = -1 ∨ (0 ≤ r ∧ r < 52 ∧ H r ≠ -1)) : ∀ i ∈ ftL H r o, MvOk i := by
  have := h.k6
  unfold ftL
  split
  · rename_i hs
    rcases hr with rfl | ⟨h0, h1, h2⟩
    · rw [h.none] at hs; omega
    · exact mvL_ok _ _ (by omega) (h.pl h0 h1 h2).1
  · intro i hi; cases hi
theorem has_ftL (h : Homes k C L H lv) (E : Nat → Nat) {r o : Int} (ho : o = k - 2 ∨ o = k - 1 ∨ o = 0) (hr : r = -1 ∨ (0 ≤ r ∧ r < 52 ∧ H r ≠ -1)) :
    (∀ v p, p ≠ o → (hasP ((ftL H r o).foldl moveP E) v p = true ↔ hasP E v p = true)) ∧ (hasP E r (H r) = true → hasP ((ftL H r o).foldl moveP E) r (ftP H r o) = true) ∧ (H r < 10 → (ftL H r o).foldl moveP E = E) := by
  have := h.k6
  unfold ftL ftP
  by_cases hs : 10 ≤ H r
  · rw [if_pos hs, if_pos hs]
    rcases hr with rfl | ⟨h0, h1, h2⟩
    · rw [h.none] at hs; omega
    · have hp := (h.pl h0 h1 h2).1
      have key := has_mvL E o (H r) (by omega) hp
      refine ⟨fun v p hne => ?_, fun he => ?_, fun hlt => by omega⟩
      · rw [key]
        constructor
        · rintro (⟨e, _⟩ | ⟨_, e⟩)
          · exact absurd e hne
          · exact e
        · exact fun e => Or.inr ⟨hne, e⟩
      · rw [key]
        exact Or.inl ⟨rfl, he⟩
  · rw [if_neg hs, if_neg hs]
    exact ⟨fun _ _ _ => Iff.rfl, fun he => he, fun _ => rfl⟩
theorem Bas.keep {lq lq' : Int → Bool} {E E' : Nat → Nat} (hb : Bas k H lq E) (hlv : ∀ r, lq' r = true → lq r = true) (h1 : ∀ r, lq' r = true → hasP E r (H r) = true → hasP E' r (H r) = true) (h2 : ∀ p, UnU k H p → hasP E 52 p = true → hasP E' 52 p = true) : Bas k H lq' E' :=
  ⟨fun r hr => h1 r hr (hb.1 r (hlv r hr)), fun p hp => h2 p hp (hb.2 p hp)⟩

/-- registers of an instruction of the source -/
theorem Homes.regs (h : Homes k C L H lv) (hC : ∀ j (h : j < C.length), InsS C[j]) (q : Nat) (hq : q < C.length) : (C[q].d = -1 ∨ (0 ≤ C[q].d ∧ C[q].d < 52 ∧ H C[q].d ≠ -1)) ∧ (C[q].x = -1 ∨ (0 ≤ C[q].x ∧ C[q].x < 52 ∧ H C[q].x ≠ -1)) ∧ (C[q].y = -1 ∨ (0 ≤ C[q].y ∧ C[q].y < 52 ∧ H C[q].y ≠ -1)) := by
  have hf := (hC q hq).f
  have hn := (hC q hq).no
  obtain ⟨s1, s2, s3⟩ := h.std q hq
  have : (C[q].d = -1 ∨ (0 ≤ C[q].d ∧ C[q].d < 52)) ∧ (C[q].x = -1 ∨ (0 ≤ C[q].x ∧ C[q].x < 52)) ∧ (C[q].y = -1 ∨ (0 ≤ C[q].y ∧ C[q].y < 52)) := by
    rcases hf.ops with o | o | o | o | o | o | o | o | o | o | o | o | o
    · have := hf.ar o; unfold Rg at this; omega
    · have := hf.num o; unfold Rg at this; omega
    · have := hf.two (by omega); unfold Rg at this; omega
    · have := hf.two (by omega); unfold Rg at this; omega
    · have := hf.two (by omega); unfold Rg at this; omega
    · have := hf.sto (by omega); unfold Rg at this; omega
    · have := hf.sto (by omega); unfold Rg at this; omega
    · have := hf.jmp o; omega
    · have := hf.cnd o; unfold Rg at this; omega
    · have := hf.ret o; unfold Rg at this; omega
    · omega
    · omega
    · omega
  obtain ⟨a1, a2, a3⟩ := this
  refine ⟨?_, ?_, ?_⟩
  · rcases a1 with e | e
    · exact Or.inl e
    · exact Or.inr ⟨e.1, e.2, s1 e.1⟩
  · rcases a2 with e | e
    · exact Or.inl e
    · exact Or.inr ⟨e.1, e.2, s2 e.1⟩
  · rcases a3 with e | e
    · exact Or.inl e
    · exact Or.inr ⟨e.1, e.2, s3 e.1⟩

/-- an instruction that is no copy and no return: the pairs ahead of it, and behind it -/
structure WorkOk (k : Int) (C : List Ins) (H : Int → Int) (lv : Nat → Int → Bool) (q : Nat) (hq : q < C.length) (E E2 E3 E4 : Nat → Nat) : Prop where
  e2 : E2 = (ftL H C[q].y (k - 1)).foldl moveP ((ftL H C[q].x (k - 2)).foldl moveP E)
  e3 : E3 = wroteP E2 C[q] (wrkI H k C[q])
  e4 : E4 = (mvL (H C[q].d) (rch k (H C[q].d))).foldl moveP E3
  fo : followP E2 C[q] (wrkI H k C[q]) = true
  b4 : (endB C[q].o = false → Bas k H (lv (q + 1)) E4) ∧ (C[q].d = -1 → Bas k H (lv q) E4)
theorem work_ok (h : Homes k C L H lv) (hC : ∀ j (h : j < C.length), InsS C[j]) (q : Nat) (hq : q < C.length) (h114 : C[q].o ≠ 114) (E : Nat → Nat) (hE : Bas k H (lv q) E) : ∃ E2 E3 E4, WorkOk k C H lv q hq E E2 E3 E4 := by
  refine ⟨_, _, _, rfl, rfl, rfl, ?_, ?_⟩
  all_goals
    obtain ⟨rd, rx, ry⟩ := h.regs hC q hq
    have hrdx : C[q].x = -1 ∨ hasP E C[q].x (H C[q].x) = true := by
      rcases rx with e | e
      · exact Or.inl e
      · exact Or.inr (hE.1 _ (h.rd q hq _ e.1 (Or.inl rfl)))
    have hrdy : C[q].y = -1 ∨ hasP E C[q].y (H C[q].y) = true := by
      rcases ry with e | e
      · exact Or.inl e
      · exact Or.inr (hE.1 _ (h.rd q hq _ e.1 (Or.inr rfl)))
    have hk := h.k6
    obtain ⟨k1, k2, k2'⟩ := has_ftL h E (r := C[q].x) (o := k - 2) (Or.inl rfl) rx
    generalize hE1 : (ftL H C[q].x (k - 2)).foldl moveP E = E1 at *
    obtain ⟨k3, k4, k4'⟩ := has_ftL h E1 (r := C[q].y) (o := k - 1) (Or.inr (Or.inl rfl)) ry
    generalize hE2 : (ftL H C[q].y (k - 1)).foldl moveP E1 = E2 at *
    have keep2 : ∀ v p, p ≠ k - 2 → p ≠ k - 1 → (hasP E2 v p = true ↔ hasP E v p = true) := fun v p h1 h2 => (k3 v p h2).trans (k1 v p h1)
    have hx : C[q].x ≠ -1 → hasP E2 C[q].x (ftP H C[q].x (k - 2)) = true := by
      intro hne
      rcases hrdx with e | e
      · exact absurd e hne
      · have := k2 e
        refine (k3 _ _ ?_).2 this
        unfold ftP
        split
        · omega
        · rcases rx with e' | e'
          · exact absurd e' hne
          · exact (h.pl e'.1 e'.2.1 e'.2.2).2.2.1
    have hy : C[q].y ≠ -1 → hasP E2 C[q].y (ftP H C[q].y (k - 1)) = true := by
      intro hne
      rcases hrdy with e | e
      · exact absurd e hne
      · refine k4 ((k1 _ _ ?_).2 e)
        rcases ry with e' | e'
        · exact absurd e' hne
        · exact (h.pl e'.1 e'.2.1 e'.2.2).2.1
  · unfold followP sameOp mayRd
    have t1 : (if C[q].x = -1 then (wrkI H k C[q]).x == -1 else hasP E2 C[q].x (wrkI H k C[q]).x) = true := by
      by_cases e : C[q].x = -1
      · rw [if_pos e]
        show (ftP H C[q].x (k - 2) == -1) = true
        unfold ftP
        rw [e, h.none]
        rfl
      · rw [if_neg e]; exact hx e
    have t2 : (if C[q].y = -1 then (wrkI H k C[q]).y == -1 else hasP E2 C[q].y (wrkI H k C[q]).y) = true := by
      by_cases e : C[q].y = -1
      · rw [if_pos e]
        show (ftP H C[q].y (k - 1) == -1) = true
        unfold ftP
        rw [e, h.none]
        rfl
      · rw [if_neg e]; exact hy e
    have t3 : ((wrkI H k C[q]).o != 114) = true := by
      show (C[q].o != 114) = true
      simp [h114]
    rw [t1, t2, t3]
    simp [wrkI]
  · have hbase : C[q].d = -1 → (mvL (H C[q].d) (rch k (H C[q].d))).foldl moveP (wroteP E2 C[q] (wrkI H k C[q])) = E2 := by
      intro e
      unfold wroteP
      rw [if_pos e, e, h.none]
      rfl
    have bas2 : Bas k H (lv q) E2 := by
      refine hE.keep (fun _ hr => hr) (fun r hr he => ?_) (fun p hp he => ?_)
      · obtain ⟨r0, r1, r2⟩ := h.lvr _ _ hr
        have := h.pl r0 r1 r2
        exact (keep2 _ _ this.2.1 this.2.2.1).2 he
      · have := h.unu hp
        exact (keep2 _ _ this.2.1 this.2.2.1).2 he
    refine ⟨fun hend => ?_, fun e => by rw [hbase e]; exact bas2⟩
    by_cases e : C[q].d = -1
    · rw [hbase e]
      refine bas2.keep (fun r hr => h.thru q hq r hend ?_ hr) (fun _ _ he => he) (fun _ _ he => he)
      have := (h.lvr _ _ hr).1
      omega
    · rcases rd with e' | ⟨d0, d1, d2⟩
      · exact absurd e' e
      have hd := h.pl d0 d1 d2
      have hrch : (0 ≤ rch k (H C[q].d) ∧ rch k (H C[q].d) < 62) ∧ (rch k (H C[q].d) = H C[q].d ∨ rch k (H C[q].d) = k - 1) := by
        unfold rch
        split
        · exact ⟨by omega, Or.inr rfl⟩
        · exact ⟨by omega, Or.inl rfl⟩
      have hw : wroteP E2 C[q] (wrkI H k C[q]) = setP (loseP E2 C[q].d) C[q].d (rch k (H C[q].d)) := by
        unfold wroteP
        rw [if_neg e]
        rfl
      rw [hw]
      have key := has_mvL (setP (loseP E2 C[q].d) C[q].d (rch k (H C[q].d))) (H C[q].d) (rch k (H C[q].d)) hd.1 hrch.1
      have key2 := fun v p => hasP_set (loseP E2 C[q].d) C[q].d (rch k (H C[q].d)) v p hrch.1
      refine ⟨fun r hr => ?_, fun p hp => ?_⟩
      · rw [key]
        by_cases er : r = C[q].d
        · rw [er]
          refine Or.inl ⟨rfl, (key2 _ _).2 (Or.inl ⟨rfl, rfl, by omega⟩)⟩
        · have hne := h.dif q hq r hend d0 er hr
          obtain ⟨r0, r1, r2⟩ := h.lvr _ _ hr
          have hp := h.pl r0 r1 r2
          refine Or.inr ⟨hne, (key2 _ _).2 (Or.inr ⟨by omega, (hasP_lose _ _ _ _).2 ⟨bas2.1 r (h.thru q hq r hend er hr), er⟩⟩)⟩
      · have hu := h.unu hp
        rw [key]
        have hne := hu.2.2.2 C[q].d d0 d1
        exact Or.inr ⟨fun e => hne e.symm, (key2 _ _).2 (Or.inr ⟨by omega, (hasP_lose _ _ _ _).2 ⟨bas2.2 p hp, by omega⟩⟩)⟩
end
end Go.Proofs.YtccndnckceagfabGreatDoorR.Sp

namespace Go.Proofs.YtccndnckceagfabGreatDoorR.Sp

theorem foldl_moves (s t : List Ins) (E : Nat → Nat) : (s ++ t).foldl moveP E = t.foldl moveP (s.foldl moveP E) := List.foldl_append

section
variable {k : Int} {C : List Ins} {L : List (Nat × Nat)} {H : Int → Int} {lv : Nat → Int → Bool}

theorem brgL_ok (h : Homes k C L H lv) {p r : Int} (hp : 0 ≤ p ∧ p < 62 ∧ (p < k - 2 ∨ 10 ≤ p)) (hr : 0 ≤ r ∧ r < 52 ∧ H r ≠ -1) : ∀ i ∈ brgL H k p r, MvOk i := by
  have := h.k6
  have hpl := h.pl hr.1 hr.2.1 hr.2.2
  unfold brgL
  split
  · intro i hi; cases hi
  · intro i hi
    have hrch : 0 ≤ rch k p ∧ rch k p < 62 := by unfold rch; split <;> omega
    rcases List.mem_append.1 hi with hi | hi
    · unfold ftL at hi
      split at hi
      · exact mvL_ok _ _ hrch hpl.1 i hi
      · cases hi
    · refine mvL_ok _ _ (by omega) ?_ i hi
      unfold ftP
      split
      · exact hrch
      · exact hpl.1
/-- what a register holds is brought to a place -/
theorem has_brgL (h : Homes k C L H lv) (E : Nat → Nat) {p r : Int} (hp : 0 ≤ p ∧ p < 62 ∧ (p < k - 2 ∨ 10 ≤ p)) (hr : 0 ≤ r ∧ r < 52 ∧ H r ≠ -1) :
    (∀ v u, u ≠ p → u ≠ k - 1 → (hasP ((brgL H k p r).foldl moveP E) v u = true ↔ hasP E v u = true)) ∧ (∀ v, hasP E v (H r) = true → hasP ((brgL H k p r).foldl moveP E) v p = true) := by
  have := h.k6
  have hpl := h.pl hr.1 hr.2.1 hr.2.2
  unfold brgL
  by_cases e : H r = p
  · rw [if_pos e]
    exact ⟨fun _ _ _ _ => Iff.rfl, fun v hv => by rw [← e]; exact hv⟩
  · rw [if_neg e, foldl_moves]
    have hrch : (0 ≤ rch k p ∧ rch k p < 62) ∧ (rch k p = p ∨ rch k p = k - 1) := by
      unfold rch
      split
      · exact ⟨by omega, Or.inr rfl⟩
      · exact ⟨by omega, Or.inl rfl⟩
    unfold ftL ftP
    by_cases hs : 10 ≤ H r
    · rw [if_pos hs, if_pos hs]
      have k1 := has_mvL E (rch k p) (H r) hrch.1 hpl.1
      have k2 := has_mvL ((mvL (rch k p) (H r)).foldl moveP E) p (rch k p) (by omega) hrch.1
      refine ⟨fun v u h1 h2 => ?_, fun v hv => ?_⟩
      · rw [k2, k1 v (rch k p), k1 v u]
        constructor
        · rintro (⟨a, _⟩ | ⟨_, ⟨a, _⟩ | ⟨_, a⟩⟩)
          · exact absurd a h1
          · omega
          · exact a
        · intro a
          exact Or.inr ⟨h1, Or.inr ⟨by omega, a⟩⟩
      · rw [k2, k1]
        exact Or.inl ⟨rfl, Or.inl ⟨rfl, hv⟩⟩
    · rw [if_neg hs, if_neg hs]
      have k2 := has_mvL E p (H r) (by omega) hpl.1
      refine ⟨fun v u h1 h2 => ?_, fun v hv => ?_⟩
      · show hasP ((mvL p (H r)).foldl moveP E) v u = true ↔ _
        rw [k2]
        constructor
        · rintro (⟨a, _⟩ | ⟨_, a⟩)
          · exact absurd a h1
          · exact a
        · intro a
          exact Or.inr ⟨h1, a⟩
      · show hasP ((mvL p (H r)).foldl moveP E) v p = true
        rw [k2]
        exact Or.inl ⟨rfl, hv⟩
theorem Homes.home3 (h : Homes k C L H lv) {r : Int} (hr : 0 ≤ r ∧ r < 52 ∧ H r ≠ -1) : 0 ≤ H r ∧ H r < 62 ∧ (H r < k - 2 ∨ 10 ≤ H r) := by
  have := h.k6
  rcases h.home r hr.1 hr.2.1 with e | e | e
  · exact absurd e hr.2.2
  · omega
  · omega
/-- a copy: the pairs ahead of it, and behind it -/
theorem copy_ok (h : Homes k C L H lv) (hC : ∀ j (h : j < C.length), InsS C[j]) (q : Nat) (hq : q < C.length) (h61 : C[q].o = 61) (E : Nat → Nat) (hE : Bas k H (lv q) E) : Bas k H (lv (q + 1)) ((brgL H k (H C[q].d) C[q].x).foldl moveP (copyReg E C[q].d C[q].x)) := by
  obtain ⟨rd, rx, _⟩ := h.regs hC q hq
  obtain ⟨fd, fx, _⟩ := (hC q hq).f.two (Or.inl h61)
  have hk := h.k6
  have hd : 0 ≤ C[q].d ∧ C[q].d < 52 ∧ H C[q].d ≠ -1 := by
    rcases rd with e | e
    · have := fd.1; omega
    · exact e
  have hx : 0 ≤ C[q].x ∧ C[q].x < 52 ∧ H C[q].x ≠ -1 := by
    rcases rx with e | e
    · have := fx.1; omega
    · exact e
  have hend : endB C[q].o = false := by rw [h61]; rfl
  have hrx : hasP E C[q].x (H C[q].x) = true := hE.1 _ (h.rd q hq _ hx.1 (Or.inl rfl))
  obtain ⟨k1, k2⟩ := has_brgL h (copyReg E C[q].d C[q].x) (h.home3 hd) hx
  have cr : ∀ v p, hasP (copyReg E C[q].d C[q].x) v p = true ↔ (v ≠ C[q].d ∧ hasP E v p = true) ∨ (v = C[q].d ∧ hasP E C[q].x p = true) := by
    intro v p
    unfold copyReg
    by_cases e : C[q].d = C[q].x
    · rw [if_pos e]
      constructor
      · intro hv
        by_cases ev : v = C[q].d
        · exact Or.inr ⟨ev, by rw [← e, ← ev]; exact hv⟩
        · exact Or.inl ⟨ev, hv⟩
      · rintro (⟨_, a⟩ | ⟨a, b⟩)
        · exact a
        · rw [a, e]; exact b
    · rw [if_neg e, hasP_gain, hasP_lose, hasP_lose]
      constructor
      · rintro (⟨a, b⟩ | ⟨a, _, b, _⟩)
        · exact Or.inl ⟨b, a⟩
        · exact Or.inr ⟨a, b⟩
      · rintro (⟨a, b⟩ | ⟨a, b⟩)
        · exact Or.inl ⟨b, a⟩
        · exact Or.inr ⟨a, by omega, b, fun e' => e e'.symm⟩
  refine ⟨fun r hr => ?_, fun p hp => ?_⟩
  · by_cases er : r = C[q].d
    · rw [er]
      exact k2 _ ((cr _ _).2 (Or.inr ⟨rfl, hrx⟩))
    · have hne := h.dif q hq r hend hd.1 er hr
      obtain ⟨r0, r1, r2⟩ := h.lvr _ _ hr
      have hpl := h.pl r0 r1 r2
      exact (k1 _ _ hne hpl.2.2.1).2 ((cr _ _).2 (Or.inl ⟨er, hE.1 r (h.thru q hq r hend er hr)⟩))
  · have hu := h.unu hp
    have hne := hu.2.2.2 C[q].d hd.1 hd.2.1
    exact (k1 _ _ (fun e => hne e.symm) hu.2.2.1).2 ((cr _ _).2 (Or.inl ⟨by omega, hE.2 p hp⟩))
/-- an instruction within a block -/
theorem seg_inner (h : Homes k C L H lv) (hC : ∀ j (h : j < C.length), InsS C[j]) (D : List Ins) (last : Nat) (hD : last < D.length) (q : Nat) (hq : q < C.length) (hend : endB C[q].o = false) (a f : Nat) (E : Nat → Nat) (hL : LieAt D a (fol H k C[q])) (hl : a + (fol H k C[q]).length ≤ last) (hf : last < f + a) (hE : Bas k H (lv q) E) :
    ∃ E', playP C D last f E q a = playP C D last (f - (fol H k C[q]).length) E' (q + 1) (a + (fol H k C[q]).length) ∧ Bas k H (lv (q + 1)) E' := by
  have h114 : C[q].o ≠ 114 := by intro e; rw [e] at hend; cases hend
  obtain ⟨rd, rx, ry⟩ := h.regs hC q hq
  by_cases h61 : C[q].o = 61
  · obtain ⟨fd, fx, _⟩ := (hC q hq).f.two (Or.inl h61)
    have hd : 0 ≤ C[q].d ∧ C[q].d < 52 ∧ H C[q].d ≠ -1 := by
      rcases rd with e | e
      · have := fd.1; omega
      · exact e
    have hx : 0 ≤ C[q].x ∧ C[q].x < 52 ∧ H C[q].x ≠ -1 := by
      rcases rx with e | e
      · have := fx.1; omega
      · exact e
    have ef : fol H k C[q] = brgL H k (H C[q].d) C[q].x := by unfold fol; rw [if_pos h61]
    rw [ef] at hL hl ⊢
    refine ⟨_, ?_, copy_ok h hC q hq h61 E hE⟩
    obtain ⟨g, rfl⟩ : ∃ g, f = g + 1 := ⟨f - 1, by omega⟩
    rw [play_copy C D last g E q a (by omega) (by omega) hq h61]
    exact play_movesI hC D last hD _ _ _ _ _ hL (brgL_ok h (h.home3 hd) hx) hl hf
  · obtain ⟨E2, E3, E4, W⟩ := work_ok h hC q hq h114 E hE
    have ef : fol H k C[q] = (ftL H C[q].x (k - 2) ++ ftL H C[q].y (k - 1)) ++ (wrkI H k C[q] :: mvL (H C[q].d) (rch k (H C[q].d))) := by unfold fol wrkL; rw [if_neg h61, if_neg h114]
    rw [ef] at hL hl ⊢
    rw [List.length_append, List.length_cons] at hl ⊢
    refine ⟨E4, ?_, W.b4.1 hend⟩
    have m1 : ∀ i ∈ ftL H C[q].x (k - 2) ++ ftL H C[q].y (k - 1), MvOk i := by
      intro i hi
      rcases List.mem_append.1 hi with hi | hi
      · exact ftL_ok h (Or.inl rfl) rx i hi
      · exact ftL_ok h (Or.inr (Or.inl rfl)) ry i hi
    have hr := hL.right
    rw [play_movesI hC D last hD _ f E q a hL.left m1 (by omega) hf, foldl_moves, ← W.e2]
    generalize (ftL H C[q].x (k - 2) ++ ftL H C[q].y (k - 1)).length = n1 at *
    obtain ⟨x1, x2⟩ := hr.head
    have ht := hr.tail
    have hmv : isMv (wrkI H k C[q]).o = false := by
      show isMv C[q].o = false
      have := (hC q hq).no
      unfold isMv
      simp only [Bool.or_eq_false_iff, beq_eq_false_iff_ne]
      omega
    obtain ⟨g, hg⟩ : ∃ g, f - n1 = g + 1 := ⟨f - n1 - 1, by omega⟩
    rw [hg, play_follow C D last g E2 q (a + n1) (by omega) x1 hq h61 (by rw [x2]; exact hmv) (by rw [x2]; exact W.fo), x2, ← W.e3]
    have m2 : ∀ i ∈ mvL (H C[q].d) (rch k (H C[q].d)), MvOk i := by
      rcases rd with e | e
      · rw [e, h.none]
        intro i hi
        cases hi
      · have hp := (h.pl e.1 e.2.1 e.2.2).1
        have hk := h.k6
        refine mvL_ok _ _ hp ?_
        unfold rch
        split <;> omega
    rw [play_movesI hC D last hD _ g E3 (q + 1) (a + n1 + 1) ht m2 (by omega) (by omega), ← W.e4]
    congr 1
    · omega
    · omega
theorem clr_has (E : Nat → Nat) (s : List Int) (hs : ∀ p ∈ s, 0 ≤ p ∧ p < 62) (v u : Int) : hasP ((s.map clrI).foldl moveP E) v u = true ↔ (u ∈ s ∧ v = 52) ∨ (u ∉ s ∧ hasP E v u = true) := by
  induction s generalizing E with
  | nil => simp
  | cons p s ih =>
    rw [List.map_cons, List.foldl_cons, ih (moveP E (clrI p)) (fun x hx => hs x (by simp [hx]))]
    have e : moveP E (clrI p) = setP E 52 p := rfl
    rw [e, hasP_set E 52 p v u (hs p (by simp))]
    constructor
    · rintro (⟨a, b⟩ | ⟨a, ⟨b, c, _⟩ | ⟨b, c⟩⟩)
      · exact Or.inl ⟨by simp [a], b⟩
      · exact Or.inl ⟨by simp [b], c⟩
      · exact Or.inr ⟨by simp [a, b], c⟩
    · rintro (⟨a, b⟩ | ⟨a, b⟩)
      · by_cases hu : u ∈ s
        · exact Or.inl ⟨hu, b⟩
        · refine Or.inr ⟨hu, Or.inl ⟨?_, b, by omega⟩⟩
          rcases List.mem_cons.1 a with a | a
          · exact a
          · exact absurd a hu
      · simp only [List.mem_cons, not_or] at a
        exact Or.inr ⟨a.2, Or.inr ⟨a.1, b⟩⟩
def clrP (k : Int) (H : Int → Int) : List Int := ((List.range (k.toNat - 1)).map fun (p : Nat) => (p : Int) + 1) ++ ((List.range 52).filter fun (r : Nat) => decide (10 ≤ H (r : Int))).map fun (r : Nat) => H (r : Int)
theorem clr_eq (k : Int) (H : Int → Int) : clrR k ++ clrS H = (clrP k H).map clrI := by
  unfold clrR clrS clrP
  rw [List.map_append, List.map_map, List.map_map]
  rfl
theorem clrP_mem (h : Homes k C L H lv) (p : Int) : p ∈ clrP k H ↔ (1 ≤ p ∧ p < k) ∨ (10 ≤ p ∧ p < 62 ∧ H (p - 10) = p) := by
  have hk := h.k6
  unfold clrP
  simp only [List.mem_append, List.mem_map, List.mem_range, List.mem_filter, decide_eq_true_eq]
  constructor
  · rintro (⟨n, hn, rfl⟩ | ⟨r, ⟨hr, hs⟩, rfl⟩)
    · exact Or.inl (by omega)
    · rcases h.home r (by omega) (by omega) with e | e | e
      · omega
      · omega
      · refine Or.inr ⟨hs, by omega, ?_⟩
        rw [show H (r : Int) - 10 = r by omega]
  · rintro (hp | ⟨h1, h2, h3⟩)
    · exact Or.inl ⟨(p - 1).toNat, by omega, by omega⟩
    · refine Or.inr ⟨(p - 10).toNat, ⟨by omega, ?_⟩, ?_⟩
      · rw [show (((p - 10).toNat : Nat) : Int) = p - 10 by omega, h3]; exact h1
      · rw [show (((p - 10).toNat : Nat) : Int) = p - 10 by omega, h3]
theorem clr_mv (h : Homes k C L H lv) : ∀ i ∈ clrR k ++ clrS H, MvOk i := by
  intro i hi
  rw [clr_eq, List.mem_map] at hi
  obtain ⟨p, hp, rfl⟩ := hi
  have hk := h.k6
  rcases (clrP_mem h p).1 hp with e | e
  · exact ⟨rfl, by show 0 ≤ p ∧ p < 62; omega, Or.inl rfl⟩
  · exact ⟨rfl, by show 0 ≤ p ∧ p < 62; omega, Or.inl rfl⟩
/-- what a source's return has beside its register -/
def RetOk (C : List Ins) : Prop := ∀ q (hq : q < C.length), C[q].o = 114 → C[q].n = 0 ∧ C[q].k = -1 ∧ C[q].m = -1
/-- the last instruction of a block -/
theorem seg_end (h : Homes k C L H lv) (hC : ∀ j (h : j < C.length), InsS C[j]) (hR : RetOk C) (D : List Ins) (last : Nat) (hD : last < D.length) (q : Nat) (hq : q < C.length) (hend : endB C[q].o = true) (a f : Nat) (E : Nat → Nat) (hL : LieAt D a (fol H k C[q])) (hl : a + (fol H k C[q]).length = last + 1) (hf : last < f + a) (hE : Bas k H (lv q) E) :
    ∃ E', playP C D last f E q a = some (E', q + 1) ∧ (C[q].o ≠ 114 → Bas k H (lv q) E') := by
  have h61 : C[q].o ≠ 61 := by intro e; rw [e] at hend; cases hend
  obtain ⟨rd, rx, ry⟩ := h.regs hC q hq
  by_cases h114 : C[q].o = 114
  · obtain ⟨fd, fx, fy⟩ := (hC q hq).f.ret h114
    have hk := h.k6
    have hx : 0 ≤ C[q].x ∧ C[q].x < 52 ∧ H C[q].x ≠ -1 := by
      rcases rx with e | e
      · have := fx.1; omega
      · exact e
    have ef : fol H k C[q] = endM H k C[q].x ++ [retI] := by unfold fol; rw [if_neg h61, if_pos h114]
    rw [ef] at hL hl
    rw [List.length_append, List.length_singleton] at hl
    have m1 : ∀ i ∈ endM H k C[q].x, MvOk i := by
      intro i hi
      unfold endM at hi
      rcases List.mem_append.1 hi with hi | hi
      · exact brgL_ok h (by omega) hx i hi
      · exact clr_mv h i hi
    have hr := hL.right
    rw [play_movesI hC D last hD _ f E q a hL.left m1 (by omega) hf]
    have he : (endM H k C[q].x).foldl moveP E = ((clrP k H).map clrI).foldl moveP ((brgL H k 0 C[q].x).foldl moveP E) := by
      unfold endM
      rw [foldl_moves, clr_eq]
    rw [he]
    obtain ⟨k1, k2⟩ := has_brgL h E (p := 0) (by omega) hx
    generalize (brgL H k 0 C[q].x).foldl moveP E = E1 at *
    have k3 := clr_has E1 (clrP k H) (fun p hp => by
      rcases (clrP_mem h p).1 hp with e | e <;> omega)
    generalize ((clrP k H).map clrI).foldl moveP E1 = E2 at *
    generalize (endM H k C[q].x).length = n1 at *
    obtain ⟨x1, x2⟩ := hr.head
    obtain ⟨g, hg⟩ : ∃ g, f - n1 = g + 1 := ⟨f - n1 - 1, by omega⟩
    have hfo : followP E2 C[q] D[a + n1] = true := by
      rw [x2]
      obtain ⟨r1, r2, r3⟩ := hR q hq h114
      unfold followP sameOp mayRd wroteP clearedP
      rw [if_neg (show ¬ C[q].x = -1 by omega), if_pos fy, if_pos fd]
      have hx0 : hasP E2 C[q].x 0 = true := by
        refine (k3 _ _).2 (Or.inr ⟨?_, k2 _ (hE.1 _ (h.rd q hq _ hx.1 (Or.inl rfl)))⟩)
        rw [clrP_mem h]
        omega
      have hall : ((List.range 61).all fun p => hasP E2 52 ((p : Int) + 1)) = true := by
        rw [List.all_eq_true]
        intro p hp
        rw [List.mem_range] at hp
        refine (k3 _ _).2 ?_
        by_cases hm : ((p : Int) + 1) ∈ clrP k H
        · exact Or.inl ⟨hm, rfl⟩
        · refine Or.inr ⟨hm, ?_⟩
          rw [clrP_mem h] at hm
          have hu : UnU k H ((p : Int) + 1) := by
            by_cases h10 : (p : Int) + 1 < 10
            · exact Or.inl (by omega)
            · refine Or.inr ⟨by omega, by omega, fun e => hm (Or.inr ⟨by omega, by omega, e⟩)⟩
          have hun := h.unu hu
          exact (k1 _ _ (by omega) hun.2.2.1).2 (hE.2 _ hu)
      rw [hall]
      show ((retI.o == C[q].o && retI.n == C[q].n && retI.k == C[q].k && retI.m == C[q].m && hasP E2 C[q].x retI.x && (retI.y == -1)) && _) = true
      rw [h114, r1, r2, r3]
      show ((true && true && true && true && hasP E2 C[q].x 0 && true) && _) = true
      rw [hx0]
      rfl
    rw [hg, play_follow C D last g E2 q (a + n1) (by omega) x1 hq h61 (by rw [x2]; rfl) hfo, play_end C D last g _ _ _ (by omega)]
    exact ⟨_, rfl, fun hne => absurd h114 hne⟩
  · obtain ⟨E2, E3, E4, W⟩ := work_ok h hC q hq h114 E hE
    have hd : C[q].d = -1 := by
      have hf := (hC q hq).f
      simp only [endB, Bool.or_eq_true, beq_iff_eq] at hend
      rcases hend with (e | e) | e
      · exact (hf.jmp e).1
      · exact (hf.cnd e).1
      · exact absurd e h114
    have ef : fol H k C[q] = (ftL H C[q].x (k - 2) ++ ftL H C[q].y (k - 1)) ++ [wrkI H k C[q]] := by
      unfold fol wrkL
      rw [if_neg h61, if_neg h114, hd, h.none]
      rfl
    have e4 : E4 = E3 := by
      rw [W.e4, hd, h.none]
      rfl
    rw [ef] at hL hl
    rw [List.length_append, List.length_singleton] at hl
    have m1 : ∀ i ∈ ftL H C[q].x (k - 2) ++ ftL H C[q].y (k - 1), MvOk i := by
      intro i hi
      rcases List.mem_append.1 hi with hi | hi
      · exact ftL_ok h (Or.inl rfl) rx i hi
      · exact ftL_ok h (Or.inr (Or.inl rfl)) ry i hi
    have hr := hL.right
    rw [play_movesI hC D last hD _ f E q a hL.left m1 (by omega) hf, foldl_moves, ← W.e2]
    generalize (ftL H C[q].x (k - 2) ++ ftL H C[q].y (k - 1)).length = n1 at *
    obtain ⟨x1, x2⟩ := hr.head
    have hmv : isMv (wrkI H k C[q]).o = false := by
      show isMv C[q].o = false
      have := (hC q hq).no
      unfold isMv
      simp only [Bool.or_eq_false_iff, beq_eq_false_iff_ne]
      omega
    obtain ⟨g, hg⟩ : ∃ g, f - n1 = g + 1 := ⟨f - n1 - 1, by omega⟩
    rw [hg, play_follow C D last g E2 q (a + n1) (by omega) x1 hq h61 (by rw [x2]; exact hmv) (by rw [x2]; exact W.fo), x2, ← W.e3, play_end C D last g _ _ _ (by omega)]
    exact ⟨E3, rfl, fun _ => by rw [← e4]; exact W.b4.2 hd⟩
/-- from an instruction to the end of its block -/
theorem seg_all (h : Homes k C L H lv) (hC : ∀ j (h : j < C.length), InsS C[j]) (hR : RetOk C) (D : List Ins) (last : Nat) (hD : last < D.length) (e : Nat) (he : e < C.length) (hend : endB C[e].o = true) :
    ∀ (n q a f : Nat) (E : Nat → Nat), e = q + n → (∀ i (h : i < C.length), q ≤ i → i < e → endB C[i].o = false) → LieAt D a (((C.drop q).take (n + 1)).flatMap (fol H k)) → a + (((C.drop q).take (n + 1)).flatMap (fol H k)).length = last + 1 → last < f + a → Bas k H (lv q) E →
      ∃ E', playP C D last f E q a = some (E', e + 1) ∧ (C[e].o ≠ 114 → Bas k H (lv e) E')
  | 0, q, a, f, E, hq, hi, hL, hl, hf, hE => by
    obtain rfl : e = q := by omega
    have : ((C.drop e).take (0 + 1)).flatMap (fol H k) = fol H k C[e] := by
      rw [List.drop_eq_getElem_cons he, List.take_succ_cons, List.take_zero, List.flatMap_cons, List.flatMap_nil, List.append_nil]
    rw [this] at hL hl
    exact seg_end h hC hR D last hD e he hend a f E hL hl hf hE
  | n + 1, q, a, f, E, hq, hi, hL, hl, hf, hE => by
    have hqC : q < C.length := by omega
    have e1 : ((C.drop q).take (n + 1 + 1)).flatMap (fol H k) = fol H k C[q] ++ ((C.drop (q + 1)).take (n + 1)).flatMap (fol H k) := by
      rw [List.drop_eq_getElem_cons hqC, List.take_succ_cons, List.flatMap_cons]
    rw [e1] at hL hl
    rw [List.length_append] at hl
    have hpos : 0 < (((C.drop (q + 1)).take (n + 1)).flatMap (fol H k)).length := by
      have hmem : C[e] ∈ (C.drop (q + 1)).take (n + 1) := by
        rw [List.mem_take_iff_getElem]
        refine ⟨n, by rw [List.length_drop]; omega, ?_⟩
        rw [List.getElem_drop]
        congr 1
        omega
      have hne : fol H k C[e] ≠ [] := by
        unfold fol
        rw [if_neg (fun e => by rw [e] at hend; cases hend)]
        split
        · simp
        · unfold wrkL
          simp
      rw [List.length_pos_iff]
      intro hnil
      rw [List.flatMap_eq_nil_iff] at hnil
      exact hne (hnil _ hmem)
    obtain ⟨E', p1, p2⟩ := seg_inner h hC D last hD q hqC (hi q hqC (Nat.le_refl _) (by omega)) a f E hL.left (by omega) hf hE
    rw [p1]
    exact seg_all h hC hR D last hD e he hend n (q + 1) (a + (fol H k C[q]).length) (f - (fol H k C[q]).length) E' (by omega) (fun i h1 h2 h3 => hi i h1 (by omega) h3) hL.right (by omega) (by omega) p2
end
end Go.Proofs.YtccndnckceagfabGreatDoorR.Sp

namespace Go.Proofs.YtccndnckceagfabGreatDoorR.Sp

/-! ### Where things lie -/
def posL (H : Int → Int) (k : Int) (lv : Int → Bool) (C : List Ins) (q : Nat) : Nat := (begL H lv).length + ((C.take q).flatMap (fol H k)).length
theorem cmpL_cut (H : Int → Int) (k : Int) (lv : Int → Bool) (C : List Ins) (q n : Nat) : cmpL H k lv C = (begL H lv ++ (C.take q).flatMap (fol H k)) ++ (((C.drop q).take n).flatMap (fol H k) ++ ((C.drop q).drop n).flatMap (fol H k)) := by
  unfold cmpL
  rw [List.append_assoc, ← List.flatMap_append, ← List.flatMap_append, List.take_append_drop, List.take_append_drop]
theorem lieAt_mid (p s r : List Ins) : LieAt (p ++ (s ++ r)) p.length s := fun i hi => by
  rw [List.getElem?_append_right (by omega), Nat.add_sub_cancel_left, List.getElem?_append_left hi]
theorem cmpL_lie (H : Int → Int) (k : Int) (lv : Int → Bool) (C : List Ins) (q n : Nat) : LieAt (cmpL H k lv C) (posL H k lv C q) (((C.drop q).take n).flatMap (fol H k)) := by
  have := lieAt_mid (begL H lv ++ (C.take q).flatMap (fol H k)) (((C.drop q).take n).flatMap (fol H k)) (((C.drop q).drop n).flatMap (fol H k))
  rw [← cmpL_cut, List.length_append] at this
  exact this
theorem posL_add (H : Int → Int) (k : Int) (lv : Int → Bool) (C : List Ins) (q n : Nat) : posL H k lv C (q + n) = posL H k lv C q + (((C.drop q).take n).flatMap (fol H k)).length := by
  unfold posL
  rw [List.take_add, List.flatMap_append, List.length_append]
  omega
theorem posL_succ (H : Int → Int) (k : Int) (lv : Int → Bool) (C : List Ins) (q : Nat) (hq : q < C.length) : posL H k lv C (q + 1) = posL H k lv C q + (fol H k C[q]).length := by
  rw [posL_add, List.drop_eq_getElem_cons hq, List.take_succ_cons, List.take_zero, List.flatMap_cons, List.flatMap_nil, List.append_nil]
theorem posL_end (H : Int → Int) (k : Int) (lv : Int → Bool) (C : List Ins) : posL H k lv C C.length = (cmpL H k lv C).length := by
  unfold posL cmpL
  rw [List.take_length, List.length_append]
theorem posL_le (H : Int → Int) (k : Int) (lv : Int → Bool) (C : List Ins) {q r : Nat} (h : q ≤ r) : posL H k lv C q ≤ posL H k lv C r := by
  obtain ⟨n, rfl⟩ : ∃ n, r = q + n := ⟨r - q, by omega⟩
  rw [posL_add]
  omega
/-- blocks of what is laid -/
structure MOk (H : Int → Int) (k : Int) (lv : Int → Bool) (C : List Ins) (L M : List (Nat × Nat)) : Prop where
  len : M.length = L.length
  fst0 : ∀ h : 0 < M.length, M[0].1 = 0
  fst : ∀ b (h : b < M.length) (h2 : b < L.length), 1 ≤ b → M[b].1 = posL H k lv C L[b].1
  lst : ∀ b (h : b < M.length) (h2 : b < L.length), M[b].2 + 1 = posL H k lv C (L[b].2 + 1)

section
variable {k : Int} {C : List Ins} {L M : List (Nat × Nat)} {H : Int → Int} {lv : Nat → Int → Bool}

/-! ### The beginning -/
structure BegOk (k : Int) (H : Int → Int) (lv : Int → Bool) (j : Nat) (E : Nat → Nat) : Prop where
  a : ∀ n, n < 4 → hasP E (argS n) n = true
  b : ∀ n, n < j → lv (argS n) = true → hasP E (argS n) (H (argS n)) = true
  c : ∀ p, UnU k H p → hasP E 52 p = true
theorem argS_lt (n : Nat) : 0 ≤ argS n ∧ argS n < 52 := by
  unfold argS
  repeat' split
  all_goals omega
theorem argS_inj {n m : Nat} (hn : n < 4) (hm : m < 4) (h : argS n = argS m) : n = m := by
  unfold argS at h
  repeat' split at h
  all_goals omega
theorem beg_start (h : Homes k C L H lv) : BegOk k H (lv 0) 0 startE := by
  have hk := h.k6
  refine ⟨fun n hn => ?_, fun n hn => absurd hn (by omega), fun p hp => ?_⟩
  · rw [hasP_start]
    refine ⟨by omega, ?_⟩
    have : n = 0 ∨ n = 1 ∨ n = 2 ∨ n = 3 := by omega
    rcases this with rfl | rfl | rfl | rfl <;> rfl
  · have hu := h.unu hp
    rw [hasP_start]
    refine ⟨hu.1, ?_⟩
    have : 6 ≤ p := by
      rcases hp with e | e <;> omega
    unfold begR
    repeat rw [if_neg (by omega)]
theorem begA_mv (h : Homes k C L H lv) (n : Nat) (hn : n < 4) : ∀ i ∈ begA H (lv 0) n, MvOk i := by
  unfold begA
  split
  · rename_i hl
    obtain ⟨r0, r1, r2⟩ := h.lvr _ _ hl
    exact mvL_ok _ _ (h.pl r0 r1 r2).1 (by omega)
  · intro i hi; cases hi
theorem beg_step (h : Homes k C L H lv) (j : Nat) (hj : j < 4) (E : Nat → Nat) (hE : BegOk k H (lv 0) j E) : BegOk k H (lv 0) (j + 1) ((begA H (lv 0) j).foldl moveP E) := by
  have hk := h.k6
  unfold begA
  by_cases hl : lv 0 (argS j) = true
  · rw [if_pos hl]
    obtain ⟨r0, r1, r2⟩ := h.lvr _ _ hl
    have key := has_mvL E (H (argS j)) j (h.pl r0 r1 r2).1 (by omega)
    have hto : H (argS j) = j ∨ H (argS j) = 10 + argS j := by
      by_cases e : H (argS j) < 10
      · exact Or.inl (h.seat j hj hl e)
      · rcases h.home _ r0 r1 with e' | e' | e'
        · exact absurd e' r2
        · omega
        · exact Or.inr e'
    refine ⟨fun n hn => ?_, fun n hn hln => ?_, fun p hp => ?_⟩
    · rw [key]
      rcases hto with e | e
      · by_cases enj : n = j
        · subst enj
          exact Or.inl ⟨e.symm, hE.a n hn⟩
        · exact Or.inr ⟨by omega, hE.a n hn⟩
      · exact Or.inr ⟨by omega, hE.a n hn⟩
    · rw [key]
      by_cases enj : n = j
      · subst enj
        exact Or.inl ⟨rfl, hE.a n hj⟩
      · have hn4 : n < 4 := by omega
        refine Or.inr ⟨fun e => ?_, hE.b n (by omega) hln⟩
        obtain ⟨s0, s1, s2⟩ := h.lvr _ _ hln
        have hto' : H (argS n) = n ∨ H (argS n) = 10 + argS n := by
          by_cases e : H (argS n) < 10
          · exact Or.inl (h.seat n hn4 hln e)
          · rcases h.home _ s0 s1 with e' | e' | e'
            · exact absurd e' s2
            · omega
            · exact Or.inr e'
        rcases hto with e1 | e1
        · rcases hto' with e2 | e2 <;> omega
        · rcases hto' with e2 | e2
          · omega
          · exact enj (argS_inj hn4 hj (by omega))
    · have hu := h.unu hp
      rw [key]
      exact Or.inr ⟨fun e => hu.2.2.2 _ r0 r1 e.symm, hE.c p hp⟩
  · rw [if_neg hl]
    refine ⟨hE.a, fun n hn hln => ?_, hE.c⟩
    by_cases enj : n = j
    · subst enj; exact absurd hln hl
    · exact hE.b n (by omega) hln
theorem beg_all (h : Homes k C L H lv) : Bas k H (lv 0) ((begL H (lv 0)).foldl moveP startE) := by
  unfold begL
  rw [foldl_moves, foldl_moves, foldl_moves]
  have b := beg_step h 3 (by decide) _ (beg_step h 2 (by decide) _ (beg_step h 1 (by decide) _ (beg_step h 0 (by decide) _ (beg_start h))))
  refine ⟨fun r hr => ?_, b.c⟩
  obtain ⟨n, hn, rfl⟩ := h.start r hr
  exact b.b n hn hr
theorem begL_mv (h : Homes k C L H lv) : ∀ i ∈ begL H (lv 0), MvOk i := by
  intro i hi
  unfold begL at hi
  rcases List.mem_append.1 hi with hi | hi
  · exact begA_mv h 0 (by decide) i hi
  · rcases List.mem_append.1 hi with hi | hi
    · exact begA_mv h 1 (by decide) i hi
    · rcases List.mem_append.1 hi with hi | hi
      · exact begA_mv h 2 (by decide) i hi
      · exact begA_mv h 3 (by decide) i hi
theorem fol_ne {i : Ins} (hend : endB i.o = true) : 0 < (fol H k i).length := by
  unfold fol
  rw [if_neg (fun e => by rw [e] at hend; cases hend)]
  split
  · simp
  · unfold wrkL
    rw [List.length_append, List.length_cons]
    omega
/-- a block is well played -/
theorem blk_play (h : Homes k C L H lv) (hC : ∀ j (h : j < C.length), InsS C[j]) (hR : RetOk C) (hB : BlkOk C L) (hL0 : ∀ h : 0 < L.length, L[0].1 = 0) (hM : MOk H k (lv 0) C L M) (b : Nat) (hb : b < L.length) (E : Nat → Nat) (hE : (b = 0 ∧ E = startE) ∨ (1 ≤ b ∧ Bas k H (lv L[b].1) E)) :
    ∃ F, playB C L (cmpL H k (lv 0) C) M E b = some F ∧ ∀ hl : L[b].2 < C.length, C[L[b].2].o ≠ 114 → Bas k H (lv L[b].2) F := by
  have hbM : b < M.length := by rw [hM.len]; exact hb
  have hlt := hB.lt b hb
  have hle := hB.le b hb
  have hlst := hM.lst b hbM hb
  have hDl : M[b].2 < (cmpL H k (lv 0) C).length := by
    have := posL_le H k (lv 0) C (show L[b].2 + 1 ≤ C.length from hlt)
    rw [posL_end] at this
    omega
  obtain ⟨n, hn⟩ : ∃ n, L[b].2 = L[b].1 + n := ⟨L[b].2 - L[b].1, by omega⟩
  have hlie := cmpL_lie H k (lv 0) C L[b].1 (n + 1)
  have hadd := posL_add H k (lv 0) C L[b].1 (n + 1)
  rw [show L[b].1 + (n + 1) = L[b].2 + 1 by omega, ← hlst] at hadd
  have hseg := fun f E => seg_all h hC hR (cmpL H k (lv 0) C) M[b].2 hDl L[b].2 hlt (hB.ends b hb hlt) n L[b].1 (posL H k (lv 0) C L[b].1) f E hn (fun i h1 h2 h3 => hB.inner b hb i h1 h2 h3) hlie (by omega)
  have hpos : posL H k (lv 0) C L[b].1 ≤ M[b].2 := by
    have h1 := posL_succ H k (lv 0) C L[b].2 hlt
    have h2 := posL_le H k (lv 0) C hle
    have h3 := fol_ne (H := H) (k := k) (hB.ends b hb hlt)
    omega
  have main : ∃ F, playP C (cmpL H k (lv 0) C) M[b].2 (cmpL H k (lv 0) C).length E L[b].1 M[b].1 = some (F, L[b].2 + 1) ∧ (C[L[b].2].o ≠ 114 → Bas k H (lv L[b].2) F) := by
    rcases hE with ⟨rfl, rfl⟩ | ⟨hb1, hE⟩
    · rw [hM.fst0 hbM]
      have p0 : posL H k (lv 0) C L[0].1 = 0 + (begL H (lv 0)).length := by
        rw [hL0 hb]
        unfold posL
        simp
      have hbl : LieAt (cmpL H k (lv 0) C) 0 (begL H (lv 0)) := fun i hi => by
        unfold cmpL
        rw [Nat.zero_add, List.getElem?_append_left hi]
      rw [play_movesI hC _ _ hDl (begL H (lv 0)) _ startE _ 0 hbl (begL_mv h) (by omega) (by omega), ← p0]
      exact hseg _ _ (by omega) (by rw [hL0 hb]; exact beg_all h)
    · rw [hM.fst b hbM hb hb1]
      exact hseg _ _ (by omega) hE
  obtain ⟨F, h1, h2⟩ := main
  refine ⟨F, ?_, fun _ => h2⟩
  unfold playB
  rw [dif_pos ⟨hb, hbM⟩, h1]
  simp [plyEnd]
end

/-! ### Counting -/
def sumTo (g : Nat → Nat) : Nat → Nat
  | 0 => 0
  | n + 1 => sumTo g n + g n
theorem sumTo_le {g g' : Nat → Nat} : ∀ n, (∀ i, i < n → g i ≤ g' i) → sumTo g n ≤ sumTo g' n
  | 0, _ => Nat.le_refl _
  | n + 1, h => Nat.add_le_add (sumTo_le n (fun i hi => h i (by omega))) (h n (by omega))
theorem sumTo_lt {g g' : Nat → Nat} : ∀ n j, j < n → (∀ i, i < n → g i ≤ g' i) → g j < g' j → sumTo g n < sumTo g' n
  | 0, j, hj, _, _ => by omega
  | n + 1, j, hj, h, hlt => by
    simp only [sumTo]
    by_cases e : j = n
    · subst e
      have := sumTo_le j (fun i hi => h i (by omega))
      omega
    · have := sumTo_lt n j (by omega) (fun i hi => h i (by omega)) hlt
      have := h n (by omega)
      omega
theorem sumTo_bd {g : Nat → Nat} {c : Nat} : ∀ n, (∀ i, i < n → g i ≤ c) → sumTo g n ≤ n * c
  | 0, _ => by simp [sumTo]
  | n + 1, h => by
    have := sumTo_bd n (fun i hi => h i (by omega))
    have := h n (by omega)
    simp only [sumTo]
    rw [Nat.succ_mul]
    omega
def bt (x : Nat) : Nat := sumTo (fun v => if x.testBit v = true then 1 else 0) 53
def bits' (E : Nat → Nat) : Nat := sumTo (fun p => bt (E p)) 62
theorem bt_bd (x : Nat) : bt x ≤ 53 := by
  have := sumTo_bd (g := fun v => if x.testBit v = true then 1 else 0) (c := 1) 53 (fun i _ => by
    show (if x.testBit i = true then 1 else 0) ≤ 1
    split <;> omega)
  unfold bt
  omega
theorem bitsE_bd (E : Nat → Nat) : bits' E ≤ 3286 := by
  have := sumTo_bd (g := fun p => bt (E p)) (c := 53) 62 (fun i _ => bt_bd _)
  unfold bits'
  omega
theorem bt_and (x y : Nat) : bt (x &&& y) ≤ bt x := by
  refine sumTo_le 53 (fun i _ => ?_)
  show (if (x &&& y).testBit i = true then 1 else 0) ≤ (if x.testBit i = true then 1 else 0)
  rw [Nat.testBit_and]
  cases x.testBit i <;> cases y.testBit i <;> decide
theorem bt_and_lt (x y : Nat) (hx : x < 2 ^ 53) (h : x &&& y ≠ x) : bt (x &&& y) < bt x := by
  have hex : ∃ i, i < 53 ∧ x.testBit i = true ∧ y.testBit i = false := by
    by_cases hn : ∃ i, i < 53 ∧ x.testBit i = true ∧ y.testBit i = false
    · exact hn
    · exfalso
      apply h
      apply Nat.eq_of_testBit_eq
      intro i
      rw [Nat.testBit_and]
      by_cases hi : i < 53
      · cases hxi : x.testBit i
        · rfl
        · cases hyi : y.testBit i
          · exact absurd ⟨i, hi, hxi, hyi⟩ hn
          · rfl
      · have : x.testBit i = false := Nat.testBit_lt_two_pow (Nat.lt_of_lt_of_le hx (Nat.pow_le_pow_right (by decide) (by omega)))
        rw [this]
        rfl
  obtain ⟨j, hj, h1, h2⟩ := hex
  refine sumTo_lt 53 j hj (fun i _ => ?_) ?_
  · show (if (x &&& y).testBit i = true then 1 else 0) ≤ (if x.testBit i = true then 1 else 0)
    rw [Nat.testBit_and]
    cases x.testBit i <;> cases y.testBit i <;> decide
  · show (if (x &&& y).testBit j = true then 1 else 0) < (if x.testBit j = true then 1 else 0)
    rw [Nat.testBit_and, h1, h2]
    decide
def entW (x : Ent) : Nat := if x.r = true then bits' x.e + (if x.w = true then 1 else 0) else 3287
def tabW (K : Nat → Ent) : Nat := sumTo (fun i => entW (K i)) 10
theorem putE_le {K : Nat → Ent} {i : Nat} {x : Ent} (h : entW x ≤ entW (K i)) : tabW (putE K i x) ≤ tabW K := by
  refine sumTo_le 10 (fun j _ => ?_)
  show entW (putE K i x j) ≤ entW (K j)
  unfold putE
  split
  · rename_i e; subst e; exact h
  · exact Nat.le_refl _
theorem putE_lt {K : Nat → Ent} {i : Nat} {x : Ent} (hi : i < 10) (h : entW x < entW (K i)) : tabW (putE K i x) < tabW K := by
  refine sumTo_lt 10 i hi (fun j _ => ?_) ?_
  · show entW (putE K i x j) ≤ entW (K j)
    unfold putE
    split
    · rename_i e; subst e; omega
    · exact Nat.le_refl _
  · show entW (putE K i x i) < entW (K i)
    unfold putE
    rw [if_pos rfl]
    exact h
theorem hand_le (K : Nat → Ent) (b : Int) (F : Nat → Nat) (hs : (K b.toNat).r = true → Small (K b.toNat).e) : tabW (handE K b F) ≤ tabW K := by
  unfold handE
  split
  · split
    · rename_i hr
      refine putE_le ?_
      unfold entW
      rw [if_pos rfl, if_pos hr]
      show bits' (meetP (K b.toNat).e F) + (if ((K b.toNat).w || !eqP (meetP (K b.toNat).e F) (K b.toNat).e) = true then 1 else 0) ≤ _
      cases he : eqP (meetP (K b.toNat).e F) (K b.toNat).e
      · have hex : ∃ p, p < 62 ∧ meetP (K b.toNat).e F p ≠ (K b.toNat).e p := by
          unfold eqP at he
          obtain ⟨p, hp, hne⟩ := List.all_eq_false.1 he
          exact ⟨p, List.mem_range.1 hp, by simpa using hne⟩
        obtain ⟨p, hp, hne⟩ := hex
        have hlt : bits' (meetP (K b.toNat).e F) < bits' (K b.toNat).e := sumTo_lt 62 p hp (fun i _ => bt_and _ _) (bt_and_lt _ _ (hs hr p hp) hne)
        have : (if ((K b.toNat).w || !false) = true then 1 else 0) ≤ 1 := by split <;> omega
        omega
      · rw [show ((K b.toNat).w || !true) = (K b.toNat).w by simp]
        have hle : bits' (meetP (K b.toNat).e F) ≤ bits' (K b.toNat).e := sumTo_le 62 (fun i _ => bt_and _ _)
        omega
    · rename_i hr
      refine putE_le ?_
      unfold entW
      rw [if_pos rfl, if_neg hr, if_pos rfl]
      have := bitsE_bd F
      show bits' F + 1 ≤ 3287
      omega
  · exact Nat.le_refl _
theorem playP_small {C D : List Ins} {last : Nat} : ∀ (f : Nat) (E : Nat → Nat) (q a : Nat) (r : (Nat → Nat) × Nat), Small E → playP C D last f E q a = some r → Small r.1
  | 0, E, q, a, r, h, hp => by
    simp only [playP] at hp
    rw [← Option.some.inj hp]
    exact h
  | f + 1, E, q, a, r, h, hp => by
    have hpass : ∀ (g : Nat) (E : Nat → Nat) (q : Nat), Small E → Small (passP C g E q).1 := by
      intro g
      induction g with
      | zero => intro E q h; exact h
      | succ g ih =>
        intro E q h
        simp only [passP]
        split
        · split
          · exact ih _ _ (copyReg_small h _ _)
          · exact h
        · exact h
    have hs := hpass C.length E q h
    simp only [playP] at hp
    split at hp
    · split at hp
      · exact playP_small f _ _ _ r (moveP_small hs _) hp
      · split at hp
        · split at hp
          · refine playP_small f _ _ _ r ?_ hp
            unfold wroteP
            split
            · exact hs
            · exact setP_small (loseP_small hs _) _ _
          · cases hp
        · cases hp
    · rw [← Option.some.inj hp]
      exact h
theorem playB_small {C : List Ins} {L : List (Nat × Nat)} {D : List Ins} {M : List (Nat × Nat)} {E F : Nat → Nat} {b : Nat} (h : Small E) (hp : playB C L D M E b = some F) : Small F := by
  unfold playB at hp
  split at hp
  · rename_i hb
    cases hc : playP C D M[b].2 D.length E L[b].1 M[b].1 with
    | none => rw [hc] at hp; cases hp
    | some r =>
      rw [hc] at hp
      simp only [plyEnd] at hp
      split at hp
      · rw [← Option.some.inj hp]
        exact playP_small _ _ _ _ r h hc
      · cases hp
  · cases hp
section
variable {k : Int} {C : List Ins} {L M : List (Nat × Nat)} {H : Int → Int} {lv : Nat → Int → Bool}
/-- what is so of the table while it is filled -/
structure KOk (k : Int) (L : List (Nat × Nat)) (H : Int → Int) (lv : Nat → Int → Bool) (K : Nat → Ent) : Prop where
  z : (K 0).e = startE
  r : ∀ i, (K i).r = true → Small (K i).e ∧ ∃ h : i < L.length, 1 ≤ i → Bas k H (lv L[i].1) (K i).e
  w : ∀ i, (K i).w = true → (K i).r = true
theorem Bas.meet {lq : Int → Bool} {E F : Nat → Nat} (h1 : Bas k H lq E) (h2 : Bas k H lq F) : Bas k H lq (meetP E F) :=
  ⟨fun r hr => (hasP_meet _ _ _ _).2 ⟨h1.1 r hr, h2.1 r hr⟩, fun p hp => (hasP_meet _ _ _ _).2 ⟨h1.2 p hp, h2.2 p hp⟩⟩
theorem KOk.hand {K : Nat → Ent} (h : KOk k L H lv K) (b : Int) (hb : b = -1 ∨ (1 ≤ b ∧ b < L.length)) (F : Nat → Nat) (hs : Small F) (hF : ∀ (h1 : b.toNat < L.length), 1 ≤ b → Bas k H (lv L[b.toNat].1) F) : KOk k L H lv (handE K b F) := by
  unfold handE
  split
  · rename_i hb10
    have hb1 : 1 ≤ b ∧ b < L.length := by omega
    have hbn : b.toNat < L.length := by omega
    split
    · rename_i hr
      refine ⟨?_, fun i hi => ?_, fun i hi => ?_⟩
      · unfold putE; rw [if_neg (by omega)]; exact h.z
      · unfold putE at hi ⊢
        by_cases e : i = b.toNat
        · simp only [if_pos e]
          obtain ⟨s, hh, hB⟩ := h.r _ hr
          refine ⟨meetP_small s _, by omega, fun h1 => ?_⟩
          subst e
          exact (hB (by omega)).meet (hF hh hb1.1)
        · simp only [if_neg e] at hi ⊢
          exact h.r i hi
      · unfold putE at hi ⊢
        by_cases e : i = b.toNat
        · rw [if_pos e]
        · rw [if_neg e] at hi ⊢
          exact h.w i hi
    · refine ⟨?_, fun i hi => ?_, fun i hi => ?_⟩
      · unfold putE; rw [if_neg (by omega)]; exact h.z
      · unfold putE at hi ⊢
        by_cases e : i = b.toNat
        · simp only [if_pos e]
          subst e
          exact ⟨hs, hbn, fun _ => hF hbn hb1.1⟩
        · simp only [if_neg e] at hi ⊢
          exact h.r i hi
      · unfold putE at hi ⊢
        by_cases e : i = b.toNat
        · rw [if_pos e]
        · rw [if_neg e] at hi ⊢
          exact h.w i hi
  · exact h
theorem KOk.put {K : Nat → Ent} (h : KOk k L H lv K) (i : Nat) : KOk k L H lv (putE K i ⟨(K i).r, false, (K i).e⟩) := by
  refine ⟨?_, fun j hj => ?_, fun j hj => ?_⟩
  · unfold putE
    split
    · rename_i e; subst e; exact h.z
    · exact h.z
  · unfold putE at hj ⊢
    by_cases e : j = i
    · simp only [if_pos e] at hj ⊢
      subst e
      exact h.r j hj
    · simp only [if_neg e] at hj ⊢
      exact h.r j hj
  · unfold putE at hj ⊢
    by_cases e : j = i
    · rw [if_pos e] at hj; cases hj
    · rw [if_neg e] at hj ⊢
      exact h.w j hj
/-- what blocks name at their ends -/
def TgtOk (C : List Ins) (L : List (Nat × Nat)) : Prop := ∀ j (h : j < C.length), (C[j].k = -1 ∨ (1 ≤ C[j].k ∧ C[j].k < L.length)) ∧ (C[j].m = -1 ∨ (1 ≤ C[j].m ∧ C[j].m < L.length)) ∧ (C[j].o = 114 → C[j].k = -1 ∧ C[j].m = -1)
theorem acc_ok (h : Homes k C L H lv) (hC : ∀ j (h : j < C.length), InsS C[j]) (hR : RetOk C) (hB : BlkOk C L) (hT : TgtOk C L) (hL0 : ∀ h : 0 < L.length, L[0].1 = 0) (hL10 : L.length ≤ 10) (hM : MOk H k (lv 0) C L M) : ∀ (f : Nat) (K : Nat → Ent), KOk k L H lv K → tabW K < f → accR C L (cmpL H k (lv 0) C) M f K = true
  | 0, _, _, hw => by omega
  | f + 1, K, hK, hw => by
    simp only [accR]
    cases hn : nextB K with
    | none => rfl
    | some i =>
      have hi : i < 10 ∧ (K i).w = true := by
        unfold nextB at hn
        have h1 := List.mem_of_find?_eq_some hn
        have h2 := List.find?_some hn
        exact ⟨List.mem_range.1 h1, h2⟩
      have hr := hK.w i hi.2
      obtain ⟨hsm, hiL, hbas⟩ := hK.r i hr
      obtain ⟨F, hF, hpost⟩ := blk_play h hC hR hB hL0 hM i hiL (K i).e (by
        by_cases e : i = 0
        · subst e; exact Or.inl ⟨rfl, hK.z⟩
        · exact Or.inr ⟨by omega, hbas (by omega)⟩)
      have hlt := hB.lt i hiL
      have hFs := playB_small hsm hF
      have hl : lastI C L i = C[L[i].2] := by
        unfold lastI
        rw [show L.getD i (0, 0) = L[i] by rw [List.getD_eq_getElem?_getD, List.getElem?_eq_getElem hiL]; rfl, List.getD_eq_getElem?_getD, List.getElem?_eq_getElem hlt]
        rfl
      have hp : playK C L (cmpL H k (lv 0) C) M K i = some (handE (handE (putE K i ⟨(K i).r, false, (K i).e⟩) (lastI C L i).k F) (lastI C L i).m F) := by
        unfold playK
        rw [hF]
        rfl
      show (match playK C L (cmpL H k (lv 0) C) M K i with
        | none => false
        | some K' => accR C L (cmpL H k (lv 0) C) M f K') = true
      rw [hp]
      obtain ⟨t1, t2, t3⟩ := hT _ hlt
      rw [hl]
      have hnr : ∀ b : Int, 1 ≤ b → (b = C[L[i].2].k ∨ b = C[L[i].2].m) → ∀ h1 : b.toNat < L.length, Bas k H (lv L[b.toNat].1) F := by
        intro b hb1 hbt h1
        have ho : C[L[i].2].o ≠ 114 := by
          intro e
          have := t3 e
          omega
        refine (hpost hlt ho).keep (fun r hr' => h.jump i hiL hlt b.toNat h1 ?_ r hr') (fun _ _ he => he) (fun _ _ he => he)
        rcases hbt with e | e
        · exact Or.inl (by omega)
        · exact Or.inr (by omega)
      have k1 := hK.put i
      have k2 := k1.hand C[L[i].2].k t1 F hFs (fun h1 h2 => hnr _ h2 (Or.inl rfl) h1)
      have k3 := k2.hand C[L[i].2].m t2 F hFs (fun h1 h2 => hnr _ h2 (Or.inr rfl) h1)
      have w1 : tabW (putE K i ⟨(K i).r, false, (K i).e⟩) < tabW K := by
        refine putE_lt hi.1 ?_
        unfold entW
        rw [if_pos hr, if_pos hr, if_pos hi.2]
        show bits' (K i).e + 0 < bits' (K i).e + 1
        omega
      have w2 := hand_le (putE K i ⟨(K i).r, false, (K i).e⟩) C[L[i].2].k F (fun hr => (k1.r _ hr).1)
      have w3 := hand_le (handE (putE K i ⟨(K i).r, false, (K i).e⟩) C[L[i].2].k F) C[L[i].2].m F (fun hr => (k2.r _ hr).1)
      exact acc_ok h hC hR hB hT hL0 hL10 hM f _ k3 (by omega)
theorem begT_KOk (hL : 0 < L.length) : KOk k L H lv begT := by
  have e : begT = putE (fun _ => noEnt) 0 ⟨true, true, startE⟩ := rfl
  rw [e]
  refine ⟨rfl, fun i hi => ?_, fun i hi => ?_⟩
  · unfold putE at hi ⊢
    by_cases e : i = 0
    · simp only [if_pos e]
      exact ⟨startE_small, by omega, fun h1 => absurd h1 (by omega)⟩
    · rw [if_neg e] at hi; cases hi
  · unfold putE at hi ⊢
    by_cases e : i = 0
    · rw [if_pos e]
    · rw [if_neg e] at hi; cases hi
theorem begT_W : tabW begT < 32871 := by
  have : tabW begT ≤ 10 * 3287 := by
    refine sumTo_bd 10 (fun i _ => ?_)
    show entW (begT i) ≤ 3287
    unfold entW
    split
    · have := bitsE_bd (begT i).e
      split <;> omega
    · exact Nat.le_refl _
  omega
/-- what the compiler lays is accepted -/
theorem cmp_acc (h : Homes k C L H lv) (hC : ∀ j (h : j < C.length), InsS C[j]) (hR : RetOk C) (hB : BlkOk C L) (hT : TgtOk C L) (hL0 : ∀ h : 0 < L.length, L[0].1 = 0) (hLp : 0 < L.length) (hL10 : L.length ≤ 10) (hM : MOk H k (lv 0) C L M) : accB C L (cmpL H k (lv 0) C) M = true := by
  unfold accB
  rw [acc_ok h hC hR hB hT hL0 hL10 hM 32871 begT (begT_KOk hLp) begT_W, hM.len]
  simp
end
end Go.Proofs.YtccndnckceagfabGreatDoorR.Sp

namespace Go.Proofs.YtccndnckceagfabGreatDoorR.Sp

/-! ### Counting instructions of a kind -/
def cntI (f : Ins → Bool) (X : List Ins) (n : Nat) : Nat := (X.take n).countP f
theorem cnt_succ (f : Ins → Bool) (X : List Ins) (n : Nat) (h : n < X.length) : cntI f X (n + 1) = cntI f X n + (if f X[n] = true then 1 else 0) := by
  unfold cntI
  rw [List.take_succ_eq_append_getElem h, List.countP_append, List.countP_singleton]
theorem cnt_mono (f : Ins → Bool) (X : List Ins) {n m : Nat} (h : n ≤ m) : cntI f X n ≤ cntI f X m := by
  unfold cntI
  exact List.Sublist.countP_le ((List.take_prefix_take_left h).sublist)
theorem cnt_inj {f : Ins → Bool} {X : List Ins} {a b : Nat} (ha : a < X.length) (hb : b < X.length) (fa : f X[a] = true) (fb : f X[b] = true) (h : cntI f X a = cntI f X b) : a = b := by
  have key : ∀ {a b : Nat} (ha : a < X.length), f X[a] = true → cntI f X a = cntI f X b → ¬ a < b := by
    intro a b ha fa h hlt
    have h1 := cnt_mono f X (show a + 1 ≤ b from hlt)
    rw [cnt_succ f X a ha, if_pos fa] at h1
    omega
  have k1 := key (b := b) ha fa h
  have k2 := key (b := a) hb fb h.symm
  omega
theorem countP_flat (f g : Ins → Bool) (φ : Ins → List Ins) : ∀ X : List Ins, (∀ i ∈ X, (φ i).countP f = if g i = true then 1 else 0) → (X.flatMap φ).countP f = X.countP g
  | [], _ => rfl
  | i :: X, h => by
    rw [List.flatMap_cons, List.countP_append, h i (by simp), countP_flat f g φ X (fun j hj => h j (by simp [hj])), List.countP_cons]
    omega
theorem countP_none {f : Ins → Bool} {X : List Ins} (h : ∀ i ∈ X, f i = false) : X.countP f = 0 := by
  rw [List.countP_eq_zero]
  intro i hi
  rw [h i hi]
  decide
def nmv (i : Ins) : Bool := !(isMv i.o)
def ntm (i : Ins) : Bool := decide (i.o ≠ 61)
theorem mv_nmv {X : List Ins} (h : ∀ i ∈ X, MvOk i) : ∀ i ∈ X, nmv i = false := fun i hi => by
  unfold nmv
  rw [(h i hi).mv]
  rfl
theorem mv_end {X : List Ins} (h : ∀ i ∈ X, MvOk i) : ∀ i ∈ X, endI i = false := fun i hi => mv_notEnd (h i hi).mv

section
variable {k : Int} {C : List Ins} {L M : List (Nat × Nat)} {H : Int → Int} {lv : Nat → Int → Bool}

/-- what is laid for an instruction: moves, the one that stands for it, moves -/
theorem fol_form (h : Homes k C L H lv) (hC : ∀ j (h : j < C.length), InsS C[j]) (q : Nat) (hq : q < C.length) :
    (C[q].o = 61 ∧ (∀ i ∈ fol H k C[q], MvOk i) ∧ (fol H k C[q]).length ≤ 2) ∨
    (C[q].o ≠ 61 ∧ ∃ s i t, fol H k C[q] = s ++ i :: t ∧ (∀ j ∈ s, MvOk j) ∧ (∀ j ∈ t, MvOk j) ∧ i.o = C[q].o ∧ (endB C[q].o = true → t = []) ∧ (C[q].o ≠ 114 → s.length ≤ 2 ∧ t.length ≤ 1) ∧ s.length ≤ 63) := by
  obtain ⟨rd, rx, ry⟩ := h.regs hC q hq
  have hk := h.k6
  have mvl : ∀ a b : Int, (mvL a b).length ≤ 1 := by
    intro a b
    unfold mvL
    split <;> simp
  have ftl : ∀ a b : Int, (ftL H a b).length ≤ 1 := by
    intro a b
    unfold ftL
    split
    · exact mvl _ _
    · simp
  have brl : ∀ a b : Int, (brgL H k a b).length ≤ 2 := by
    intro a b
    unfold brgL
    split
    · simp
    · rw [List.length_append]
      have := ftl b (rch k a)
      have := mvl a (ftP H b (rch k a))
      omega
  by_cases h61 : C[q].o = 61
  · refine Or.inl ⟨h61, ?_⟩
    obtain ⟨fd, fx, _⟩ := (hC q hq).f.two (Or.inl h61)
    have hd : 0 ≤ C[q].d ∧ C[q].d < 52 ∧ H C[q].d ≠ -1 := by
      rcases rd with e | e
      · have := fd.1; omega
      · exact e
    have hx : 0 ≤ C[q].x ∧ C[q].x < 52 ∧ H C[q].x ≠ -1 := by
      rcases rx with e | e
      · have := fx.1; omega
      · exact e
    have ef : fol H k C[q] = brgL H k (H C[q].d) C[q].x := by unfold fol; rw [if_pos h61]
    rw [ef]
    exact ⟨brgL_ok h (h.home3 hd) hx, brl _ _⟩
  refine Or.inr ⟨h61, ?_⟩
  by_cases h114 : C[q].o = 114
  · obtain ⟨fd, fx, fy⟩ := (hC q hq).f.ret h114
    have hx : 0 ≤ C[q].x ∧ C[q].x < 52 ∧ H C[q].x ≠ -1 := by
      rcases rx with e | e
      · have := fx.1; omega
      · exact e
    refine ⟨endM H k C[q].x, retI, [], by unfold fol; rw [if_neg h61, if_pos h114], ?_, (fun j hj => by cases hj), h114.symm, fun _ => rfl, fun hne => absurd h114 hne, ?_⟩
    · intro i hi
      unfold endM at hi
      rcases List.mem_append.1 hi with hi | hi
      · exact brgL_ok h (by omega) hx i hi
      · exact clr_mv h i hi
    · unfold endM
      rw [List.length_append, List.length_append]
      have h1 := brl 0 C[q].x
      have h2 : (clrR k).length = k.toNat - 1 := by simp [clrR]
      have h3 : (clrS H).length ≤ 52 := by
        unfold clrS
        rw [List.length_map]
        have := List.length_filter_le (fun (r : Nat) => decide (10 ≤ H (r : Int))) (List.range 52)
        rw [List.length_range] at this
        exact this
      omega
  · refine ⟨ftL H C[q].x (k - 2) ++ ftL H C[q].y (k - 1), wrkI H k C[q], mvL (H C[q].d) (rch k (H C[q].d)), by unfold fol wrkL; rw [if_neg h61, if_neg h114], ?_, ?_, rfl, ?_, fun _ => ⟨?_, mvl _ _⟩, ?_⟩
    · intro i hi
      rcases List.mem_append.1 hi with hi | hi
      · exact ftL_ok h (Or.inl rfl) rx i hi
      · exact ftL_ok h (Or.inr (Or.inl rfl)) ry i hi
    · rcases rd with e | e
      · rw [e, h.none]
        intro i hi
        cases hi
      · have hp := (h.pl e.1 e.2.1 e.2.2).1
        refine mvL_ok _ _ hp ?_
        unfold rch
        split <;> omega
    · intro hend
      have hd : C[q].d = -1 := by
        have hf := (hC q hq).f
        simp only [endB, Bool.or_eq_true, beq_iff_eq] at hend
        rcases hend with (e | e) | e
        · exact (hf.jmp e).1
        · exact (hf.cnd e).1
        · exact absurd e h114
      rw [hd, h.none]
      rfl
    · rw [List.length_append]
      have := ftl C[q].x (k - 2)
      have := ftl C[q].y (k - 1)
      omega
    · rw [List.length_append]
      have := ftl C[q].x (k - 2)
      have := ftl C[q].y (k - 1)
      omega
theorem fol_nmv (h : Homes k C L H lv) (hC : ∀ j (h : j < C.length), InsS C[j]) : ∀ i ∈ C, (fol H k i).countP nmv = if ntm i = true then 1 else 0 := by
  intro i hi
  obtain ⟨q, hq, rfl⟩ := List.getElem_of_mem hi
  rcases fol_form h hC q hq with ⟨h61, hm, _⟩ | ⟨h61, s, j, t, e, hs, ht, ho, _⟩
  · rw [countP_none (mv_nmv hm), if_neg (by simp [ntm, h61])]
  · have hj : nmv j = true := by
      unfold nmv isMv
      have := (hC q hq).no
      rw [ho]
      simp only [Bool.not_eq_true', Bool.or_eq_false_iff, beq_eq_false_iff_ne]
      omega
    rw [e, List.countP_append, List.countP_cons, countP_none (mv_nmv hs), countP_none (mv_nmv ht), if_pos hj, if_pos (by simp [ntm, h61])]
theorem fol_end (h : Homes k C L H lv) (hC : ∀ j (h : j < C.length), InsS C[j]) : ∀ i ∈ C, (fol H k i).countP endI = if endI i = true then 1 else 0 := by
  intro i hi
  obtain ⟨q, hq, rfl⟩ := List.getElem_of_mem hi
  rcases fol_form h hC q hq with ⟨h61, hm, _⟩ | ⟨h61, s, j, t, e, hs, ht, ho, _⟩
  · rw [countP_none (mv_end hm), if_neg (by unfold endI; rw [h61]; decide)]
  · rw [e, List.countP_append, List.countP_cons, countP_none (mv_end hs), countP_none (mv_end ht)]
    unfold endI
    rw [ho]
    omega
theorem cmpL_take (H : Int → Int) (k : Int) (lv : Int → Bool) (C : List Ins) (q : Nat) : (cmpL H k lv C).take (posL H k lv C q) = begL H lv ++ (C.take q).flatMap (fol H k) := by
  rw [cmpL_cut H k lv C q 0, show posL H k lv C q = (begL H lv ++ (C.take q).flatMap (fol H k)).length by rw [List.length_append]; rfl, List.take_left]
theorem cntI_pos (f g : Ins → Bool) (hb : (begL H (lv 0)).countP f = 0) (hf : ∀ i ∈ C, (fol H k i).countP f = if g i = true then 1 else 0) (q : Nat) : cntI f (cmpL H k (lv 0) C) (posL H k (lv 0) C q) = cntI g C q := by
  unfold cntI
  rw [cmpL_take, List.countP_append, hb, countP_flat f g _ _ (fun i hi => hf i (List.mem_of_mem_take hi))]
  omega
theorem nmv_pos (h : Homes k C L H lv) (hC : ∀ j (h : j < C.length), InsS C[j]) (q : Nat) : cntI nmv (cmpL H k (lv 0) C) (posL H k (lv 0) C q) = cntI ntm C q :=
  cntI_pos nmv ntm (countP_none (mv_nmv (begL_mv h))) (fol_nmv h hC) q
theorem end_pos (h : Homes k C L H lv) (hC : ∀ j (h : j < C.length), InsS C[j]) (q : Nat) : cntI endI (cmpL H k (lv 0) C) (posL H k (lv 0) C q) = cntI endI C q :=
  cntI_pos endI endI (countP_none (mv_end (begL_mv h))) (fol_end h hC) q
theorem cnt_moves (f : Ins → Bool) (X : List Ins) : ∀ (s : List Ins) (a : Nat), LieAt X a s → (∀ i ∈ s, f i = false) → cntI f X (a + s.length) = cntI f X a
  | [], _, _, _ => rfl
  | i :: s, a, hl, hs => by
    obtain ⟨h1, h2⟩ := hl.head
    rw [List.length_cons, show a + (s.length + 1) = (a + 1) + s.length by omega, cnt_moves f X s (a + 1) hl.tail (fun j hj => hs j (by simp [hj])), cnt_succ f X a h1, h2, hs i (by simp)]
    simp
theorem begL_len (H : Int → Int) (lv : Int → Bool) : (begL H lv).length ≤ 4 := by
  have ba : ∀ n, (begA H lv n).length ≤ 1 := by
    intro n
    unfold begA
    split
    · unfold mvL
      split <;> simp
    · simp
  unfold begL
  rw [List.length_append, List.length_append, List.length_append]
  have := ba 0
  have := ba 1
  have := ba 2
  have := ba 3
  omega
/-- where what stands for an instruction lies -/
theorem op_at (h : Homes k C L H lv) (hC : ∀ j (h : j < C.length), InsS C[j]) (q : Nat) (hq : q < C.length) (h61 : C[q].o ≠ 61) (a : Nat) (ha : a < (cmpL H k (lv 0) C).length) (hm : isMv (cmpL H k (lv 0) C)[a].o = false) (hJ : cntI ntm C q = cntI nmv (cmpL H k (lv 0) C) a) :
    posL H k (lv 0) C q ≤ a ∧ a + 1 ≤ posL H k (lv 0) C (q + 1) ∧ a + 1 ≤ posL H k (lv 0) C q + (if C[q].o = 114 then 64 else 3) := by
  rcases fol_form h hC q hq with ⟨h61', _⟩ | ⟨_, s, i, t, e, hs, ht, ho, _, hlen, hlen'⟩
  · exact absurd h61' h61
  have hlie := cmpL_lie H k (lv 0) C q 1
  rw [List.drop_eq_getElem_cons hq, show (1 : Nat) = 0 + 1 from rfl, List.take_succ_cons, List.take_zero, List.flatMap_cons, List.flatMap_nil, List.append_nil, e] at hlie
  obtain ⟨x1, x2⟩ := hlie.right.head
  have hc := cnt_moves nmv (cmpL H k (lv 0) C) s _ hlie.left (mv_nmv hs)
  rw [nmv_pos h hC] at hc
  have hi : nmv (cmpL H k (lv 0) C)[posL H k (lv 0) C q + s.length] = true := by
    rw [x2]
    unfold nmv isMv
    have := (hC q hq).no
    rw [ho]
    simp only [Bool.not_eq_true', Bool.or_eq_false_iff, beq_eq_false_iff_ne]
    omega
  have hae : a = posL H k (lv 0) C q + s.length := cnt_inj ha x1 (by unfold nmv; rw [hm]; rfl) hi (by rw [hc, hJ])
  have hsu := posL_succ H k (lv 0) C q hq
  rw [e, List.length_append, List.length_cons] at hsu
  refine ⟨by omega, by omega, ?_⟩
  split
  · omega
  · rename_i hne
    have := (hlen hne).1
    omega
theorem posL_four (h : Homes k C L H lv) (hC : ∀ j (h : j < C.length), InsS C[j]) (b q : Nat) : ∀ n, q = b + n → q ≤ C.length → (∀ i (h : i < C.length), b ≤ i → i < q → C[i].o ≠ 114) → posL H k (lv 0) C q ≤ posL H k (lv 0) C b + 4 * n := by
  intro n
  induction n generalizing q with
  | zero =>
    intro e _ _
    subst e
    omega
  | succ n ih =>
    intro e hq hi
    subst e
    have hb : b + n < C.length := by omega
    have h1 := ih (b + n) rfl (by omega) (fun i h1 h2 h3 => hi i h1 h2 (by omega))
    have h2 := posL_succ H k (lv 0) C (b + n) hb
    have h3 := hi (b + n) hb (by omega) (by omega)
    have h4 : (fol H k C[b + n]).length ≤ 4 := by
      rcases fol_form h hC (b + n) hb with ⟨_, _, hl⟩ | ⟨_, s, i, t, e, _, _, _, _, hl, _⟩
      · omega
      · rw [e, List.length_append, List.length_cons]
        have := hl h3
        omega
    rw [show b + (n + 1) = b + n + 1 by omega]
    omega
/-- a run of what is laid -/
theorem cmp_play (h : Homes k C L H lv) (hC : ∀ j (h : j < C.length), InsS C[j]) (hB : BlkOk C L) (hM : MOk H k (lv 0) C L M) (hL0 : ∀ h : 0 < L.length, L[0].1 = 0)
    (hMac : ∀ j (h : j < (cmpL H k (lv 0) C).length), InsM k (cmpL H k (lv 0) C)[j]) (hBM : BlkOk (cmpL H k (lv 0) C) M)
    (htgt : ∀ j (h : j < C.length), (C[j].o = 106 ∨ C[j].o = 63 → 1 ≤ C[j].k ∧ C[j].k < L.length) ∧ (C[j].o = 63 → 1 ≤ C[j].m ∧ C[j].m < L.length))
    (G : Nat → Option (Nat → Nat)) (hG : ∀ b E, G b = some E → ∃ F, playB C L (cmpL H k (lv 0) C) M E b = some F ∧ ∀ (hb : b < L.length) (h2 : L[b].2 < C.length) (s : Nat), (((s : Int) = C[L[b].2].k) ∨ ((s : Int) = C[L[b].2].m)) → ∃ Es, G s = some Es ∧ ∀ v p, hasP Es v p = true → hasP F v p = true) :
    Play k C L (cmpL H k (lv 0) C) M G (fun q a => cntI ntm C q = cntI nmv (cmpL H k (lv 0) C) a) 4 4 60 := by
  refine ⟨h.k6.2, hM.len.symm, hB, hBM, hC, hMac, htgt, hG, ?_, ?_, ?_, ?_, ?_⟩
  · intro b hb hb'
    show cntI ntm C L[b].1 = cntI nmv (cmpL H k (lv 0) C) M[b].1
    by_cases e : b = 0
    · subst e
      rw [hL0 hb, hM.fst0 hb']
      rfl
    · rw [hM.fst b hb' hb (by omega), nmv_pos h hC]
  · intro q a hq hJ ho
    show cntI ntm C (q + 1) = _
    rw [cnt_succ ntm C q hq, if_neg (by simp [ntm, ho])]
    exact hJ
  · intro q a ha hJ hm
    show _ = cntI nmv (cmpL H k (lv 0) C) (a + 1)
    rw [cnt_succ nmv _ a ha, if_neg (by simp [nmv, hm])]
    exact hJ
  · intro q a hq ha hJ ho hm
    show cntI ntm C (q + 1) = cntI nmv (cmpL H k (lv 0) C) (a + 1)
    rw [cnt_succ ntm C q hq, cnt_succ nmv _ a ha, if_pos (by simp [ntm, ho]), if_pos (by simp [nmv, hm])]
    have : cntI ntm C q = cntI nmv (cmpL H k (lv 0) C) a := hJ
    omega
  · intro b q a hb hb' hq ha h1 h2 h3 hJ ho hm
    obtain ⟨o1, o2, o3⟩ := op_at h hC q hq ho a ha hm hJ
    have hlt := hB.lt b hb
    have hqle : q ≤ L[b].2 := by
      by_cases e : q ≤ L[b].2
      · exact e
      · have := posL_le H k (lv 0) C (show L[b].2 + 1 ≤ q by omega)
        have := hM.lst b hb' hb
        omega
    have h4 := posL_four h hC L[b].1 q (q - L[b].1) (by omega) (by omega) (fun i hi h5 h6 => by
      have := hB.inner b hb i hi h5 (by omega)
      intro e
      rw [e] at this
      cases this)
    have hm1 : 4 * (q + 1 - L[b].1) = 4 * (q - L[b].1) + 4 := by omega
    have hs : posL H k (lv 0) C L[b].1 ≤ M[b].1 + (if b = 0 then 4 else 0) := by
      by_cases e : b = 0
      · subst e
        rw [hL0 hb, if_pos rfl]
        have := begL_len H (lv 0)
        unfold posL
        simp
        omega
      · rw [hM.fst b hb' hb (by omega)]
        omega
    have : (if C[q].o = 114 then 64 else 3) ≤ 4 + (if C[q].o = 114 then 60 else 0) := by split <;> omega
    omega
end
end Go.Proofs.YtccndnckceagfabGreatDoorR.Sp

namespace Go.Proofs.YtccndnckceagfabGreatDoorR.Sp

/-- blocks told by counting the instructions that end one -/
structure BIs (X : List Ins) (L : List (Nat × Nat)) : Prop where
  len : L.length = cntI endI X X.length
  eq : ∀ b (h : b < L.length), cntI endI X L[b].1 = b
  mn : ∀ b (h : b < L.length) m, m < L[b].1 → cntI endI X m < b
  le : ∀ b (h : b < L.length), L[b].1 ≤ L[b].2
  lt : ∀ b (h : b < L.length), L[b].2 < X.length
  ends : ∀ b (h : b < L.length) (h2 : L[b].2 < X.length), endB X[L[b].2].o = true
  inner : ∀ b (h : b < L.length) i (h2 : i < X.length), L[b].1 ≤ i → i < L[b].2 → endB X[i].o = false
  at' : ∀ b (h : b < L.length), cntI endI X L[b].2 = b
theorem BIs.blk {X : List Ins} {L : List (Nat × Nat)} (h : BIs X L) : BlkOk X L := ⟨h.le, h.lt, h.ends, h.inner⟩
theorem BIs.zero {X : List Ins} {L : List (Nat × Nat)} (h : BIs X L) : ∀ h0 : 0 < L.length, L[0].1 = 0 := by
  intro h0
  by_cases e : L[0].1 = 0
  · exact e
  · exact absurd (h.mn 0 h0 0 (by omega)) (by omega)
section
variable {k : Int} {C : List Ins} {L M : List (Nat × Nat)} {H : Int → Int} {lv : Nat → Int → Bool}
/-- the last of what is laid for an instruction that ends a block -/
theorem end_at (h : Homes k C L H lv) (hC : ∀ j (h : j < C.length), InsS C[j]) (q : Nat) (hq : q < C.length) (hend : endB C[q].o = true) :
    ∃ (a : Nat) (ha : a < (cmpL H k (lv 0) C).length), a + 1 = posL H k (lv 0) C (q + 1) ∧ endI (cmpL H k (lv 0) C)[a] = true ∧ cntI endI (cmpL H k (lv 0) C) a = cntI endI C q := by
  rcases fol_form h hC q hq with ⟨h61, _⟩ | ⟨_, s, i, t, e, hs, ht, ho, ht', _⟩
  · rw [h61] at hend; cases hend
  rw [ht' hend] at e
  have hlie := cmpL_lie H k (lv 0) C q 1
  rw [List.drop_eq_getElem_cons hq, show (1 : Nat) = 0 + 1 from rfl, List.take_succ_cons, List.take_zero, List.flatMap_cons, List.flatMap_nil, List.append_nil, e] at hlie
  obtain ⟨x1, x2⟩ := hlie.right.head
  have hc := cnt_moves endI (cmpL H k (lv 0) C) s _ hlie.left (mv_end hs)
  rw [end_pos h hC] at hc
  have hsu := posL_succ H k (lv 0) C q hq
  rw [e, List.length_append, List.length_singleton] at hsu
  exact ⟨_, x1, by omega, by rw [x2]; unfold endI; rw [ho]; exact hend, hc⟩
theorem cmp_blocks (h : Homes k C L H lv) (hC : ∀ j (h : j < C.length), InsS C[j]) (hL : BIs C L) (hM : BIs (cmpL H k (lv 0) C) M) : MOk H k (lv 0) C L M := by
  have hlen : M.length = L.length := by rw [hM.len, hL.len, ← posL_end, end_pos h hC]
  refine ⟨hlen, hM.zero, fun b hb hb' h1 => ?_, fun b hb hb' => ?_⟩
  · have e1 := hL.eq b hb'
    have e2 := hM.eq b hb
    have e3 : cntI endI (cmpL H k (lv 0) C) (posL H k (lv 0) C L[b].1) = b := by rw [end_pos h hC, e1]
    have hle : M[b].1 ≤ posL H k (lv 0) C L[b].1 := by
      by_cases hlt : posL H k (lv 0) C L[b].1 < M[b].1
      · have := hM.mn b hb _ hlt
        omega
      · omega
    have hpos : 1 ≤ L[b].1 := by
      by_cases e : L[b].1 = 0
      · rw [e] at e1
        have : cntI endI C 0 = 0 := rfl
        omega
      · omega
    have hq : L[b].1 - 1 < C.length := by
      have := hL.le b hb'
      have := hL.lt b hb'
      omega
    have hend : endB C[L[b].1 - 1].o = true := by
      have h2 := cnt_succ endI C (L[b].1 - 1) hq
      rw [show L[b].1 - 1 + 1 = L[b].1 by omega, e1] at h2
      have h3 := hL.mn b hb' (L[b].1 - 1) (by omega)
      cases he : endB C[L[b].1 - 1].o
      · rw [if_neg (by unfold endI; rw [he]; decide)] at h2
        omega
      · rfl
    obtain ⟨a, ha, h2, h3, h4⟩ := end_at h hC _ hq hend
    rw [show L[b].1 - 1 + 1 = L[b].1 by omega] at h2
    have h5 := hL.mn b hb' (L[b].1 - 1) (by omega)
    by_cases hlt : M[b].1 ≤ a
    · have := cnt_mono endI (cmpL H k (lv 0) C) hlt
      omega
    · omega
  · obtain ⟨a, ha, h2, h3, h4⟩ := end_at h hC _ (hL.lt b hb') (hL.ends b hb' (hL.lt b hb'))
    have hl := hM.lt b hb
    have := cnt_inj hl ha (hM.ends b hb hl) h3 (by rw [hM.at' b hb, h4, hL.at' b hb'])
    omega
/-- its length -/
theorem cmp_len (h : Homes k C L H lv) (hC : ∀ j (h : j < C.length), InsS C[j]) (hL10 : cntI endI C C.length ≤ 10) (hC64 : C.length ≤ 64) : (cmpL H k (lv 0) C).length ≤ 1000 := by
  have key : ∀ n, n ≤ C.length → posL H k (lv 0) C n ≤ 4 + 4 * n + 60 * cntI endI C n := by
    intro n
    induction n with
    | zero =>
      intro _
      have := begL_len H (lv 0)
      unfold posL
      simp
      omega
    | succ n ih =>
      intro hn
      have h1 := ih (by omega)
      have hq : n < C.length := by omega
      rw [posL_succ H k (lv 0) C n hq, cnt_succ endI C n hq]
      rcases fol_form h hC n hq with ⟨_, _, hl⟩ | ⟨_, s, i, t, e, _, _, _, ht, hl, hl'⟩
      · omega
      · rw [e, List.length_append, List.length_cons]
        by_cases h114 : C[n].o = 114
        · have hend : endB C[n].o = true := by rw [h114]; rfl
          rw [if_pos (show endI C[n] = true from hend), ht hend]
          simp
          omega
        · have := hl h114
          omega
  have := key C.length (Nat.le_refl _)
  rw [posL_end] at this
  omega
end
end Go.Proofs.YtccndnckceagfabGreatDoorR.Sp

namespace Go.Proofs.YtccndnckceagfabGreatDoorR.Sp

def RK (k : Int) : Int := if k = 0 then 52 else k
theorem form_insF {k : Int} (hk : 0 ≤ k) (hk10 : k ≤ 10) {o a b d : Int} {i : Ins} (h : Form k o a b d i) : InsF (RK k) i := by
  have R0 : ∀ c, regB c k = true → Rg (RK k) (rgK k c) := by
    intro c hc
    unfold regB at hc
    unfold RK rgK Rg
    by_cases e : k = 0
    · rw [if_pos e] at hc ⊢
      rw [if_pos e]
      have h1 := rg_let c
      rw [hc, bne_iff_ne] at h1
      have := rgO_bd c
      omega
    · rw [if_neg e] at hc ⊢
      rw [if_neg e]
      simp only [Bool.and_eq_true, decide_eq_true_eq] at hc
      have := dg_of' hc.1
      have hd := hc.1
      simp only [digB, decide_eq_true_eq] at hd
      rw [if_neg (by omega)]
      omega
  have R62 : ∀ c, regB c k = true → 0 ≤ rgK k c ∧ rgK k c < 62 := by
    intro c hc
    have := R0 c hc
    unfold Rg RK at this
    split at this <;> omega
  have S0 : ∀ c, letB c = true → 10 ≤ slO c ∧ slO c < 62 := by
    intro c hc
    have h1 := rg_let c
    rw [hc, bne_iff_ne] at h1
    have := rgO_bd c
    unfold slO
    rw [if_neg h1]
    omega
  cases h with
  | ar ho ha hb hd =>
    have hv := arith_ops ho
    exact ⟨(Or.inl ho), (fun _ => ⟨R0 _ ha, R0 _ hb, R0 _ hd⟩), (fun h => by have h : o = 35 := h; omega), (fun h => by have h : o = 61 ∨ o = 108 ∨ o = 76 := h; omega), (fun h => by have h : o = 115 ∨ o = 83 := h; omega), (fun h => by have h : o = 106 := h; omega), (fun h => by have h : o = 63 := h; omega), (fun h => by have h : o = 114 := h; omega), (fun h => by have h : o = 62 := h; omega), (fun h => by have h : o = 60 := h; omega), (fun h => by have h : o = 126 := h; omega)⟩
  | num ho ha _ _ =>
    exact ⟨(by show arithB o = true ∨ o = 35 ∨ o = 61 ∨ o = 108 ∨ o = 76 ∨ o = 115 ∨ o = 83 ∨ o = 106 ∨ o = 63 ∨ o = 114 ∨ o = 62 ∨ o = 60 ∨ o = 126; exact Or.inr (by omega)), (fun h => by have := arith_ops (show arithB o = true from h); omega), (fun _ => ⟨R0 _ ha, rfl, rfl⟩), (fun h => by have h : o = 61 ∨ o = 108 ∨ o = 76 := h; omega), (fun h => by have h : o = 115 ∨ o = 83 := h; omega), (fun h => by have h : o = 106 := h; omega), (fun h => by have h : o = 63 := h; omega), (fun h => by have h : o = 114 := h; omega), (fun h => by have h : o = 62 := h; omega), (fun h => by have h : o = 60 := h; omega), (fun h => by have h : o = 126 := h; omega)⟩
  | two ho ha hb =>
    exact ⟨(by show arithB o = true ∨ o = 35 ∨ o = 61 ∨ o = 108 ∨ o = 76 ∨ o = 115 ∨ o = 83 ∨ o = 106 ∨ o = 63 ∨ o = 114 ∨ o = 62 ∨ o = 60 ∨ o = 126; exact Or.inr (by omega)), (fun h => by have := arith_ops (show arithB o = true from h); omega), (fun h => by have h : o = 35 := h; omega), (fun _ => ⟨R0 _ ha, R0 _ hb, rfl⟩), (fun h => by have h : o = 115 ∨ o = 83 := h; omega), (fun h => by have h : o = 106 := h; omega), (fun h => by have h : o = 63 := h; omega), (fun h => by have h : o = 114 := h; omega), (fun h => by have h : o = 62 := h; omega), (fun h => by have h : o = 60 := h; omega), (fun h => by have h : o = 126 := h; omega)⟩
  | sto ho ha hb =>
    exact ⟨(by show arithB o = true ∨ o = 35 ∨ o = 61 ∨ o = 108 ∨ o = 76 ∨ o = 115 ∨ o = 83 ∨ o = 106 ∨ o = 63 ∨ o = 114 ∨ o = 62 ∨ o = 60 ∨ o = 126; exact Or.inr (by omega)), (fun h => by have := arith_ops (show arithB o = true from h); omega), (fun h => by have h : o = 35 := h; omega), (fun h => by have h : o = 61 ∨ o = 108 ∨ o = 76 := h; omega), (fun _ => ⟨rfl, R0 _ ha, R0 _ hb⟩), (fun h => by have h : o = 106 := h; omega), (fun h => by have h : o = 63 := h; omega), (fun h => by have h : o = 114 := h; omega), (fun h => by have h : o = 62 := h; omega), (fun h => by have h : o = 60 := h; omega), (fun h => by have h : o = 126 := h; omega)⟩
  | jmp ho _ =>
    exact ⟨(by show arithB o = true ∨ o = 35 ∨ o = 61 ∨ o = 108 ∨ o = 76 ∨ o = 115 ∨ o = 83 ∨ o = 106 ∨ o = 63 ∨ o = 114 ∨ o = 62 ∨ o = 60 ∨ o = 126; exact Or.inr (by omega)), (fun h => by have := arith_ops (show arithB o = true from h); omega), (fun h => by have h : o = 35 := h; omega), (fun h => by have h : o = 61 ∨ o = 108 ∨ o = 76 := h; omega), (fun h => by have h : o = 115 ∨ o = 83 := h; omega), (fun _ => ⟨rfl, rfl, rfl⟩), (fun h => by have h : o = 63 := h; omega), (fun h => by have h : o = 114 := h; omega), (fun h => by have h : o = 62 := h; omega), (fun h => by have h : o = 60 := h; omega), (fun h => by have h : o = 126 := h; omega)⟩
  | cnd ho ha _ _ =>
    exact ⟨(by show arithB o = true ∨ o = 35 ∨ o = 61 ∨ o = 108 ∨ o = 76 ∨ o = 115 ∨ o = 83 ∨ o = 106 ∨ o = 63 ∨ o = 114 ∨ o = 62 ∨ o = 60 ∨ o = 126; exact Or.inr (by omega)), (fun h => by have := arith_ops (show arithB o = true from h); omega), (fun h => by have h : o = 35 := h; omega), (fun h => by have h : o = 61 ∨ o = 108 ∨ o = 76 := h; omega), (fun h => by have h : o = 115 ∨ o = 83 := h; omega), (fun h => by have h : o = 106 := h; omega), (fun _ => ⟨rfl, R0 _ ha, rfl⟩), (fun h => by have h : o = 114 := h; omega), (fun h => by have h : o = 62 := h; omega), (fun h => by have h : o = 60 := h; omega), (fun h => by have h : o = 126 := h; omega)⟩
  | ret ho ha hz =>
    exact ⟨(by show arithB o = true ∨ o = 35 ∨ o = 61 ∨ o = 108 ∨ o = 76 ∨ o = 115 ∨ o = 83 ∨ o = 106 ∨ o = 63 ∨ o = 114 ∨ o = 62 ∨ o = 60 ∨ o = 126; exact Or.inr (by omega)), (fun h => by have := arith_ops (show arithB o = true from h); omega), (fun h => by have h : o = 35 := h; omega), (fun h => by have h : o = 61 ∨ o = 108 ∨ o = 76 := h; omega), (fun h => by have h : o = 115 ∨ o = 83 := h; omega), (fun h => by have h : o = 106 := h; omega), (fun h => by have h : o = 63 := h; omega), (fun _ => ⟨rfl, R0 _ ha, rfl⟩), (fun h => by have h : o = 62 := h; omega), (fun h => by have h : o = 60 := h; omega), (fun h => by have h : o = 126 := h; omega)⟩
  | put _ ho ha hb =>
    exact ⟨(by show arithB o = true ∨ o = 35 ∨ o = 61 ∨ o = 108 ∨ o = 76 ∨ o = 115 ∨ o = 83 ∨ o = 106 ∨ o = 63 ∨ o = 114 ∨ o = 62 ∨ o = 60 ∨ o = 126; exact Or.inr (by omega)), (fun h => by have := arith_ops (show arithB o = true from h); omega), (fun h => by have h : o = 35 := h; omega), (fun h => by have h : o = 61 ∨ o = 108 ∨ o = 76 := h; omega), (fun h => by have h : o = 115 ∨ o = 83 := h; omega), (fun h => by have h : o = 106 := h; omega), (fun h => by have h : o = 63 := h; omega), (fun h => by have h : o = 114 := h; omega), (fun _ => ⟨S0 _ ha, R0 _ hb⟩), (fun h => by have h : o = 60 := h; omega), (fun h => by have h : o = 126 := h; omega)⟩
  | get _ ho ha hb =>
    exact ⟨(by show arithB o = true ∨ o = 35 ∨ o = 61 ∨ o = 108 ∨ o = 76 ∨ o = 115 ∨ o = 83 ∨ o = 106 ∨ o = 63 ∨ o = 114 ∨ o = 62 ∨ o = 60 ∨ o = 126; exact Or.inr (by omega)), (fun h => by have := arith_ops (show arithB o = true from h); omega), (fun h => by have h : o = 35 := h; omega), (fun h => by have h : o = 61 ∨ o = 108 ∨ o = 76 := h; omega), (fun h => by have h : o = 115 ∨ o = 83 := h; omega), (fun h => by have h : o = 106 := h; omega), (fun h => by have h : o = 63 := h; omega), (fun h => by have h : o = 114 := h; omega), (fun h => by have h : o = 62 := h; omega), (fun _ => ⟨R0 _ ha, S0 _ hb⟩), (fun h => by have h : o = 126 := h; omega)⟩
  | clrS _ ho ha =>
    exact ⟨(by show arithB o = true ∨ o = 35 ∨ o = 61 ∨ o = 108 ∨ o = 76 ∨ o = 115 ∨ o = 83 ∨ o = 106 ∨ o = 63 ∨ o = 114 ∨ o = 62 ∨ o = 60 ∨ o = 126; exact Or.inr (by omega)), (fun h => by have := arith_ops (show arithB o = true from h); omega), (fun h => by have h : o = 35 := h; omega), (fun h => by have h : o = 61 ∨ o = 108 ∨ o = 76 := h; omega), (fun h => by have h : o = 115 ∨ o = 83 := h; omega), (fun h => by have h : o = 106 := h; omega), (fun h => by have h : o = 63 := h; omega), (fun h => by have h : o = 114 := h; omega), (fun h => by have h : o = 62 := h; omega), (fun h => by have h : o = 60 := h; omega), (fun _ => ⟨⟨by have := S0 _ ha; show 0 ≤ slO a; omega, (S0 _ ha).2⟩, rfl⟩)⟩
  | clrR _ ho ha =>
    exact ⟨(by show arithB o = true ∨ o = 35 ∨ o = 61 ∨ o = 108 ∨ o = 76 ∨ o = 115 ∨ o = 83 ∨ o = 106 ∨ o = 63 ∨ o = 114 ∨ o = 62 ∨ o = 60 ∨ o = 126; exact Or.inr (by omega)), (fun h => by have := arith_ops (show arithB o = true from h); omega), (fun h => by have h : o = 35 := h; omega), (fun h => by have h : o = 61 ∨ o = 108 ∨ o = 76 := h; omega), (fun h => by have h : o = 115 ∨ o = 83 := h; omega), (fun h => by have h : o = 106 := h; omega), (fun h => by have h : o = 63 := h; omega), (fun h => by have h : o = 114 := h; omega), (fun h => by have h : o = 62 := h; omega), (fun h => by have h : o = 60 := h; omega), (fun _ => ⟨R62 _ ha, rfl⟩)⟩
theorem form_o {k o a b d : Int} {i : Ins} (h : Form k o a b d i) : i.o = o := by cases h <;> rfl
theorem form_S {o a b d : Int} {i : Ins} (h : Form 0 o a b d i) : InsS i := by
  refine ⟨form_insF (Int.le_refl _) (by decide) h, ?_⟩
  have e := form_o h
  cases h with
  | ar ho _ _ _ => have := arith_ops ho; rw [e]; omega
  | num ho _ _ _ => rw [e]; omega
  | two ho _ _ => rw [e]; omega
  | sto ho _ _ => rw [e]; omega
  | jmp ho _ => rw [e]; omega
  | cnd ho _ _ _ => rw [e]; omega
  | ret ho _ _ => rw [e]; omega
  | put hk => exact absurd rfl hk
  | get hk => exact absurd rfl hk
  | clrS hk => exact absurd rfl hk
  | clrR hk => exact absurd rfl hk
theorem form_M {k : Int} (hk : 1 ≤ k) (hk10 : k ≤ 10) {o a b d : Int} {i : Ins} (h : Form k o a b d i) : InsM k i := by
  have hf := form_insF (by omega) hk10 h
  unfold RK at hf
  rw [if_neg (by omega)] at hf
  refine ⟨hf, fun ho => ?_⟩
  have e := form_o h
  rw [e] at ho
  cases h with
  | ar ho' _ _ _ => have := arith_ops ho'; omega
  | num ho' _ _ _ => omega
  | two ho' _ _ => omega
  | sto ho' _ _ => omega
  | jmp ho' _ => omega
  | cnd ho' _ _ _ => omega
  | ret ho' ha hz =>
    have := hz (by omega)
    subst this
    show rgK k 48 = 0
    unfold rgK dgO digB
    rw [if_neg (by omega)]
    simp
    omega
  | put _ ho' => omega
  | get _ ho' => omega
  | clrS _ ho' => omega
  | clrR _ ho' => omega

/-- a text that was read as a program: instructions and blocks -/
structure Rd (k : Int) (t : ByteArray) (C : List Ins) (L : List (Nat × Nat)) : Prop where
  len : C.length = t.size / 4
  c0 : 0 < C.length
  form : ∀ j (h : j < C.length), Form k (B t (4 * j)) (B t (4 * j + 1)) (B t (4 * j + 2)) (B t (4 * j + 3)) C[j]
  o : ∀ j (h : j < C.length), C[j].o = B t (4 * j)
  bis : BIs C L
  l0 : 0 < L.length
  l10 : L.length ≤ 10
  tk : ∀ j (h : j < C.length), isTgt C[j].k L.length = true ∧ isTgt C[j].m L.length = true
theorem cnt_blocks {c : Nat → Int} {C : List Ins} (h : ∀ j (h : j < C.length), C[j].o = c (4 * j)) : ∀ n, n ≤ C.length → cntI endI C n = blocksTo c n
  | 0, _ => rfl
  | n + 1, hn => by
    rw [cnt_succ endI C n (by omega), cnt_blocks h n (by omega)]
    simp only [blocksTo]
    unfold endI
    rw [h n (by omega)]
theorem rd_of (k : Int) (hk : 0 ≤ k) (t : ByteArray) (h : progB (B t) t.size k = true) : Rd k t (codeK k (B t) (t.size / 4)) (blksTo (B t) (t.size / 4)) := by
  obtain ⟨s1, s2, s3, s4⟩ := size_of_progB h
  have hpos := blocks_pos (B t) (t.size / 4) (by omega) s4
  have hd : ∀ i, i < t.size / 4 → dokK k (B t) i = true := by
    intro i hi
    cases hb : dokK k (B t) i
    · have := progK_bad k hk (B t) t.size i hi hb
      rw [h] at this
      cases this
    · rfl
  have hall := progK_all k hk (B t) t.size s1 s2 hd s3 s4
  rw [h] at hall
  have ho : ∀ j (h : j < (codeK k (B t) (t.size / 4)).length), (codeK k (B t) (t.size / 4))[j].o = B t (4 * j) := fun j hj => by rw [codeK_get, insK_o]
  have hcb := cnt_blocks (c := B t) ho
  have hlen := codeK_len k (B t) (t.size / 4)
  have hblk : ∀ b (hb : b < (blksTo (B t) (t.size / 4)).length), BlkIs (B t) (t.size / 4) b (blksTo (B t) (t.size / 4))[b].1 (blksTo (B t) (t.size / 4))[b].2 := by
    intro b hb
    obtain ⟨q, la, e, hq⟩ := (blks_spec (B t) (t.size / 4)).1 b (by rw [← blksTo_len]; exact hb)
    rw [List.getElem?_eq_getElem hb] at e
    rw [Option.some.inj e]
    exact hq
  refine ⟨hlen, by omega, fun j hj => ?_, ho, ⟨?_, ?_, ?_, ?_, ?_, ?_, ?_, ?_⟩, by rw [blksTo_len]; omega, by rw [blksTo_len]; exact s3, fun j hj => ?_⟩
  · rw [codeK_get]
    exact form_of hk (hd j (by omega))
  · rw [blksTo_len, hcb _ (Nat.le_refl _), hlen]
  · intro b hb
    have hq := hblk b hb
    have := hq.le
    have := hq.lt
    rw [hcb _ (by omega)]
    exact hq.fst.eq
  · intro b hb m hm
    have hq := hblk b hb
    have := hq.le
    have := hq.lt
    rw [hcb _ (by omega)]
    exact hq.fst.lt m hm
  · exact fun b hb => (hblk b hb).le
  · exact fun b hb => by rw [hlen]; exact (hblk b hb).lt
  · exact fun b hb h2 => by rw [ho]; exact (hblk b hb).ends
  · exact fun b hb i h2 h3 h4 => by rw [ho]; exact (hblk b hb).inner i h3 h4
  · intro b hb
    have hq := hblk b hb
    have := hq.lt
    rw [hcb _ (by omega)]
    exact hq.at'
  · have hj2 := List.all_eq_true.1 hall.symm _ (List.getElem_mem hj)
    rw [blksTo_len]
    simpa using hj2
theorem Rd.tgt {t : ByteArray} {k : Int} {C : List Ins} {L : List (Nat × Nat)} (h : Rd k t C L) : ∀ j (h : j < C.length), (C[j].o = 106 ∨ C[j].o = 63 → 1 ≤ C[j].k ∧ C[j].k < L.length) ∧ (C[j].o = 63 → 1 ≤ C[j].m ∧ C[j].m < L.length) := by
  intro j hj
  obtain ⟨t1, t2⟩ := h.tk j hj
  unfold isTgt at t1 t2
  simp only [Bool.or_eq_true, Bool.and_eq_true, beq_iff_eq, decide_eq_true_eq] at t1 t2
  have hf := h.form j hj
  have e := form_o hf
  have hdig : ∀ c : Int, digB c = true → 0 ≤ c - 48 := fun c hc => by
    simp only [digB, decide_eq_true_eq] at hc
    omega
  constructor
  · intro ho
    rw [e] at ho
    generalize C[j] = i at *
    cases hf with
    | ar ho' _ _ _ => have := arith_ops ho'; omega
    | num ho' _ _ _ => omega
    | two ho' _ _ => omega
    | sto ho' _ _ => omega
    | jmp ho' ha => have := hdig _ ha; simp only at t1 ⊢; omega
    | cnd ho' _ hb hd => have := hdig _ hb; simp only at t1 ⊢; omega
    | ret ho' _ _ => omega
    | put _ ho' => omega
    | get _ ho' => omega
    | clrS _ ho' => omega
    | clrR _ ho' => omega
  · intro ho
    rw [e] at ho
    generalize C[j] = i at *
    cases hf with
    | ar ho' _ _ _ => have := arith_ops ho'; omega
    | num ho' _ _ _ => omega
    | two ho' _ _ => omega
    | sto ho' _ _ => omega
    | jmp ho' ha => omega
    | cnd ho' _ hb hd => have := hdig _ hd; simp only at t2 ⊢; omega
    | ret ho' _ _ => omega
    | put _ ho' => omega
    | get _ ho' => omega
    | clrS _ ho' => omega
    | clrR _ ho' => omega
theorem Rd.kLt {t : ByteArray} {k : Int} {C : List Ins} {L : List (Nat × Nat)} (h : Rd k t C L) : ∀ j (hj : j < C.length), C[j].k < L.length ∧ C[j].m < L.length := by
  intro j hj
  obtain ⟨t1, t2⟩ := h.tk j hj
  have := h.l0
  unfold isTgt at t1 t2
  simp only [Bool.or_eq_true, Bool.and_eq_true, beq_iff_eq, decide_eq_true_eq] at t1 t2
  omega
/-- what is accepted plays -/
theorem acc_play {s t : ByteArray} {k : Int} (hk : 6 ≤ k ∧ k ≤ 10) {C D : List Ins} {L M : List (Nat × Nat)} (hC : Rd 0 s C L) (hD : Rd k t D M) (h : accB C L D M = true) :
    ∃ G E, G 0 = some E ∧ (∀ v p, hasP E v p = true → hasP startE v p = true) ∧ Play k C L D M G (fun _ _ => True) D.length 0 0 := by
  obtain ⟨hlen, G, ⟨E, g1, g2⟩, hG⟩ := acc_fam h hC.l10 hC.kLt
  refine ⟨G, E, g1, g2, ⟨hk.2, hlen, hC.bis.blk, hD.bis.blk, fun j hj => form_S (hC.form j hj), fun j hj => form_M (by omega) hk.2 (hD.form j hj), hC.tgt, hG, fun _ _ _ => trivial, fun _ _ _ _ _ => trivial, fun _ _ _ _ _ => trivial, fun _ _ _ _ _ _ _ => trivial, ?_⟩⟩
  intro b q a hb hb' hq ha h1 h2 h3 _ _ _
  have hge : D.length * 1 ≤ D.length * (q + 1 - L[b].1) := Nat.mul_le_mul_left _ (by omega)
  omega
theorem stepP_status (F : Int → Int) (m : PSt) (a : Int) (i : Ins) : (stepP F m a i).1.ended = false → (stepP F m a i).1.status = m.status := by
  have hw : ∀ (m : PSt) p v, (wrP m p v).status = m.status := fun m p v => (wrP_all m p v).2.2.2.1
  have hs : ∀ (m : PSt) o p, (sltP m o p).status = m.status := fun m o p => by unfold sltP; split <;> rfl
  unfold stepP
  repeat' split
  all_goals intro h
  all_goals first
    | rfl
    | (exfalso; exact absurd (show true = false from h) (by decide))
    | exact hw _ _ _
    | (show (movP m i).status = m.status; unfold movP; rw [hw, hs, hs])
    | skip
  · revert h
    show (reaP m i).ended = false → (reaP m i).status = m.status
    unfold reaP
    simp only
    repeat' split
    all_goals intro h
    all_goals first
      | (exfalso; exact absurd (show true = false from h) (by decide))
      | exact hw _ _ _
      | rfl
theorem walkP_status (C : List Ins) (F : Int → Int) : ∀ (f : Nat) (m : PSt) (a : Int), (walkP C F f m a).ended = false → (walkP C F f m a).status = m.status
  | 0, _, _, _ => rfl
  | f + 1, m, a, h => by
    simp only [walkP] at h ⊢
    split
    · rfl
    · rename_i hne
      rw [if_neg hne] at h
      split
      · rename_i hb
        rw [dif_pos hb] at h
        rw [walkP_status C F f _ _ h]
        cases he : (stepP F m a (C[a.toNat]'hb.2)).1.ended
        · exact stepP_status F m a _ he
        · rw [walkP_end C F f he] at h
          rw [h] at he
          cases he
      · rfl
end Go.Proofs.YtccndnckceagfabGreatDoorR.Sp

namespace Go.Proofs.YtccndnckceagfabGreatDoorR
/-- the beginnings of both runs -/
theorem beg_rel (I : Sp.Inp) : Sp.RelP Sp.startE (argM I 4) (argK I 4) := by
  have hm : ∀ p, Sp.rdP (argM I 4) p = if p = 27 then I.args 3 else if p = 26 then I.args 2 else if p = 1 then I.args 1 else if p = 0 then I.args 0 else 0 := by
    intro p
    show Sp.rdP (Sp.wrP (Sp.wrP (Sp.wrP (Sp.wrP (bg I) 0 (I.args 0)) 1 (I.args 1)) 26 (I.args 2)) 27 (I.args 3)) p = _
    rw [Sp.rdP_wrP, Sp.rdP_wrP, Sp.rdP_wrP, Sp.rdP_wrP]
    have hb : Sp.rdP (bg I) p = 0 := by unfold Sp.rdP; split <;> rfl
    rw [hb]
    simp
  have hk : ∀ p, Sp.rdP (argK I 4) p = if p = 3 then I.args 3 else if p = 2 then I.args 2 else if p = 1 then I.args 1 else if p = 0 then I.args 0 else 0 := by
    intro p
    show Sp.rdP (Sp.wrP (Sp.wrP (Sp.wrP (Sp.wrP (bg I) 0 (I.args 0)) 1 (I.args 1)) 2 (I.args 2)) 3 (I.args 3)) p = _
    rw [Sp.rdP_wrP, Sp.rdP_wrP, Sp.rdP_wrP, Sp.rdP_wrP]
    have hb : Sp.rdP (bg I) p = 0 := by unfold Sp.rdP; split <;> rfl
    rw [hb]
    simp
  have ra : ∀ (j : Nat), (argM I j).pub = I.pub ∧ (argM I j).sec = I.sec ∧ (argM I j).trace = ⟨#[]⟩ ∧ (argM I j).status = 2 ∧ (argM I j).value = 0 ∧ (argM I j).ended = false := by
    intro j
    induction j with
    | zero => exact ⟨rfl, rfl, rfl, rfl, rfl, rfl⟩
    | succ j ih =>
      obtain ⟨a1, a2, a3, a4, a5, a6⟩ := Sp.wrP_all (argM I j) (argP j) (I.args j)
      obtain ⟨b1, b2, b3, b4, b5, b6⟩ := ih
      exact ⟨a1.trans b1, a2.trans b2, a3.trans b3, a4.trans b4, a5.trans b5, a6.trans b6⟩
  have rk : ∀ (j : Nat), (argK I j).pub = I.pub ∧ (argK I j).sec = I.sec ∧ (argK I j).trace = ⟨#[]⟩ ∧ (argK I j).status = 2 ∧ (argK I j).value = 0 ∧ (argK I j).ended = false := by
    intro j
    induction j with
    | zero => exact ⟨rfl, rfl, rfl, rfl, rfl, rfl⟩
    | succ j ih =>
      obtain ⟨a1, a2, a3, a4, a5, a6⟩ := Sp.wrP_all (argK I j) j (I.args j)
      obtain ⟨b1, b2, b3, b4, b5, b6⟩ := ih
      exact ⟨a1.trans b1, a2.trans b2, a3.trans b3, a4.trans b4, a5.trans b5, a6.trans b6⟩
  obtain ⟨b1, b2, b3, b4, b5, b6⟩ := ra 4
  obtain ⟨c1, c2, c3, c4, c5, c6⟩ := rk 4
  refine ⟨?_, by rw [b1, c1], by rw [b2, c2], ?_, by rw [b4, c4], by rw [b5, c5], b6, c6⟩
  · intro v p hv
    rw [Sp.hasP_start] at hv
    obtain ⟨hp, rfl⟩ := hv
    rw [hk]
    unfold Sp.valP
    rw [hm]
    by_cases e0 : p = 0
    · subst e0; rfl
    by_cases e1 : p = 1
    · subst e1; rfl
    by_cases e2 : p = 2
    · subst e2; rfl
    by_cases e3 : p = 3
    · subst e3; rfl
    rw [if_neg e3, if_neg e2, if_neg e1, if_neg e0]
    have : Sp.begR p.toNat = 52 := by
      unfold Sp.begR
      rw [if_neg (by omega), if_neg (by omega), if_neg (by omega), if_neg (by omega)]
    rw [this, if_pos rfl]
  · intro X
    rw [b3, c3]
    rfl
/-- what is accepted does what the source does -/
theorem sound_run {s t : ByteArray} {k : Int} (hk : 6 ≤ k ∧ k ≤ 10) {C D : List Sp.Ins} {L M : List (Nat × Nat)} (hC : Sp.Rd 0 s C L) (hD : Sp.Rd k t D M) (h : Sp.accB C L D M = true) (I : Sp.Inp) (n : Nat)
    (he : (Sp.walkP C (Sp.strP L) n (argM I 4) 0).ended = true) : Sp.Fin' (Sp.walkP C (Sp.strP L) n (argM I 4) 0) (Sp.walkP D (Sp.strP M) (n * D.length) (argK I 4) 0) := by
  obtain ⟨G, E, g1, g2, P⟩ := Sp.acc_play hk hC hD h
  obtain ⟨t', ht, hfin⟩ := Sp.sim_run P hC.l0 E g1 g2 hC.bis.zero hD.bis.zero n _ _ (beg_rel I) he
  have hle : t' ≤ n * D.length := by rw [Nat.mul_comm]; omega
  obtain ⟨r, hr⟩ : ∃ r, n * D.length = t' + r := ⟨n * D.length - t', by omega⟩
  rw [hr, Sp.walkP_more D _ t' r _ _ hfin.en']
  exact hfin
end Go.Proofs.YtccndnckceagfabGreatDoorR
