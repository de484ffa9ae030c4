/-
  The program's liveness is the document's: plain mathematics.
-/
import Derived.Test.YtccndnckceagfabGreatDoorRHDSpecK
namespace Go.Proofs.YtccndnckceagfabGreatDoorR.Sp

/-- what is live ahead of an instruction, out of what is live behind it -/
def goB (S : Nat → Bool) (i : Ins) : Nat → Bool := fun r => if (r : Int) = i.y then true else if (r : Int) = i.x then true else if (r : Int) = i.d then false else S r
def joinS (S : Nat → Bool) (F : Nat → Nat → Bool) (n : Nat) (b : Int) : Nat → Bool := fun r => S r || (decide (0 ≤ b ∧ b < n) && F b.toNat r)
def noIns : Ins := ⟨0, -1, -1, -1, 0, -1, -1⟩
/-- what comes next within the block -/
def nxS (F : Nat → Nat → Bool) (n a : Nat) (o : Int) : Nat → Bool := if endB o = true then fun _ => false else joinS (fun _ => false) F n ((a : Int) + 1)
/-- what is live ahead of instruction a, out of what is known of the others -/
def laI (C : List Ins) (L : List (Nat × Nat)) (F : Nat → Nat → Bool) (a : Nat) : Nat → Bool :=
  goB (joinS (joinS (nxS F C.length a (C.getD a noIns).o) F C.length (strP L (C.getD a noIns).k)) F C.length (strP L (C.getD a noIns).m)) (C.getD a noIns)
/-- one round: the instructions from the last on, each out of what is known by then; behind j of them -/
def sweep (C : List Ins) (L : List (Nat × Nat)) (F : Nat → Nat → Bool) : Nat → Nat → Nat → Bool
  | 0 => F
  | j + 1 => fun k => if k = C.length - 1 - j then laI C L (sweep C L F j) k else sweep C L F j k
def rounds (C : List Ins) (L : List (Nat × Nat)) : Nat → Nat → Nat → Bool
  | 0 => fun _ _ => false
  | t + 1 => sweep C L (rounds C L t) C.length

/-! ### Blocks -/
structure IsFst (c : Nat → Int) (b q : Nat) : Prop where
  eq : blocksTo c q = b
  lt : ∀ m, m < q → blocksTo c m < b
structure BlkIs (c : Nat → Int) (k b q la : Nat) : Prop where
  fst : IsFst c b q
  le : q ≤ la
  lt : la < k
  ends : endB (c (4 * la)) = true
  inner : ∀ i, q ≤ i → i < la → endB (c (4 * i)) = false
  at' : blocksTo c la = b
def nextQ (c : Nat → Int) (k : Nat) : Nat := ((blksTo c k).getLast?.map (fun b => b.2 + 1)).getD 0
theorem blks_spec (c : Nat → Int) (k : Nat) : (∀ b, b < blocksTo c k → ∃ q la, (blksTo c k)[b]? = some (q, la) ∧ BlkIs c k b q la) ∧ IsFst c (blocksTo c k) (nextQ c k) ∧ nextQ c k ≤ k ∧ ∀ i, nextQ c k ≤ i → i < k → endB (c (4 * i)) = false := by
  induction k with
  | zero => exact ⟨fun b hb => by simp [blocksTo] at hb, ⟨rfl, fun m hm => by simp [nextQ, blksTo] at hm⟩, by simp [nextQ, blksTo], fun i _ hi => by omega⟩
  | succ k ih =>
    obtain ⟨h1, h2, h3, h4⟩ := ih
    cases he : endB (c (4 * k))
    · have e1 : blksTo c (k + 1) = blksTo c k := by simp only [blksTo]; rw [he]; rfl
      have e2 : blocksTo c (k + 1) = blocksTo c k := blocksTo_no c k he
      have e3 : nextQ c (k + 1) = nextQ c k := by unfold nextQ; rw [e1]
      rw [e1, e2, e3]
      refine ⟨fun b hb => ?_, h2, by omega, fun i hi1 hi2 => ?_⟩
      · obtain ⟨q, la, g1, g2⟩ := h1 b hb
        exact ⟨q, la, g1, ⟨g2.fst, g2.le, by have := g2.lt; omega, g2.ends, g2.inner, g2.at'⟩⟩
      · by_cases e : i = k
        · rw [e]; exact he
        · exact h4 i hi1 (by omega)
    · have e1 : blksTo c (k + 1) = blksTo c k ++ [(nextQ c k, k)] := by simp only [blksTo]; rw [if_pos he]; rfl
      have e2 : blocksTo c (k + 1) = blocksTo c k + 1 := blocksTo_yes c k he
      have e3 : nextQ c (k + 1) = k + 1 := by unfold nextQ; rw [e1, List.getLast?_concat]; rfl
      rw [e1, e2, e3]
      refine ⟨fun b hb => ?_, ⟨e2, fun m hm => ?_⟩, Nat.le_refl _, fun i _ _ => by omega⟩
      · by_cases e : b = blocksTo c k
        · subst e
          refine ⟨nextQ c k, k, ?_, ⟨h2, h3, by omega, he, h4, ?_⟩⟩
          · rw [List.getElem?_append_right (by rw [blksTo_len]; exact Nat.le_refl _), blksTo_len, Nat.sub_self]; rfl
          · rfl
        · obtain ⟨q, la, g1, g2⟩ := h1 b (by omega)
          refine ⟨q, la, ?_, ⟨g2.fst, g2.le, by have := g2.lt; omega, g2.ends, g2.inner, g2.at'⟩⟩
          rw [List.getElem?_append_left (by rw [blksTo_len]; omega)]
          exact g1
      · have := blocksTo_mono c (show m ≤ k by omega)
        omega

theorem cnt_le' {S T : Nat → Bool} (n : Nat) (h : ∀ j, j < n → S j = true → T j = true) : cnt T n ≤ cnt S n := by
  induction n with
  | zero => exact Nat.le_refl _
  | succ n ih =>
    have := ih (fun j hj => h j (by omega))
    simp only [cnt]
    by_cases e : S n = true
    · rw [if_pos e, if_pos (h n (by omega) e)]; omega
    · rw [if_neg e]; split <;> omega
theorem cnt_lt' {S T : Nat → Bool} {n j : Nat} (h : ∀ j, j < n → S j = true → T j = true) (hj : j < n) (h0 : S j = false) (h1 : T j = true) : cnt T n < cnt S n := by
  induction n with
  | zero => omega
  | succ n ih =>
    simp only [cnt]
    by_cases e : j = n
    · subst e
      have := cnt_le' j (fun i hi => h i (by omega))
      rw [if_pos h1, h0]
      simp
      omega
    · have := ih (fun i hi => h i (by omega)) (by omega)
      by_cases e : S n = true
      · rw [if_pos e, if_pos (h n (by omega) e)]; omega
      · rw [if_neg e]; split <;> omega
theorem cnt_pos {S : Nat → Bool} {n j : Nat} (hj : j < n) (h0 : S j = false) : 1 ≤ cnt S n := by
  induction n with
  | zero => omega
  | succ n ih =>
    simp only [cnt]
    by_cases e : j = n
    · subst e; rw [h0]; simp
    · have := ih (by omega); omega

/-! ### One register: rounds over Bools -/
section
variable (rd wr nd : Nat → Bool) (K M : Nat → Int) (n : Nat)
def jn (f : Nat → Bool) (b : Int) : Bool := decide (0 ≤ b ∧ b < n) && f b.toNat
def st1 (f : Nat → Bool) (a : Nat) : Bool := rd a || (!(wr a) && ((!(nd a) && jn n f ((a : Int) + 1)) || jn n f (K a) || jn n f (M a)))
def s1 (f : Nat → Bool) : Nat → Nat → Bool
  | 0 => f
  | j + 1 => fun k => if k = n - 1 - j then st1 rd wr nd K M n (s1 f j) k else s1 f j k
def r1 : Nat → Nat → Bool
  | 0 => fun _ => false
  | t + 1 => s1 rd wr nd K M n (r1 t) n
end
section
variable {rd wr nd : Nat → Bool} {K M : Nat → Int} {n : Nat}
theorem jn_mono {f g : Nat → Bool} (h : ∀ b, b < n → f b = true → g b = true) {b : Int} (hj : jn n f b = true) : jn n g b = true := by
  simp only [jn, Bool.and_eq_true, decide_eq_true_eq] at hj ⊢
  exact ⟨hj.1, h _ (by omega) hj.2⟩
theorem jn_congr {f g : Nat → Bool} {b : Int} (h : 0 ≤ b → b < n → f b.toNat = g b.toNat) : jn n f b = jn n g b := by
  unfold jn
  by_cases hb : 0 ≤ b ∧ b < n
  · rw [h hb.1 hb.2]
  · simp [hb]
theorem st1_mono {f g : Nat → Bool} (h : ∀ b, b < n → f b = true → g b = true) (a : Nat) (hj : st1 rd wr nd K M n f a = true) : st1 rd wr nd K M n g a = true := by
  simp only [st1, Bool.or_eq_true, Bool.and_eq_true] at hj ⊢
  rcases hj with hj | ⟨h1, (⟨h2, h3⟩ | h2) | h2⟩
  · exact Or.inl hj
  · exact Or.inr ⟨h1, Or.inl (Or.inl ⟨h2, jn_mono h h3⟩)⟩
  · exact Or.inr ⟨h1, Or.inl (Or.inr (jn_mono h h2))⟩
  · exact Or.inr ⟨h1, Or.inr (jn_mono h h2)⟩
theorem st1_congr {f g : Nat → Bool} (a : Nat) (h1 : a + 1 < n → f (a + 1) = g (a + 1)) (h2 : 0 ≤ K a → K a < n → f (K a).toNat = g (K a).toNat) (h3 : 0 ≤ M a → M a < n → f (M a).toNat = g (M a).toNat) : st1 rd wr nd K M n f a = st1 rd wr nd K M n g a := by
  unfold st1
  rw [jn_congr h2, jn_congr h3, jn_congr (f := f) (g := g) (b := (a : Int) + 1) (fun _ h => by
    rw [show ((a : Int) + 1).toNat = a + 1 from by omega]
    exact h1 (by omega))]
theorem s1_mono {f g : Nat → Bool} (h : ∀ b, b < n → f b = true → g b = true) : ∀ j k, k < n → s1 rd wr nd K M n f j k = true → s1 rd wr nd K M n g j k = true
  | 0, k, hk, hj => h k hk hj
  | j + 1, k, hk, hj => by
    simp only [s1] at hj ⊢
    split at hj
    · rename_i e
      rw [if_pos e]
      exact st1_mono (fun b hb => s1_mono h j b hb) _ hj
    · rename_i e
      rw [if_neg e]
      exact s1_mono h j k hk hj
theorem r1_mono : ∀ t k, k < n → r1 rd wr nd K M n t k = true → r1 rd wr nd K M n (t + 1) k = true
  | 0, k, _, h => by simp [r1] at h
  | t + 1, k, hk, h => s1_mono (fun b hb => r1_mono t b hb) n k hk h
/-- ahead of its turn an instruction has what it had -/
theorem s1_before (f : Nat → Bool) (k : Nat) (hk : k < n) : ∀ j, j ≤ n - 1 - k → s1 rd wr nd K M n f j k = f k
  | 0, _ => rfl
  | j + 1, h => by
    simp only [s1]
    rw [if_neg (by omega)]
    exact s1_before f k hk j (by omega)
/-- behind its turn it stays so in the round -/
theorem s1_later (f : Nat → Bool) (k : Nat) (hk : k < n) : ∀ i j, n - 1 - k < j → j + i ≤ n → s1 rd wr nd K M n f (j + i) k = s1 rd wr nd K M n f j k
  | 0, _, _, _ => rfl
  | i + 1, j, h1, h2 => by
    rw [← Nat.add_assoc]
    simp only [s1]
    rw [if_neg (by omega)]
    exact s1_later f k hk i j h1 (by omega)
theorem s1_after (f : Nat → Bool) (k : Nat) (hk : k < n) (j : Nat) (h1 : n - 1 - k < j) (h2 : j ≤ n) : s1 rd wr nd K M n f j k = s1 rd wr nd K M n f n k := by
  have := s1_later (rd := rd) (wr := wr) (nd := nd) (K := K) (M := M) f k hk (n - j) j h1 (by omega)
  rw [← this, show j + (n - j) = n from by omega]
theorem s1_turn (f : Nat → Bool) (k : Nat) (hk : k < n) : s1 rd wr nd K M n f n k = st1 rd wr nd K M n (s1 rd wr nd K M n f (n - 1 - k)) k := by
  rw [← s1_after f k hk (n - 1 - k + 1) (by omega) (by omega)]
  simp only [s1]
  rw [if_pos (by omega)]
/-- a round that turns nothing where instructions lead to from afar: all is settled -/
theorem fix_of {f : Nat → Bool} (hK : ∀ a, a < n → 0 ≤ K a → K a < n → s1 rd wr nd K M n f n (K a).toNat = f (K a).toNat) (hM : ∀ a, a < n → 0 ≤ M a → M a < n → s1 rd wr nd K M n f n (M a).toNat = f (M a).toNat) (k : Nat) (hk : k < n) :
    st1 rd wr nd K M n (s1 rd wr nd K M n f n) k = s1 rd wr nd K M n f n k := by
  rw [s1_turn f k hk]
  have far : ∀ b, b < n → s1 rd wr nd K M n f n b = f b → s1 rd wr nd K M n f n b = s1 rd wr nd K M n f (n - 1 - k) b := fun b hb e => by
    by_cases c : n - 1 - k ≤ n - 1 - b
    · rw [s1_before f b hb _ c, e]
    · exact (s1_after f b hb (n - 1 - k) (by omega) (by omega)).symm
  refine st1_congr k (fun h => ?_) (fun h0 h1 => ?_) (fun h0 h1 => ?_)
  · rw [s1_after f (k + 1) h (n - 1 - k) (by omega) (by omega)]
  · exact far _ (by omega) (hK k hk h0 h1)
  · exact far _ (by omega) (hM k hk h0 h1)
theorem s1_stay {f : Nat → Bool} (h : ∀ k, k < n → st1 rd wr nd K M n f k = f k) : ∀ j k, k < n → s1 rd wr nd K M n f j k = f k
  | 0, _, _ => rfl
  | j + 1, k, hk => by
    simp only [s1]
    split
    · rw [← h k hk]
      exact st1_congr k (fun h1 => s1_stay h j _ h1) (fun h0 h1 => s1_stay h j _ (by omega)) (fun h0 h1 => s1_stay h j _ (by omega))
    · exact s1_stay h j k hk
theorem st1_same {f g : Nat → Bool} (h : ∀ k, k < n → f k = g k) (k : Nat) : st1 rd wr nd K M n f k = st1 rd wr nd K M n g k :=
  st1_congr k (fun h1 => h _ h1) (fun h0 h1 => h _ (by omega)) (fun h0 h1 => h _ (by omega))
theorem s1_same {f g : Nat → Bool} (h : ∀ k, k < n → f k = g k) : ∀ j k, k < n → s1 rd wr nd K M n f j k = s1 rd wr nd K M n g j k
  | 0, k, hk => h k hk
  | j + 1, k, hk => by
    simp only [s1]
    split
    · exact st1_same (fun b hb => s1_same h j b hb) k
    · exact s1_same h j k hk
/-- one round more than there are places to lead to from afar: the next turns nothing -/
theorem r1_fix {m : Nat} {tg : Nat → Nat} (ht : ∀ b, b < m → tg b < n) (hK : ∀ a, a < n → 0 ≤ K a → K a < n → ∃ b, b < m ∧ K a = tg b) (hM : ∀ a, a < n → 0 ≤ M a → M a < n → ∃ b, b < m ∧ M a = tg b) :
    ∀ k, k < n → st1 rd wr nd K M n (r1 rd wr nd K M n (m + 1)) k = r1 rd wr nd K M n (m + 1) k := by
  have grow : ∀ t, (∃ t', t' < t ∧ ∀ b, b < m → r1 rd wr nd K M n (t' + 1) (tg b) = r1 rd wr nd K M n t' (tg b)) ∨ cnt (fun b => r1 rd wr nd K M n t (tg b)) m + t ≤ m := by
    intro t
    induction t with
    | zero =>
      right
      have : ∀ q, cnt (fun b => r1 rd wr nd K M n 0 (tg b)) q ≤ q := by
        intro q
        induction q with
        | zero => simp [cnt]
        | succ q ih => simp only [cnt]; split <;> omega
      have := this m
      omega
    | succ t ih =>
      rcases ih with ⟨t', h1, h2⟩ | ih
      · exact Or.inl ⟨t', by omega, h2⟩
      · by_cases hs : ∀ b, b < m → r1 rd wr nd K M n (t + 1) (tg b) = r1 rd wr nd K M n t (tg b)
        · exact Or.inl ⟨t, by omega, hs⟩
        · right
          have hs' : ∃ b, b < m ∧ r1 rd wr nd K M n t (tg b) = false ∧ r1 rd wr nd K M n (t + 1) (tg b) = true := by
            apply Classical.byContradiction
            intro hn
            apply hs
            intro b hb
            cases h0 : r1 rd wr nd K M n t (tg b)
            · cases h1 : r1 rd wr nd K M n (t + 1) (tg b)
              · rfl
              · exact absurd ⟨b, hb, h0, h1⟩ hn
            · exact r1_mono t _ (ht b hb) h0
          obtain ⟨b, hb, h0, h1⟩ := hs'
          have := cnt_lt' (S := fun b => r1 rd wr nd K M n t (tg b)) (T := fun b => r1 rd wr nd K M n (t + 1) (tg b)) (n := m) (fun j hj e => r1_mono t _ (ht j hj) e) hb h0 h1
          omega
  rcases grow (m + 1) with ⟨t, h1, h2⟩ | h
  · have hfix : ∀ k, k < n → st1 rd wr nd K M n (r1 rd wr nd K M n (t + 1)) k = r1 rd wr nd K M n (t + 1) k := fun k hk =>
      fix_of (f := r1 rd wr nd K M n t) (fun a ha h0 h1 => by
        obtain ⟨b, hb, e⟩ := hK a ha h0 h1
        rw [e, Int.toNat_natCast]
        exact h2 b hb) (fun a ha h0 h1 => by
        obtain ⟨b, hb, e⟩ := hM a ha h0 h1
        rw [e, Int.toNat_natCast]
        exact h2 b hb) k hk
    have stay : ∀ s, ∀ k, k < n → r1 rd wr nd K M n (t + 1 + s) k = r1 rd wr nd K M n (t + 1) k := by
      intro s
      induction s with
      | zero => exact fun _ _ => rfl
      | succ s ih =>
        intro k hk
        show s1 rd wr nd K M n (r1 rd wr nd K M n (t + 1 + s)) n k = _
        rw [s1_same ih n k hk]
        exact s1_stay hfix n k hk
    have e := stay (m - t)
    rw [show t + 1 + (m - t) = m + 1 from by omega] at e
    intro k hk
    rw [st1_same e k, e k hk]
    exact hfix k hk
  · omega
end

/-- the letter of register r -/
def rv (r : Nat) : Int := if r < 26 then 97 + r else 39 + r
theorem rv_let (r : Nat) (h : r < 52) : letB (rv r) = true := by
  unfold rv letB lowB uppB
  split <;> simp <;> omega
theorem let_rv {v : Int} (h : letB v = true) : ∃ r, r < 52 ∧ rv r = v := by
  simp [letB, lowB, uppB] at h
  unfold rv
  rcases h with h | h
  · exact ⟨(v - 97).toNat, by omega, by rw [if_pos (by omega)]; omega⟩
  · exact ⟨(v - 39).toNat, by omega, by rw [if_neg (by omega)]; omega⟩
/-- a byte is register r's letter just if the program's number of it is r -/
theorem rg_rv (b : Int) (r : Nat) (_h : r < 52) (hb : letB b = true) : (b = rv r) ↔ ((r : Int) = rgO b) := by
  have hb' := hb
  simp [letB, lowB, uppB] at hb'
  simp only [rgO, lowB, uppB, decide_eq_true_eq, rv]
  repeat' split
  all_goals omega

structure InsIs (c : Nat → Int) (i : Nat) : Prop where
  rd : ∀ r, r < 52 → (rdAt c (rv r) i = true ↔ ((r : Int) = (insAt c i).x ∨ (r : Int) = (insAt c i).y))
  wr : ∀ r, r < 52 → (wrAt c (rv r) i = true ↔ (r : Int) = (insAt c i).d)
  km : (endB (c (4 * i)) = false → (insAt c i).k = -1 ∧ (insAt c i).m = -1) ∧ (c (4 * i) = 106 → (insAt c i).k = c (4 * i + 1) - 48 ∧ (insAt c i).m = -1) ∧ (c (4 * i) = 63 → (insAt c i).k = c (4 * i + 2) - 48 ∧ (insAt c i).m = c (4 * i + 3) - 48) ∧ (c (4 * i) = 114 → (insAt c i).k = -1 ∧ (insAt c i).m = -1)
  bd : (insAt c i).d < 52 ∧ (insAt c i).x < 52 ∧ (insAt c i).y < 52

theorem tkB_reg {p b : Int} (hp : p = 100 ∨ p = 120 ∨ p = 121) (h : tkB p b = true) : letB b = true := by
  rw [← rg_let]
  simpa [tkB, hp] using h
theorem tkB_dig {p b : Int} (hp : p = 116 ∨ p = 110 ∨ p = 107 ∨ p = 109) (h : tkB p b = true) : digB b = true := by
  have h1 : ¬ (p = 100 ∨ p = 120 ∨ p = 121) := by omega
  rw [← dg_dig]
  simpa [tkB, hp, h1] using h
theorem dg_of {b : Int} (h : digB b = true) : dgO b = b - 48 := by unfold dgO; rw [if_pos h]
theorem insIs_of {c : Nat → Int} {i : Nat} (h : dokAt c i = true) : InsIs c i := by
  unfold dokAt dokB at h
  simp only [Bool.and_eq_true, decide_eq_true_eq] at h
  obtain ⟨hz, ⟨h0, h1⟩, h2⟩ := h
  rw [show 4 * i + 0 + 1 = 4 * i + 1 from rfl] at h0
  rw [show 4 * i + 1 + 1 = 4 * i + 2 from rfl] at h1
  rw [show 4 * i + 2 + 1 = 4 * i + 3 from rfl] at h2
  have e : insAt c i = tkI (tkI (tkI ⟨c (4 * i), -1, -1, -1, 0, -1, -1⟩ (B (dshp (c (4 * i))) 0) (c (4 * i + 1))) (B (dshp (c (4 * i))) 1) (c (4 * i + 2))) (B (dshp (c (4 * i))) 2) (c (4 * i + 3)) := rfl
  have gR := rgO_bd
  have base : ∀ (X : Ins), insAt c i = X → (∀ r, r < 52 → (rdAt c (rv r) i = true ↔ ((r : Int) = X.x ∨ (r : Int) = X.y))) → (∀ r, r < 52 → (wrAt c (rv r) i = true ↔ (r : Int) = X.d)) →
      ((endB (c (4 * i)) = false → X.k = -1 ∧ X.m = -1) ∧ (c (4 * i) = 106 → X.k = c (4 * i + 1) - 48 ∧ X.m = -1) ∧ (c (4 * i) = 63 → X.k = c (4 * i + 2) - 48 ∧ X.m = c (4 * i + 3) - 48) ∧ (c (4 * i) = 114 → X.k = -1 ∧ X.m = -1)) → (X.d < 52 ∧ X.x < 52 ∧ X.y < 52) → InsIs c i := by
    rintro X rfl a1 a2 a3 a4
    exact ⟨a1, a2, a3, a4⟩
  simp only [rdAt, wrAt] at base
  generalize c (4 * i) = o at *
  generalize c (4 * i + 1) = a at *
  generalize c (4 * i + 2) = b at *
  generalize c (4 * i + 3) = d at *
  by_cases g1 : arithB o = true
  · have s2 : dshp o = ⟨#[100, 120, 121]⟩ := by simp [dshp, g1]
    rw [s2] at h0 h1 h2 e
    have la := tkB_reg (p := 100) (by omega) h0
    have lb := tkB_reg (p := 120) (by omega) h1
    have ld := tkB_reg (p := 121) (by omega) h2
    have hne : o ≠ 106 ∧ o ≠ 63 ∧ o ≠ 114 := by
      refine ⟨?_, ?_, ?_⟩ <;> (rintro rfl; simp [arithB] at g1)
    refine base ⟨o, rgO a, rgO b, rgO d, 0, -1, -1⟩ e (fun r hr => ?_) (fun r hr => ?_) ⟨fun _ => ⟨rfl, rfl⟩, fun h => absurd h hne.1, fun h => absurd h hne.2.1, fun h => absurd h hne.2.2⟩ ⟨by have := gR a; show rgO a < 52; omega, by have := gR b; show rgO b < 52; omega, by have := gR d; show rgO d < 52; omega⟩
    · simp only [rdB, g1, if_true, Bool.or_eq_true, beq_iff_eq]
      rw [rg_rv b r hr lb, rg_rv d r hr ld]
    · simp only [wrB, g1, Bool.true_or, Bool.true_and, beq_iff_eq]
      exact rg_rv a r hr la
  rw [Bool.not_eq_true] at g1
  by_cases g2 : o = 35
  · subst g2
    have s2 : dshp 35 = ⟨#[100, 116, 110]⟩ := by simp [dshp, arithB]
    rw [s2] at h0 h1 h2 e
    have la := tkB_reg (p := 100) (by omega) h0
    refine base ⟨35, rgO a, -1, -1, (0 * 10 + dgO b) * 10 + dgO d, -1, -1⟩ e (fun r hr => ?_) (fun r hr => ?_) ⟨fun _ => ⟨rfl, rfl⟩, fun h => by omega, fun h => by omega, fun h => by omega⟩ ⟨by have := gR a; show rgO a < 52; omega, by show (-1 : Int) < 52; omega, by show (-1 : Int) < 52; omega⟩
    · simp [rdB, arithB]
    · simp only [wrB, arithB]
      simp
      exact rg_rv a r hr la
  by_cases g3 : o = 61 ∨ o = 108 ∨ o = 76
  · have s2 : dshp o = ⟨#[100, 120, 46]⟩ := by simp [dshp, g1, g2, g3]
    rw [s2] at h0 h1 h2 e
    have la := tkB_reg (p := 100) (by omega) h0
    have lb := tkB_reg (p := 120) (by omega) h1
    refine base ⟨o, rgO a, rgO b, -1, 0, -1, -1⟩ e (fun r hr => ?_) (fun r hr => ?_) ⟨fun _ => ⟨rfl, rfl⟩, fun h => by omega, fun h => by omega, fun h => by omega⟩ ⟨by have := gR a; show rgO a < 52; omega, by have := gR b; show rgO b < 52; omega, by show (-1 : Int) < 52; omega⟩
    · simp only [rdB, g1, Bool.false_eq_true, if_false, if_pos g3, beq_iff_eq]
      rw [rg_rv b r hr lb]
      show _ ↔ ((r : Int) = rgO b ∨ (r : Int) = -1)
      omega
    · have w : wrB o a (rv r) = (a == rv r) := by
        rcases g3 with rfl | rfl | rfl <;> simp [wrB, arithB]
      rw [w, beq_iff_eq]
      exact rg_rv a r hr la
  by_cases g4 : o = 115 ∨ o = 83
  · have s2 : dshp o = ⟨#[120, 121, 46]⟩ := by simp [dshp, g1, g2, g3, g4]
    rw [s2] at h0 h1 h2 e
    have la := tkB_reg (p := 120) (by omega) h0
    have lb := tkB_reg (p := 121) (by omega) h1
    refine base ⟨o, -1, rgO a, rgO b, 0, -1, -1⟩ e (fun r hr => ?_) (fun r hr => ?_) ⟨fun _ => ⟨rfl, rfl⟩, fun h => by omega, fun h => by omega, fun h => by omega⟩ ⟨by show (-1 : Int) < 52; omega, by have := gR a; show rgO a < 52; omega, by have := gR b; show rgO b < 52; omega⟩
    · have w : rdB o a b d (rv r) = (a == rv r || b == rv r) := by
        rcases g4 with rfl | rfl <;> simp [rdB, arithB]
      rw [w, Bool.or_eq_true, beq_iff_eq, beq_iff_eq, rg_rv a r hr la, rg_rv b r hr lb]
    · have w : wrB o a (rv r) = false := by rcases g4 with rfl | rfl <;> simp [wrB, arithB]
      rw [w]
      show false = true ↔ (r : Int) = -1
      simp
  by_cases g5 : o = 106
  · subst g5
    have s2 : dshp 106 = ⟨#[107, 46, 46]⟩ := by simp [dshp, arithB]
    rw [s2] at h0 h1 h2 e
    have da := tkB_dig (p := 107) (by omega) h0
    refine base ⟨106, -1, -1, -1, 0, dgO a, -1⟩ e (fun r hr => ?_) (fun r hr => ?_) ⟨fun h => by simp [endB] at h, fun _ => ⟨dg_of da, rfl⟩, fun h => by omega, fun h => by omega⟩ ⟨by show (-1 : Int) < 52; omega, by show (-1 : Int) < 52; omega, by show (-1 : Int) < 52; omega⟩
    · simp [rdB, arithB]
    · simp [wrB, arithB]
  by_cases g6 : o = 63
  · subst g6
    have s2 : dshp 63 = ⟨#[120, 107, 109]⟩ := by simp [dshp, arithB]
    rw [s2] at h0 h1 h2 e
    have la := tkB_reg (p := 120) (by omega) h0
    have db := tkB_dig (p := 107) (by omega) h1
    have dd := tkB_dig (p := 109) (by omega) h2
    refine base ⟨63, -1, rgO a, -1, 0, dgO b, dgO d⟩ e (fun r hr => ?_) (fun r hr => ?_) ⟨fun h => by simp [endB] at h, fun h => by omega, fun _ => ⟨dg_of db, dg_of dd⟩, fun h => by omega⟩ ⟨by show (-1 : Int) < 52; omega, by have := gR a; show rgO a < 52; omega, by show (-1 : Int) < 52; omega⟩
    · have w : rdB 63 a b d (rv r) = (a == rv r) := by simp [rdB, arithB]
      rw [w, beq_iff_eq, rg_rv a r hr la]
      show _ ↔ ((r : Int) = rgO a ∨ (r : Int) = -1)
      omega
    · simp [wrB, arithB]
  by_cases g7 : o = 114
  · subst g7
    have s2 : dshp 114 = ⟨#[120, 46, 46]⟩ := by simp [dshp, arithB]
    rw [s2] at h0 h1 h2 e
    have la := tkB_reg (p := 120) (by omega) h0
    refine base ⟨114, -1, rgO a, -1, 0, -1, -1⟩ e (fun r hr => ?_) (fun r hr => ?_) ⟨fun h => by simp [endB] at h, fun h => by omega, fun h => by omega, fun _ => ⟨rfl, rfl⟩⟩ ⟨by show (-1 : Int) < 52; omega, by have := gR a; show rgO a < 52; omega, by show (-1 : Int) < 52; omega⟩
    · have w : rdB 114 a b d (rv r) = (a == rv r) := by simp [rdB, arithB]
      rw [w, beq_iff_eq, rg_rv a r hr la]
      show _ ↔ ((r : Int) = rgO a ∨ (r : Int) = -1)
      omega
    · simp [wrB, arithB]
  · have s2 : dshp o = ⟨#[]⟩ := by simp [dshp, g1, g2, g3, g4, g5, g6, g7]
    rw [s2] at hz
    cases hz

/-! ### The rounds, register by register -/
section
variable (c : Nat → Int) (n : Nat) (r : Nat)
def rdF (i : Nat) : Bool := rdAt c (rv r) i
def wrF (i : Nat) : Bool := wrAt c (rv r) i
def ndF (i : Nat) : Bool := endB (c (4 * i))
def kF (i : Nat) : Int := strP (blksTo c n) (insAt c i).k
def mF (i : Nat) : Int := strP (blksTo c n) (insAt c i).m
end
theorem goB_eq {c : Nat → Int} {i : Nat} (h : InsIs c i) {r : Nat} (hr : r < 52) (S : Nat → Bool) : goB S (insAt c i) r = (rdF c r i || (!(wrF c r i) && S r)) := by
  unfold goB rdF wrF
  have h1 := h.rd r hr
  have h2 := h.wr r hr
  cases a : rdAt c (rv r) i
  · have n1 : ¬ ((r : Int) = (insAt c i).x ∨ (r : Int) = (insAt c i).y) := fun e => by rw [h1.2 e] at a; cases a
    rw [if_neg (fun e => n1 (Or.inr e)), if_neg (fun e => n1 (Or.inl e))]
    cases b : wrAt c (rv r) i
    · rw [if_neg (fun e => by rw [h2.2 e] at b; cases b)]; simp
    · rw [if_pos (h2.1 b)]; simp
  · rcases h1.1 a with e | e
    · by_cases e2 : (r : Int) = (insAt c i).y
      · rw [if_pos e2]; simp
      · rw [if_neg e2, if_pos e]; simp
    · rw [if_pos e]; simp
/-- block b of the text, as the program has it -/
structure LIs (c : Nat → Int) (n nb : Nat) (L : List (Nat × Nat)) : Prop where
  blk : ∀ b, b < nb → ∃ la, L.getD b (0, 0) = (fst c n b, la) ∧ fst c n b ≤ la ∧ la < n ∧ endB (c (4 * la)) = true ∧ ∀ i, fst c n b ≤ i → i < la → endB (c (4 * i)) = false
theorem nextL_inner {c : Nat → Int} {n i : Nat} (h : endB (c (4 * i)) = false) : nextL c n i = [i + 1] := by
  simp [endB] at h
  simp [nextL, h]
theorem lis_of (c : Nat → Int) (n : Nat) : LIs c n (blocksTo c n) (blksTo c n) := by
  refine ⟨fun b hb => ?_⟩
  obtain ⟨q, la, h1, h2⟩ := (blks_spec c n).1 b hb
  have e : fst c n b = q := fst_eq c n b q (by have := h2.le; have := h2.lt; omega) h2.fst.eq (fun m hm => by have := h2.fst.lt m hm; omega)
  refine ⟨la, ?_, by rw [e]; exact h2.le, h2.lt, h2.ends, by rw [e]; exact h2.inner⟩
  rw [List.getD_eq_getElem?_getD, h1, e]
  rfl
theorem fst_zero (c : Nat → Int) (n : Nat) : fst c n 0 = 0 := fst_eq c n 0 0 (Nat.zero_le _) rfl (fun m hm => by omega)
theorem str_fst (c : Nat → Int) (n b : Nat) (hb : b < blocksTo c n) : strP (blksTo c n) (b : Int) = fst c n b := by
  obtain ⟨la, h1, _⟩ := (lis_of c n).blk b hb
  unfold strP
  rw [if_pos (by rw [blksTo_len]; omega), Int.toNat_natCast, h1]
theorem str_no (L : List (Nat × Nat)) (q : Int) (h : ¬ (0 ≤ q ∧ q < L.length)) : strP L q = -1 := by
  unfold strP
  rw [if_neg h]
theorem code_at (c : Nat → Int) (n a : Nat) (h : a < n) : (codeTo c n).getD a noIns = insAt c a := by
  have hlt : a < (codeTo c n).length := by rw [codeTo_len]; exact h
  rw [List.getD_eq_getElem?_getD, List.getElem?_eq_getElem hlt]
  exact codeTo_get c n a hlt
theorem laI_eq {c : Nat → Int} {n : Nat} (hi : ∀ i, i < n → InsIs c i) {r : Nat} (hr : r < 52) (F : Nat → Nat → Bool) (a : Nat) (ha : a < n) : laI (codeTo c n) (blksTo c n) F a r = st1 (rdF c r) (wrF c r) (ndF c) (kF c n) (mF c n) n (fun b => F b r) a := by
  unfold laI
  rw [code_at c n a ha, codeTo_len, goB_eq (hi a ha) hr]
  simp only [joinS, nxS, insAt_o]
  unfold st1
  cases e : endB (c (4 * a))
  · simp only [ndF, e, Bool.false_eq_true, if_false, joinS, Bool.false_or, Bool.not_false, Bool.true_and]
    rfl
  · simp only [ndF, e, if_true, Bool.not_true, Bool.false_and, Bool.false_or]
    rfl
theorem sweep_eq {c : Nat → Int} {n : Nat} (hi : ∀ i, i < n → InsIs c i) {r : Nat} (hr : r < 52) (F : Nat → Nat → Bool) : ∀ j k, k < n → sweep (codeTo c n) (blksTo c n) F j k r = s1 (rdF c r) (wrF c r) (ndF c) (kF c n) (mF c n) n (fun b => F b r) j k
  | 0, _, _ => rfl
  | j + 1, k, hk => by
    simp only [sweep, s1]
    rw [codeTo_len]
    by_cases e : k = n - 1 - j
    · rw [if_pos e, if_pos e, laI_eq hi hr _ k hk]
      exact st1_same (fun b hb => sweep_eq hi hr F j b hb) k
    · rw [if_neg e, if_neg e]
      exact sweep_eq hi hr F j k hk
theorem rounds_eq {c : Nat → Int} {n : Nat} (hi : ∀ i, i < n → InsIs c i) {r : Nat} (hr : r < 52) : ∀ t k, k < n → rounds (codeTo c n) (blksTo c n) t k r = r1 (rdF c r) (wrF c r) (ndF c) (kF c n) (mF c n) n t k
  | 0, _, _ => rfl
  | t + 1, k, hk => by
    simp only [rounds, r1]
    rw [codeTo_len, sweep_eq hi hr _ n k hk]
    exact s1_same (fun b hb => rounds_eq hi hr t b hb) n k hk
/-- an instruction leads from afar just to where a block that it names begins -/
structure Far (c : Nat → Int) (n i : Nat) : Prop where
  k : (0 ≤ kF c n i → ∃ b, b < blocksTo c n - 1 ∧ kF c n i = fst c n (b + 1) ∧ fst c n (b + 1) ∈ nextL c n i)
  m : (0 ≤ mF c n i → ∃ b, b < blocksTo c n - 1 ∧ mF c n i = fst c n (b + 1) ∧ fst c n (b + 1) ∈ nextL c n i)
  all : endB (c (4 * i)) = true → ∀ j, j ∈ nextL c n i → (kF c n i = j ∨ mF c n i = j)
theorem far_of {c : Nat → Int} {size : Nat} (h : progB c size 0 = true) {i : Nat} (hin : i < size / 4) (hi : InsIs c i) : Far c (size / 4) i := by
  have fk := fun k hk => fit_of_okIns (okIns_of_progB h i hin) k hk
  have no : ∀ q : Int, q = -1 → strP (blksTo c (size / 4)) q = -1 := fun q e => str_no _ _ (by omega)
  have yes : ∀ q : Int, 1 ≤ q → q < blocksTo c (size / 4) → ∃ b, b < blocksTo c (size / 4) - 1 ∧ strP (blksTo c (size / 4)) q = fst c (size / 4) (b + 1) ∧ q.toNat = b + 1 := fun q h1 h2 => by
    have e := str_fst c (size / 4) q.toNat (by omega)
    rw [Int.toNat_of_nonneg (by omega)] at e
    refine ⟨q.toNat - 1, by omega, ?_, by omega⟩
    rw [e, show q.toNat - 1 + 1 = q.toNat from by omega]
  have km := hi.km
  cases he : endB (c (4 * i))
  · have e := km.1 he
    refine ⟨fun h0 => ?_, fun h0 => ?_, fun h => by rw [he] at h; cases h⟩
    · rw [kF, no _ e.1] at h0; omega
    · rw [mF, no _ e.2] at h0; omega
  · by_cases o1 : c (4 * i) = 106
    · have g := fk 0 (by omega)
      rw [o1, shp_106, show B ⟨#[66, 46, 46]⟩ 0 = 66 from rfl] at g
      have g := fit_B g
      simp only [Nat.add_zero] at g
      have e := km.2.1 o1
      obtain ⟨b, hb, e1, e2⟩ := yes (c (4 * i + 1) - 48) (by omega) (by omega)
      have hn : nextL c (size / 4) i = [fst c (size / 4) (b + 1)] := by rw [nextL, if_neg (by omega), if_pos o1, e2]
      have ek : kF c (size / 4) i = fst c (size / 4) (b + 1) := by rw [kF, e.1, e1]
      refine ⟨fun _ => ⟨b, hb, ek, by rw [hn]; simp⟩, fun h0 => ?_, fun _ j hj => ?_⟩
      · rw [mF, no _ e.2] at h0; omega
      · rw [hn] at hj
        rw [List.mem_singleton.1 hj]
        exact Or.inl ek
    by_cases o2 : c (4 * i) = 63
    · have g1 := fk 1 (by omega)
      have g2 := fk 2 (by omega)
      rw [o2, shp_63, show B ⟨#[82, 66, 66]⟩ 1 = 66 from rfl] at g1
      rw [o2, shp_63, show B ⟨#[82, 66, 66]⟩ 2 = 66 from rfl] at g2
      have g1 := fit_B g1
      have g2 := fit_B g2
      rw [show 4 * i + 1 + 1 = 4 * i + 2 from rfl] at g1
      rw [show 4 * i + 2 + 1 = 4 * i + 3 from rfl] at g2
      have e := km.2.2.1 o2
      obtain ⟨b, hb, e1, e2⟩ := yes (c (4 * i + 2) - 48) (by omega) (by omega)
      obtain ⟨b', hb', e1', e2'⟩ := yes (c (4 * i + 3) - 48) (by omega) (by omega)
      have hn : nextL c (size / 4) i = [fst c (size / 4) (b + 1), fst c (size / 4) (b' + 1)] := by rw [nextL, if_neg (by omega), if_neg o1, if_pos o2, e2, e2']
      have ek : kF c (size / 4) i = fst c (size / 4) (b + 1) := by rw [kF, e.1, e1]
      have em : mF c (size / 4) i = fst c (size / 4) (b' + 1) := by rw [mF, e.2, e1']
      refine ⟨fun _ => ⟨b, hb, ek, by rw [hn]; simp⟩, fun _ => ⟨b', hb', em, by rw [hn]; simp⟩, fun _ j hj => ?_⟩
      rw [hn] at hj
      rcases List.mem_cons.1 hj with ej | hj
      · rw [ej]; exact Or.inl ek
      · rw [List.mem_singleton.1 hj]; exact Or.inr em
    · have o3 : c (4 * i) = 114 := by
        simp [endB, o1, o2] at he
        exact he
      have e := km.2.2.2 o3
      refine ⟨fun h0 => ?_, fun h0 => ?_, fun _ j hj => ?_⟩
      · rw [kF, no _ e.1] at h0; omega
      · rw [mF, no _ e.2] at h0; omega
      · rw [nextL, if_pos o3] at hj; cases hj
theorem st1_sound {c : Nat → Int} {n : Nat} (hF : ∀ i, i < n → Far c n i) {r : Nat} {f : Nat → Bool} (hf : ∀ b, b < n → f b = true → Want c n (rv r) b) (k : Nat) (hk : k < n)
    (h : st1 (rdF c r) (wrF c r) (ndF c) (kF c n) (mF c n) n f k = true) : Want c n (rv r) k := by
  simp only [st1, Bool.or_eq_true, Bool.and_eq_true] at h
  have jnw : ∀ b : Int, jn n f b = true → 0 ≤ b ∧ Want c n (rv r) b.toNat := fun b hb => by
    simp only [jn, Bool.and_eq_true, decide_eq_true_eq] at hb
    exact ⟨hb.1.1, hf _ (by omega) hb.2⟩
  rcases h with h | ⟨hw, (⟨hn, h⟩ | h) | h⟩
  · exact want_rd h
  · have hw' : wrAt c (rv r) k = false := by simpa [wrF] using hw
    have hn' : endB (c (4 * k)) = false := by simpa [ndF] using hn
    refine want_step hw' (j := k + 1) (by rw [nextL_inner hn']; simp) ?_
    have := (jnw _ h).2
    rwa [show ((k : Int) + 1).toNat = k + 1 from by omega] at this
  · have hw' : wrAt c (rv r) k = false := by simpa [wrF] using hw
    obtain ⟨h0, h1⟩ := jnw _ h
    obtain ⟨b, _, e, hm⟩ := (hF k hk).k h0
    rw [e, Int.toNat_natCast] at h1
    exact want_step hw' hm h1
  · have hw' : wrAt c (rv r) k = false := by simpa [wrF] using hw
    obtain ⟨h0, h1⟩ := jnw _ h
    obtain ⟨b, _, e, hm⟩ := (hF k hk).m h0
    rw [e, Int.toNat_natCast] at h1
    exact want_step hw' hm h1
theorem s1_sound {c : Nat → Int} {n : Nat} (hF : ∀ i, i < n → Far c n i) {r : Nat} {f : Nat → Bool} (hf : ∀ b, b < n → f b = true → Want c n (rv r) b) :
    ∀ j k, k < n → s1 (rdF c r) (wrF c r) (ndF c) (kF c n) (mF c n) n f j k = true → Want c n (rv r) k
  | 0, k, hk, h => hf k hk h
  | j + 1, k, hk, h => by
    simp only [s1] at h
    split at h
    · exact st1_sound hF (fun b hb => s1_sound hF hf j b hb) k hk h
    · exact s1_sound hF hf j k hk h
theorem r1_sound {c : Nat → Int} {n : Nat} (hF : ∀ i, i < n → Far c n i) {r : Nat} : ∀ t k, k < n → r1 (rdF c r) (wrF c r) (ndF c) (kF c n) (mF c n) n t k = true → Want c n (rv r) k
  | 0, _, _, h => by simp [r1] at h
  | t + 1, k, hk, h => s1_sound hF (fun b hb => r1_sound hF t b hb) n k hk h
/-- what is wanted is found, where a round turns nothing -/
theorem st1_full {c : Nat → Int} {n : Nat} (G : Good c n) (hF : ∀ i, i < n → Far c n i) {r : Nat} {f : Nat → Bool} (hf : ∀ k, k < n → st1 (rdF c r) (wrF c r) (ndF c) (kF c n) (mF c n) n f k = f k) :
    ∀ q k, k < n → wantN c n (rv r) q k = true → f k = true := by
  intro q
  induction q with
  | zero =>
    intro k hk h
    simp only [wantN] at h
    rw [← hf k hk]
    simp only [st1, rdF, h, Bool.true_or]
  | succ q ih =>
    intro k hk h
    simp only [wantN, Bool.or_eq_true, Bool.and_eq_true] at h
    rw [← hf k hk]
    rcases h with h | ⟨hw, ha⟩
    · simp only [st1, rdF, h, Bool.true_or]
    · obtain ⟨j, hj, hjw⟩ := List.any_eq_true.1 ha
      have hjn := nextL_lt G hk j hj
      have hfj := ih j hjn hjw
      have jt : ∀ b : Int, b = j → jn n f b = true := fun b e => by
        subst e
        simp only [jn, Int.toNat_natCast, hfj, Bool.and_true, decide_eq_true_eq]
        omega
      have hw' : (!(wrF c r k)) = true := hw
      simp only [st1, hw', Bool.true_and, Bool.or_eq_true, Bool.and_eq_true]
      right
      cases he : endB (c (4 * k))
      · rw [nextL_inner he] at hj
        have ej : j = k + 1 := List.mem_singleton.1 hj
        exact Or.inl (Or.inl ⟨by simp [ndF, he], jt _ (by omega)⟩)
      · rcases (hF k hk).all he j hj with e | e
        · exact Or.inl (Or.inr (jt _ e))
        · exact Or.inr (jt _ e)
/-- the program's answer for an instruction is the document's -/
theorem live_eq {c : Nat → Int} {size : Nat} (h : progB c size 0 = true) (hi : ∀ i, i < size / 4 → InsIs c i) (hpos : 1 ≤ blocksTo c (size / 4)) {r : Nat} (hr : r < 52) (k : Nat) (hk : k < size / 4) :
    rounds (codeTo c (size / 4)) (blksTo c (size / 4)) (blocksTo c (size / 4)) k r = true ↔ Want c (size / 4) (rv r) k := by
  have hF : ∀ i, i < size / 4 → Far c (size / 4) i := fun i hn => far_of h hn (hi i hn)
  rw [rounds_eq hi hr _ k hk]
  refine ⟨r1_sound hF _ k hk, fun ⟨q, hq⟩ => ?_⟩
  have hf := r1_fix (rd := rdF c r) (wr := wrF c r) (nd := ndF c) (K := kF c (size / 4)) (M := mF c (size / 4)) (n := size / 4) (m := blocksTo c (size / 4) - 1) (tg := fun b => fst c (size / 4) (b + 1)) (fun b hb => fst_lt _ _ _ (by omega))
    (fun a ha h0 _ => by
      obtain ⟨b, hb, e, _⟩ := (hF a ha).k h0
      exact ⟨b, hb, e⟩)
    (fun a ha h0 _ => by
      obtain ⟨b, hb, e, _⟩ := (hF a ha).m h0
      exact ⟨b, hb, e⟩)
  rw [show blocksTo c (size / 4) - 1 + 1 = blocksTo c (size / 4) from by omega] at hf
  exact st1_full (good_of_progB h) hF hf q k hk hq
end Go.Proofs.YtccndnckceagfabGreatDoorR.Sp
