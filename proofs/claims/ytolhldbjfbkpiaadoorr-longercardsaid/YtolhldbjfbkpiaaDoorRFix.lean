/-
  The program's rounds find the ways that the document means: plain mathematics.
-/
import Derived.Test.YtolhldbjfbkpiaaDoorRDLive
namespace Go.Proofs.YtolhldbjfbkpiaaDoorR.Sp

/-! ### Blocks -/
structure IsFst (c : Nat → Int) (b q : Nat) : Prop where
  eq : blocksTo c q = b
  lt : ∀ m, m < q → blocksTo c m < b
structure BlkIs (c : Nat → Int) (k b q la : Nat) : Prop where
  fst : IsFst c b q
  le : q ≤ la
  lt : la < k
  ends : endB (c (4 * la)) = true
  inner : ∀ i, q ≤ i → i < la → endB (c (4 * i)) = false
  at' : blocksTo c la = b
def nextQ (c : Nat → Int) (k : Nat) : Nat := ((blksTo c k).getLast?.map (fun b => b.2 + 1)).getD 0
theorem blks_spec (c : Nat → Int) (k : Nat) : (∀ b, b < blocksTo c k → ∃ q la, (blksTo c k)[b]? = some (q, la) ∧ BlkIs c k b q la) ∧ IsFst c (blocksTo c k) (nextQ c k) ∧ nextQ c k ≤ k ∧ ∀ i, nextQ c k ≤ i → i < k → endB (c (4 * i)) = false := by
  induction k with
  | zero => exact ⟨fun b hb => by simp [blocksTo] at hb, ⟨rfl, fun m hm => by simp [nextQ, blksTo] at hm⟩, by simp [nextQ, blksTo], fun i _ hi => by omega⟩
  | succ k ih =>
    obtain ⟨h1, h2, h3, h4⟩ := ih
    cases he : endB (c (4 * k))
    · have e1 : blksTo c (k + 1) = blksTo c k := by simp only [blksTo]; rw [he]; rfl
      have e2 : blocksTo c (k + 1) = blocksTo c k := blocksTo_no c k he
      have e3 : nextQ c (k + 1) = nextQ c k := by unfold nextQ; rw [e1]
      rw [e1, e2, e3]
      refine ⟨fun b hb => ?_, h2, by omega, fun i hi1 hi2 => ?_⟩
      · obtain ⟨q, la, g1, g2⟩ := h1 b hb
        exact ⟨q, la, g1, ⟨g2.fst, g2.le, by have := g2.lt; omega, g2.ends, g2.inner, g2.at'⟩⟩
      · by_cases e : i = k
        · rw [e]; exact he
        · exact h4 i hi1 (by omega)
    · have e1 : blksTo c (k + 1) = blksTo c k ++ [(nextQ c k, k)] := by simp only [blksTo]; rw [if_pos he]; rfl
      have e2 : blocksTo c (k + 1) = blocksTo c k + 1 := blocksTo_yes c k he
      have e3 : nextQ c (k + 1) = k + 1 := by unfold nextQ; rw [e1, List.getLast?_concat]; rfl
      rw [e1, e2, e3]
      refine ⟨fun b hb => ?_, ⟨e2, fun m hm => ?_⟩, Nat.le_refl _, fun i _ _ => by omega⟩
      · by_cases e : b = blocksTo c k
        · subst e
          refine ⟨nextQ c k, k, ?_, ⟨h2, h3, by omega, he, h4, ?_⟩⟩
          · rw [List.getElem?_append_right (by rw [blksTo_len]; exact Nat.le_refl _), blksTo_len, Nat.sub_self]; rfl
          · rfl
        · obtain ⟨q, la, g1, g2⟩ := h1 b (by omega)
          refine ⟨q, la, ?_, ⟨g2.fst, g2.le, by have := g2.lt; omega, g2.ends, g2.inner, g2.at'⟩⟩
          rw [List.getElem?_append_left (by rw [blksTo_len]; omega)]
          exact g1
      · have := blocksTo_mono c (show m ≤ k by omega)
        omega

theorem cnt_le' {S T : Nat → Bool} (n : Nat) (h : ∀ j, j < n → S j = true → T j = true) : cnt T n ≤ cnt S n := by
  induction n with
  | zero => exact Nat.le_refl _
  | succ n ih =>
    have := ih (fun j hj => h j (by omega))
    simp only [cnt]
    by_cases e : S n = true
    · rw [if_pos e, if_pos (h n (by omega) e)]; omega
    · rw [if_neg e]; split <;> omega
theorem cnt_lt' {S T : Nat → Bool} {n j : Nat} (h : ∀ j, j < n → S j = true → T j = true) (hj : j < n) (h0 : S j = false) (h1 : T j = true) : cnt T n < cnt S n := by
  induction n with
  | zero => omega
  | succ n ih =>
    simp only [cnt]
    by_cases e : j = n
    · subst e
      have := cnt_le' j (fun i hi => h i (by omega))
      rw [if_pos h1, h0]
      simp
      omega
    · have := ih (fun i hi => h i (by omega)) (by omega)
      by_cases e : S n = true
      · rw [if_pos e, if_pos (h n (by omega) e)]; omega
      · rw [if_neg e]; split <;> omega
theorem cnt_pos {S : Nat → Bool} {n j : Nat} (hj : j < n) (h0 : S j = false) : 1 ≤ cnt S n := by
  induction n with
  | zero => omega
  | succ n ih =>
    simp only [cnt]
    by_cases e : j = n
    · subst e; rw [h0]; simp
    · have := ih (by omega); omega

/-! ### One register: rounds over Bools -/
section
variable (rd wr : Nat → Bool) (K M : Nat → Int) (L : List (Nat × Nat)) (nb : Nat)
def jn (f : Nat → Bool) (b : Int) : Bool := decide (0 ≤ b ∧ b < nb) && f b.toNat
def b1 (f : Nat → Bool) (last : Nat) : Nat → Bool
  | 0 => false
  | j + 1 => rd (last - j) || (!(wr (last - j)) && (b1 f last j || jn nb f (K (last - j)) || jn nb f (M (last - j))))
def l1 (f : Nat → Bool) (b : Nat) : Bool := b1 rd wr K M nb f (L.getD b (0, 0)).2 ((L.getD b (0, 0)).2 - (L.getD b (0, 0)).1 + 1)
def s1 (f : Nat → Bool) : Nat → Nat → Bool
  | 0 => f
  | j + 1 => fun k => if k = nb - 1 - j then l1 rd wr K M L nb (s1 f j) k else s1 f j k
def r1 : Nat → Nat → Bool
  | 0 => fun _ => false
  | t + 1 => s1 rd wr K M L nb (r1 t) nb
end
section
variable {rd wr : Nat → Bool} {K M : Nat → Int} {L : List (Nat × Nat)} {nb : Nat}
theorem jn_mono {f g : Nat → Bool} (h : ∀ b, b < nb → f b = true → g b = true) {b : Int} (hj : jn nb f b = true) : jn nb g b = true := by
  simp only [jn, Bool.and_eq_true, decide_eq_true_eq] at hj ⊢
  exact ⟨hj.1, h _ (by omega) hj.2⟩
theorem b1_mono {f g : Nat → Bool} (h : ∀ b, b < nb → f b = true → g b = true) (last : Nat) : ∀ j, b1 rd wr K M nb f last j = true → b1 rd wr K M nb g last j = true
  | 0, hj => hj
  | j + 1, hj => by
    simp only [b1, Bool.or_eq_true, Bool.and_eq_true] at hj ⊢
    rcases hj with hj | ⟨h1, (h2 | h2) | h2⟩
    · exact Or.inl hj
    · exact Or.inr ⟨h1, Or.inl (Or.inl (b1_mono h last j h2))⟩
    · exact Or.inr ⟨h1, Or.inl (Or.inr (jn_mono h h2))⟩
    · exact Or.inr ⟨h1, Or.inr (jn_mono h h2)⟩
theorem s1_mono {f g : Nat → Bool} (h : ∀ b, b < nb → f b = true → g b = true) : ∀ j k, k < nb → s1 rd wr K M L nb f j k = true → s1 rd wr K M L nb g j k = true
  | 0, k, hk, hj => h k hk hj
  | j + 1, k, hk, hj => by
    simp only [s1] at hj ⊢
    split at hj
    · rename_i e
      rw [if_pos e]
      exact b1_mono (fun b hb => s1_mono h j b hb) _ _ hj
    · rename_i e
      rw [if_neg e]
      exact s1_mono h j k hk hj
theorem r1_mono : ∀ t k, k < nb → r1 rd wr K M L nb t k = true → r1 rd wr K M L nb (t + 1) k = true
  | 0, k, _, h => by simp [r1] at h
  | t + 1, k, hk, h => s1_mono (fun b hb => r1_mono t b hb) nb k hk h
/-- where a block has been gone through, it stays so in the round -/
theorem s1_later (f : Nat → Bool) (k : Nat) : ∀ j i, nb - 1 - k < j → j ≤ nb → j + i ≤ nb → k < nb → s1 rd wr K M L nb f (j + i) k = s1 rd wr K M L nb f j k
  | j, 0, _, _, _, _ => rfl
  | j, i + 1, h1, h2, h3, hk => by
    rw [← Nat.add_assoc]
    simp only [s1]
    rw [if_neg (by omega)]
    exact s1_later f k j i h1 h2 (by omega) hk
/-- a round that turns nothing: each block's answer is what is known of it -/
theorem s1_fix {f : Nat → Bool} (h : ∀ k, k < nb → s1 rd wr K M L nb f nb k = f k) : ∀ j, j ≤ nb → ∀ k, k < nb → s1 rd wr K M L nb f j k = f k
  | 0, _, _, _ => rfl
  | j + 1, hj, k, hk => by
    by_cases e : k = nb - 1 - j
    · have := s1_later (rd := rd) (wr := wr) (K := K) (M := M) (L := L) f k (j + 1) (nb - (j + 1)) (by omega) (by omega) (by omega) hk
      rw [show j + 1 + (nb - (j + 1)) = nb from by omega] at this
      rw [← this]
      exact h k hk
    · have := s1_fix h j (by omega) k hk
      simp only [s1]
      rw [if_neg e]
      exact this
theorem b1_congr {f g : Nat → Bool} (h : ∀ b, b < nb → f b = g b) (last : Nat) (j : Nat) : b1 rd wr K M nb f last j = b1 rd wr K M nb g last j := by
  rw [Bool.eq_iff_iff]
  exact ⟨b1_mono (fun b hb e => by rw [← h b hb]; exact e) last j, b1_mono (fun b hb e => by rw [h b hb]; exact e) last j⟩
theorem l1_fix {f : Nat → Bool} (h : ∀ k, k < nb → s1 rd wr K M L nb f nb k = f k) (k : Nat) (hk : k < nb) : l1 rd wr K M L nb f k = f k := by
  have h1 := s1_fix h (nb - 1 - k + 1) (by omega) k hk
  simp only [s1] at h1
  rw [if_pos (by omega)] at h1
  rw [← h1]
  exact b1_congr (fun b hb => (s1_fix h (nb - 1 - k) (by omega) b hb).symm) _ _
/-- as many rounds as there are blocks: the next turns nothing -/
theorem r1_fix : ∀ k, k < nb → s1 rd wr K M L nb (r1 rd wr K M L nb nb) nb k = r1 rd wr K M L nb nb k := by
  -- how many blocks are known at time t
  have stay : ∀ t, (∀ k, k < nb → r1 rd wr K M L nb (t + 1) k = r1 rd wr K M L nb t k) → ∀ s, ∀ k, k < nb → r1 rd wr K M L nb (t + s + 1) k = r1 rd wr K M L nb (t + s) k := by
    intro t ht s
    induction s with
    | zero => exact ht
    | succ s ih =>
      intro k hk
      rw [Bool.eq_iff_iff]
      refine ⟨fun h => ?_, r1_mono _ k hk⟩
      exact s1_mono (f := r1 rd wr K M L nb (t + s + 1)) (g := r1 rd wr K M L nb (t + s)) (fun b hb e => by rw [← ih b hb]; exact e) nb k hk h
  have grow : ∀ t, (∃ t', t' < t ∧ ∀ k, k < nb → r1 rd wr K M L nb (t' + 1) k = r1 rd wr K M L nb t' k) ∨ cnt (r1 rd wr K M L nb t) nb + t ≤ nb := by
    intro t
    induction t with
    | zero =>
      right
      have : ∀ n, cnt (r1 rd wr K M L nb 0) n ≤ n := by
        intro n
        induction n with
        | zero => simp [cnt]
        | succ n ih => simp only [cnt]; split <;> omega
      have := this nb
      omega
    | succ t ih =>
      rcases ih with ⟨t', h1, h2⟩ | ih
      · exact Or.inl ⟨t', by omega, h2⟩
      · by_cases hs : ∀ k, k < nb → r1 rd wr K M L nb (t + 1) k = r1 rd wr K M L nb t k
        · exact Or.inl ⟨t, by omega, hs⟩
        · right
          have hs' : ∃ k, k < nb ∧ r1 rd wr K M L nb t k = false ∧ r1 rd wr K M L nb (t + 1) k = true := by
            apply Classical.byContradiction
            intro hn
            apply hs
            intro k hk
            cases h0 : r1 rd wr K M L nb t k
            · cases h1 : r1 rd wr K M L nb (t + 1) k
              · rfl
              · exact absurd ⟨k, hk, h0, h1⟩ hn
            · exact r1_mono t k hk h0
          obtain ⟨k, hk, h0, h1⟩ := hs'
          have := cnt_lt' (S := r1 rd wr K M L nb t) (T := r1 rd wr K M L nb (t + 1)) (n := nb) (fun j hj e => r1_mono (rd := rd) (wr := wr) (K := K) (M := M) (L := L) t j hj e) hk h0 h1
          omega
  rcases grow nb with ⟨t', h1, h2⟩ | h
  · have := stay t' h2 (nb - t')
    rw [show t' + (nb - t') = nb from by omega] at this
    exact this
  · have h0 : cnt (r1 rd wr K M L nb nb) nb = 0 := by omega
    intro k hk
    have hk1 : r1 rd wr K M L nb nb k = true := by
      cases e : r1 rd wr K M L nb nb k
      · have := cnt_pos (S := r1 rd wr K M L nb nb) hk e
        omega
      · rfl
    rw [hk1]
    exact r1_mono nb k hk hk1
end
end Go.Proofs.YtolhldbjfbkpiaaDoorR.Sp
