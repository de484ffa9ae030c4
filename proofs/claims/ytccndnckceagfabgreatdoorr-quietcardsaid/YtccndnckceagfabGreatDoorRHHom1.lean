/-
  A home for each register: plain mathematics.
-/
import Derived.Test.YtccndnckceagfabGreatDoorRHCoreQ
namespace Go.Proofs.YtccndnckceagfabGreatDoorR.Sp

/-- does none of those that r meets live at p? -/
def freeH (M : Nat → Nat → Bool) (H : Nat → Int) (r : Nat) (p : Int) : Bool := (List.range 52).all fun o => !(decide (H o = p) && M r o)
/-- the first place below n, from m on, where r can live; else its own slot -/
def chsH (M : Nat → Nat → Bool) (H : Nat → Int) (r : Nat) : Nat → Nat → Int
  | 0, _ => 10 + r
  | f + 1, m => if freeH M H r m = true then m else chsH M H r f (m + 1)
def stlH (H : Nat → Int) (r : Nat) (p : Int) : Nat → Int := fun x => if x = r then p else H x
def oneH (M : Nat → Nat → Bool) (c : Nat) (H : Nat → Int) (r : Nat) : Nat → Int := stlH H r (chsH M H r c 0)
def excH (H : Nat → Int) (a b : Int) : Nat → Int := fun r => if H r = a then b else if H r = b then a else H r
def coreL (L : Nat → Bool) : List Nat := (List.range 52).filter fun r => L r
theorem freeH_iff (M : Nat → Nat → Bool) (H : Nat → Int) (r : Nat) (p : Int) : freeH M H r p = true ↔ ∀ o, o < 52 → H o = p → M r o = false := by
  unfold freeH
  rw [List.all_eq_true]
  constructor
  · intro h o ho e
    have := h o (List.mem_range.2 ho)
    simp only [e, decide_true, Bool.true_and, Bool.not_eq_true'] at this
    exact this
  · intro h o ho
    have := h o (List.mem_range.1 ho)
    simp only [Bool.not_eq_true', Bool.and_eq_false_iff, decide_eq_false_iff_not]
    by_cases e : H o = p
    · exact Or.inr (this e)
    · exact Or.inl e
theorem chsH_cases (M : Nat → Nat → Bool) (H : Nat → Int) (r : Nat) : ∀ (f m : Nat), (∃ p : Nat, m ≤ p ∧ p < m + f ∧ chsH M H r f m = p ∧ freeH M H r p = true) ∨ (chsH M H r f m = 10 + r ∧ ∀ p : Nat, m ≤ p → p < m + f → freeH M H r p = false)
  | 0, m => Or.inr ⟨rfl, fun p h1 h2 => by omega⟩
  | f + 1, m => by
    simp only [chsH]
    by_cases h : freeH M H r m = true
    · rw [if_pos h]
      exact Or.inl ⟨m, Nat.le_refl _, by omega, rfl, h⟩
    · rw [if_neg h]
      rcases chsH_cases M H r f (m + 1) with ⟨p, h1, h2, h3, h4⟩ | ⟨h1, h2⟩
      · exact Or.inl ⟨p, by omega, by omega, h3, h4⟩
      · refine Or.inr ⟨h1, fun p h3 h4 => ?_⟩
        by_cases e : p = m
        · rw [e]; exact Bool.eq_false_iff.2 h
        · exact h2 p (by omega) (by omega)
/-- homes of those of a set, all different where they meet -/
structure HomeOf (M : Nat → Nat → Bool) (c : Nat) (P : Nat → Bool) (H : Nat → Int) : Prop where
  no : ∀ r, r < 52 → P r = false → H r = -1
  yes : ∀ r, r < 52 → P r = true → (0 ≤ H r ∧ H r < c) ∨ H r = 10 + r
  dif : ∀ r o, r < 52 → o < 52 → P r = true → P o = true → M r o = true → H r ≠ H o
/-- if all places are taken by those that r meets, it meets as many -/
theorem pigeon {M : Nat → Nat → Bool} {H : Nat → Int} {P : Nat → Bool} {r : Nat} (hP : ∀ o, o < 52 → 0 ≤ H o → P o = true) : ∀ c : Nat, (∀ p : Nat, p < c → ∃ o, o < 52 ∧ H o = p ∧ M r o = true) → c ≤ cT (fun o => M r o && P o && decide (0 ≤ H o ∧ H o < c)) 52
  | 0, _ => Nat.zero_le _
  | c + 1, h => by
    have ih := pigeon hP c (fun p hp => h p (by omega))
    obtain ⟨o, ho, h1, h2⟩ := h c (by omega)
    have hlt : cT (fun o => M r o && P o && decide (0 ≤ H o ∧ H o < (c : Int))) 52 < cT (fun o => M r o && P o && decide (0 ≤ H o ∧ H o < ((c + 1 : Nat) : Int))) 52 := by
      refine cT_lt (j := o) (fun x _ hx => ?_) ho ?_ ?_
      · simp only [Bool.and_eq_true, decide_eq_true_eq] at hx ⊢
        exact ⟨hx.1, hx.2.1, by omega⟩
      · show (M r o && P o && decide (0 ≤ H o ∧ H o < (c : Int))) = false
        rw [show decide (0 ≤ H o ∧ H o < (c : Int)) = false from decide_eq_false (by omega), Bool.and_false]
      · show (M r o && P o && decide (0 ≤ H o ∧ H o < ((c + 1 : Nat) : Int))) = true
        rw [h2, hP o ho (by omega), show decide (0 ≤ H o ∧ H o < ((c + 1 : Nat) : Int)) = true from decide_eq_true (by omega)]
        rfl
    omega
theorem HomeOf.one {M : Nat → Nat → Bool} (hM : ∀ a b, a < 52 → b < 52 → M a b = M b a) (hMr : ∀ a, a < 52 → M a a = false) {c : Nat} (hc10 : c ≤ 10) {P : Nat → Bool} {H : Nat → Int} (h : HomeOf M c P H) (r : Nat) (hr : r < 52) (hP : P r = false) : HomeOf M c (fun x => P x || x == r) (oneH M c H r) ∧ (∀ x, x < 52 → x ≠ r → oneH M c H r x = H x) ∧ ((cT (fun x => M r x && P x) 52 : Int) < c → 0 ≤ oneH M c H r r ∧ oneH M c H r r < c) := by
  have hat : oneH M c H r r = chsH M H r c 0 := by unfold oneH stlH; rw [if_pos rfl]
  have hne : ∀ x, x ≠ r → oneH M c H r x = H x := fun x hx => by unfold oneH stlH; rw [if_neg hx]
  have hcs := chsH_cases M H r c 0
  have hval : (∃ p : Nat, p < c ∧ oneH M c H r r = p ∧ freeH M H r p = true) ∨ (oneH M c H r r = 10 + r ∧ ∀ p : Nat, p < c → freeH M H r p = false) := by
    rw [hat]
    rcases hcs with ⟨p, _, h2, h3, h4⟩ | ⟨h1, h2⟩
    · exact Or.inl ⟨p, by omega, h3, h4⟩
    · exact Or.inr ⟨h1, fun p hp => h2 p (by omega) (by omega)⟩
  have hfresh : ∀ o, o < 52 → o ≠ r → P o = true → M r o = true → oneH M c H r r ≠ H o := by
    intro o ho hor hPo hMo e
    rcases hval with ⟨p, hp, h1, h2⟩ | ⟨h1, _⟩
    · have := (freeH_iff M H r p).1 h2 o ho (by rw [← e, h1])
      rw [this] at hMo
      cases hMo
    · rcases h.yes o ho hPo with h3 | h3
      · omega
      · omega
  refine ⟨⟨fun x hx hp => ?_, fun x hx hp => ?_, fun x o hx ho hpx hpo hm => ?_⟩, fun x _ hx => hne x hx, fun hc => ?_⟩
  · simp only [Bool.or_eq_false_iff, beq_eq_false_iff_ne] at hp
    rw [hne x hp.2]
    exact h.no x hx hp.1
  · by_cases e : x = r
    · subst e
      rcases hval with ⟨p, hp, h1, _⟩ | ⟨h1, _⟩
      · exact Or.inl (by omega)
      · exact Or.inr h1
    · rw [hne x e]
      refine h.yes x hx ?_
      simpa [e] using hp
  · by_cases e : x = r
    · by_cases e' : o = r
      · rw [e, e', hMr r hr] at hm; cases hm
      · rw [e, hne o e']
        rw [e] at hm
        exact hfresh o ho e' (by simpa [e'] using hpo) hm
    · by_cases e' : o = r
      · rw [e', hne x e]
        rw [e', hM x r hx hr] at hm
        exact fun e2 => hfresh x hx e (by simpa [e] using hpx) hm e2.symm
      · rw [hne x e, hne o e']
        exact h.dif x o hx ho (by simpa [e] using hpx) (by simpa [e'] using hpo) hm
  · rcases hval with ⟨p, hp, h1, _⟩ | ⟨_, h2⟩
    · omega
    · exfalso
      have hall : ∀ p : Nat, p < c → ∃ o, o < 52 ∧ H o = p ∧ M r o = true := by
        intro p hp
        have hf := h2 p hp
        unfold freeH at hf
        obtain ⟨o, ho, hn⟩ := List.all_eq_false.1 hf
        refine ⟨o, List.mem_range.1 ho, ?_⟩
        simpa using hn
      have h3 := pigeon (P := P) (fun o ho h0 => by
        cases hp : P o
        · have := h.no o ho hp; omega
        · rfl) c hall
      have h4 := cT_mono (S := fun o => M r o && P o && decide (0 ≤ H o ∧ H o < (c : Int))) (T := fun x => M r x && P x) 52 (fun x _ hx => by
        simp only [Bool.and_eq_true] at hx ⊢
        exact hx.1)
      omega
theorem HomeOf.congr {M : Nat → Nat → Bool} {c : Nat} {P Q : Nat → Bool} {H : Nat → Int} (h : HomeOf M c P H) (hq : ∀ r, r < 52 → P r = Q r) : HomeOf M c Q H :=
  ⟨fun r hr hp => h.no r hr (by rw [hq r hr]; exact hp), fun r hr hp => h.yes r hr (by rw [hq r hr]; exact hp), fun r o hr ho h1 h2 => h.dif r o hr ho (by rw [hq r hr]; exact h1) (by rw [hq o ho]; exact h2)⟩
/-- the core first -/
theorem home_core {M : Nat → Nat → Bool} (hM : ∀ a b, a < 52 → b < 52 → M a b = M b a) (hMr : ∀ a, a < 52 → M a a = false) {c : Nat} (hc10 : c ≤ 10) : ∀ (l : List Nat) (P : Nat → Bool) (H : Nat → Int), HomeOf M c P H → (∀ r ∈ l, r < 52 ∧ P r = false) → l.Nodup → HomeOf M c (fun x => P x || l.contains x) (l.foldl (oneH M c) H)
  | [], P, H, h, _, _ => h.congr (fun r _ => by simp)
  | r :: l, P, H, h, hl, hn => by
    have h1 := (h.one hM hMr hc10 r (hl r (by simp)).1 (hl r (by simp)).2).1
    rw [List.nodup_cons] at hn
    have h2 := home_core hM hMr hc10 l _ _ h1 (fun x hx => ⟨(hl x (by simp [hx])).1, by
      have := (hl x (by simp [hx])).2
      have hne : x ≠ r := fun e => hn.1 (e ▸ hx)
      simp [this, hne]⟩) hn.2
    refine h2.congr (fun x _ => ?_)
    show (P x || x == r || l.contains x) = (P x || (r :: l).contains x)
    rw [List.contains_cons, Bool.or_assoc]
/-- then those that were taken away, the last first -/
theorem home_taken {S : Nat → Bool} {M : Nat → Nat → Bool} (hM : ∀ a b, a < 52 → b < 52 → M a b = M b a) (hMr : ∀ a, a < 52 → M a a = false) {c : Nat} (hc10 : c ≤ 10) {tk : List Nat} {L : Nat → Bool} (hp : PeelT S M c tk L) : ∀ H, HomeOf M c L H → HomeOf M c S (tk.reverse.foldl (oneH M c) H) ∧ ∀ r, r < 52 → (L r = true → (tk.reverse.foldl (oneH M c) H) r = H r) ∧ (L r = false → S r = true → 0 ≤ (tk.reverse.foldl (oneH M c) H) r ∧ (tk.reverse.foldl (oneH M c) H) r < c) := by
  induction hp with
  | start => exact fun H h => ⟨h, fun r _ => ⟨fun _ => rfl, fun h1 h2 => by rw [h1] at h2; cases h2⟩⟩
  | @away tk L hp r hr hL hc ih =>
    intro H h
    rw [List.reverse_append, List.reverse_singleton, List.singleton_append, List.foldl_cons]
    obtain ⟨a1, a2, a3⟩ := h.one hM hMr hc10 r hr (by simp)
    have a1' : HomeOf M c L (oneH M c H r) := a1.congr (fun x _ => by
      show ((L x && x != r) || x == r) = L x
      by_cases e : x = r
      · rw [e, hL]; simp
      · have e1 : (x != r) = true := by simp [e]
        have e2 : (x == r) = false := by simp [e]
        rw [e1, e2, Bool.and_true, Bool.or_false])
    obtain ⟨b1, b2⟩ := ih _ a1'
    refine ⟨b1, fun x hx => ⟨fun h1 => ?_, fun h1 h2 => ?_⟩⟩
    · simp only [Bool.and_eq_true, bne_iff_ne] at h1
      rw [(b2 x hx).1 h1.1, a2 x hx h1.2]
    · by_cases e : x = r
      · subst e
        rw [(b2 x hx).1 hL]
        refine a3 ?_
        have h4 := cT_mono (S := fun y => M x y && (L y && y != x)) (T := fun y => M x y && L y) 52 (fun y _ hy => by
          simp only [Bool.and_eq_true] at hy ⊢
          exact ⟨hy.1, hy.2.1⟩)
        omega
      · refine (b2 x hx).2 ?_ h2
        simpa [e] using h1
/-- all who live at one of two places live at the other -/
theorem HomeOf.exc {M : Nat → Nat → Bool} {c : Nat} (hc10 : c ≤ 10) {P : Nat → Bool} {H : Nat → Int} (h : HomeOf M c P H) {a b : Int} (ha : 0 ≤ a ∧ a < c) (hb : 0 ≤ b ∧ b < c) : HomeOf M c P (excH H a b) := by
  refine ⟨fun r hr hp => ?_, fun r hr hp => ?_, fun r o hr ho h1 h2 hm e => ?_⟩
  · have := h.no r hr hp
    unfold excH
    rw [if_neg (by omega), if_neg (by omega), this]
  · rcases h.yes r hr hp with h1 | h1
    · unfold excH
      repeat' split
      all_goals first | (exact Or.inl (by omega)) | (exact Or.inr (by omega))
    · unfold excH
      rw [if_neg (by omega), if_neg (by omega)]
      exact Or.inr h1
  · have hd := h.dif r o hr ho h1 h2 hm
    unfold excH at e
    repeat' split at e
    all_goals omega
theorem excH_slot {H : Nat → Int} {c : Nat} (hc10 : c ≤ 10) {a b : Int} (ha : 0 ≤ a ∧ a < c) (hb : 0 ≤ b ∧ b < c) (r : Nat) : (10 ≤ excH H a b r ↔ 10 ≤ H r) := by
  unfold excH
  repeat' split
  all_goals omega
def argN (n : Nat) : Nat := if n = 0 then 0 else if n = 1 then 1 else if n = 2 then 26 else 27
/-- the first n arguments are seated -/
def seatH (lv : Nat → Bool) (H : Nat → Int) : Nat → Nat → Int
  | 0 => H
  | n + 1 => if lv (argN n) = true ∧ seatH lv H n (argN n) < 10 then excH (seatH lv H n) (seatH lv H n (argN n)) n else seatH lv H n
theorem argN_lt (n : Nat) : argN n < 52 := by
  unfold argN
  repeat' split
  all_goals omega
theorem argN_ne {n m : Nat} (hn : n < 4) (hm : m < 4) (h : n ≠ m) : argN n ≠ argN m := by
  unfold argN
  repeat' split
  all_goals omega
theorem seat_ok {M : Nat → Nat → Bool} {c : Nat} (hc4 : 4 ≤ c) (hc10 : c ≤ 10) {P : Nat → Bool} {H : Nat → Int} {lv : Nat → Bool} (hl : ∀ r, r < 52 → lv r = true → P r = true) (hm : ∀ r o, r < 52 → o < 52 → r ≠ o → lv r = true → lv o = true → M r o = true) (h : HomeOf M c P H) : ∀ n, n ≤ 4 → HomeOf M c P (seatH lv H n) ∧ (∀ r, r < 52 → (10 ≤ seatH lv H n r ↔ 10 ≤ H r)) ∧ ∀ m, m < n → lv (argN m) = true → seatH lv H n (argN m) < 10 → seatH lv H n (argN m) = m
  | 0, _ => ⟨h, fun _ _ => Iff.rfl, fun m hm => by omega⟩
  | n + 1, hn => by
    obtain ⟨i1, i2, i3⟩ := seat_ok hc4 hc10 hl hm h n (by omega)
    simp only [seatH]
    by_cases e : lv (argN n) = true ∧ seatH lv H n (argN n) < 10
    · rw [if_pos e]
      have hp := i1.yes (argN n) (argN_lt n) (hl _ (argN_lt n) e.1)
      have ha : 0 ≤ seatH lv H n (argN n) ∧ seatH lv H n (argN n) < c := by omega
      have hb : (0 : Int) ≤ (n : Int) ∧ (n : Int) < c := by omega
      refine ⟨i1.exc hc10 ha hb, fun r hr => (excH_slot hc10 ha hb r).trans (i2 r hr), fun m hm' hlm hlt => ?_⟩
      by_cases emn : m = n
      · subst emn
        unfold excH
        rw [if_pos rfl]
      · have hd := i1.dif (argN m) (argN n) (argN_lt m) (argN_lt n) (hl _ (argN_lt m) hlm) (hl _ (argN_lt n) e.1) (hm _ _ (argN_lt m) (argN_lt n) (argN_ne (by omega) (by omega) emn) hlm e.1)
        have h10 : seatH lv H n (argN m) < 10 := by
          have := (excH_slot (H := seatH lv H n) hc10 ha hb (argN m))
          omega
        have h5 := i3 m (by omega) hlm h10
        unfold excH
        rw [if_neg hd, if_neg (by omega)]
        exact h5
    · rw [if_neg e]
      refine ⟨i1, i2, fun m hm' hlm hlt => ?_⟩
      by_cases emn : m = n
      · subst emn
        exact absurd ⟨hlm, hlt⟩ e
      · exact i3 m (by omega) hlm hlt
/-- how many live in slots -/
theorem slots_core {S L : Nat → Bool} {M : Nat → Nat → Bool} {c : Nat} (hc10 : c ≤ 10) {H : Nat → Int} (h : HomeOf M c S H) (ht : ∀ r, r < 52 → L r = false → S r = true → H r < c) : cT (fun r => decide (10 ≤ H r)) 52 ≤ cT L 52 := by
  refine cT_mono 52 (fun r hr h1 => ?_)
  simp only [decide_eq_true_eq] at h1
  cases hL : L r
  · cases hS : S r
    · have := h.no r hr hS; omega
    · have := ht r hr hL hS; omega
  · rfl
end Go.Proofs.YtccndnckceagfabGreatDoorR.Sp
