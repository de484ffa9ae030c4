/-
  The text of a machine program with its slots turned round in a ring: plain mathematics.
-/
import Derived.Test.YtccndnckceagfabDoorHRen1
import Derived.Test.YtccndnckceagfabDoorHWrt1
import Derived.Test.YtccndnckceagfabDoorHSnd7
namespace Go.Proofs.YtccndnckceagfabDoor.Sp

/-- a slot's byte, so many further on; any other byte stays -/
def tsl (n : Nat) (c : Int) : Int := if rgO c = -1 then c else B alpha (((rgO c).toNat + n) % 52)
theorem slO_tsl (n : Nat) (c : Int) : slO (tsl n c) = sg n (slO c) := by
  have hb := rgO_bd c
  unfold tsl
  by_cases e : rgO c = -1
  · rw [if_pos e]
    have : slO c = -1 := by unfold slO; rw [if_pos e]
    rw [this]
    rfl
  · rw [if_neg e]
    have h2 := alpha_yes (((rgO c).toNat + n) % 52) _ (Nat.mod_lt _ (by decide)) rfl
    have h3 : slO c = 10 + rgO c := by unfold slO; rw [if_neg e]
    unfold slO
    rw [h2, if_neg (by omega), if_neg e]
    unfold sg
    rw [if_pos (by omega)]
    omega
theorem tsl_no {n : Nat} {c : Int} (h : slO c = -1) : tsl n c = c := by
  unfold tsl
  have hb := rgO_bd c
  by_cases e : rgO c = -1
  · rw [if_pos e]
  · unfold slO at h
    rw [if_neg e] at h
    omega
/-- the bytes of the turned text -/
def rsB (c : Nat → Int) (n size j : Nat) : Int :=
  if j % 4 = 1 ∧ (c (j - 1) = 62 ∨ c (j - 1) = 126) ∧ j + 2 < size then tsl n (c j)
  else if j % 4 = 2 ∧ c (j - 2) = 60 ∧ j + 1 < size then tsl n (c j)
  else c j
structure Rs (n : Nat) (t t' : ByteArray) : Prop where
  size : t'.size = t.size
  at' : ∀ j, j < t.size → B t' j = rsB (B t) n t.size j
theorem sg_low (n : Nat) {p : Int} (h : p < 10) : sg n p = p := by
  unfold sg
  rw [if_neg (by omega)]
theorem rgK_low {k : Int} (hk : 6 ≤ k ∧ k ≤ 10) (c : Int) : rgK k c < 10 := by
  unfold rgK
  rw [if_neg (by omega)]
  split <;> omega
theorem sg_ne (n : Nat) (p : Int) : (sg n p != -1) = (p != -1) := by
  have := sg_neg n p
  simp only [bne, this]
/-- one instruction of the turned text -/
theorem rs_ins {k : Int} (hk : 6 ≤ k ∧ k ≤ 10) (n : Nat) {c c' : Nat → Int} {q : Nat} (h0 : c' (4 * q) = c (4 * q))
    (h1 : c' (4 * q + 1) = if c (4 * q) = 62 ∨ c (4 * q) = 126 then tsl n (c (4 * q + 1)) else c (4 * q + 1))
    (h2 : c' (4 * q + 2) = if c (4 * q) = 60 then tsl n (c (4 * q + 2)) else c (4 * q + 2)) (h3 : c' (4 * q + 3) = c (4 * q + 3)) :
    dokK k c' q = dokK k c q ∧ (dokK k c q = true → insK k c' q = reI n (insK k c q)) := by
  have hk0 : ¬ k = 0 := by omega
  have R := fun b => rgK_low hk b
  by_cases e62 : c (4 * q) = 62
  · have hs : shpK k 62 = ⟨#[68, 120, 46]⟩ := by simp [shpK, hk0]
    obtain ⟨r1, r2⟩ := dok_read (c := c) e62 hs
    obtain ⟨r3, r4⟩ := dok_read (c := c') (h0.trans e62) hs
    rw [if_pos (Or.inl e62)] at h1
    rw [if_neg (by omega)] at h2
    have p1 : ∀ b, plO k 68 b = slO b := fun b => by unfold plO; rw [if_pos (Or.inl rfl)]
    have p2 : ∀ b, plO k 120 b = rgK k b := fun b => plO_plain k 120 b (by decide) (by decide) (by decide) (by decide)
    have t1 : ∀ b p, tkBK 68 b p = (p != -1) := fun b p => by simp [tkBK]
    rw [r1, r2, r3, r4, h1, h2, h3]
    show (tkBK 68 _ (plO k 68 _) && tkBK 120 _ (plO k 120 _) && tkBK 46 _ _) = (tkBK 68 _ (plO k 68 _) && tkBK 120 _ (plO k 120 _) && tkBK 46 _ _) ∧ (_ → (⟨62, plO k 68 _, plO k 120 _, -1, 0, -1, -1⟩ : Ins) = reI n ⟨62, plO k 68 _, plO k 120 _, -1, 0, -1, -1⟩)
    rw [p1, p1, p2, slO_tsl, t1, t1, sg_ne]
    refine ⟨rfl, fun _ => ?_⟩
    unfold reI
    simp only [sg_low n (R _), sg_low n (show (-1 : Int) < 10 by decide)]
  by_cases e126 : c (4 * q) = 126
  · have hs : shpK k 126 = ⟨#[113, 46, 46]⟩ := by simp [shpK, hk0]
    obtain ⟨r1, r2⟩ := dok_read (c := c) e126 hs
    obtain ⟨r3, r4⟩ := dok_read (c := c') (h0.trans e126) hs
    rw [if_pos (Or.inr e126)] at h1
    rw [if_neg (by omega)] at h2
    have p1 : plO k 113 (tsl n (c (4 * q + 1))) = sg n (plO k 113 (c (4 * q + 1))) := by
      by_cases e : slO (c (4 * q + 1)) = -1
      · rw [tsl_no e]
        have : plO k 113 (c (4 * q + 1)) = rgK k (c (4 * q + 1)) := by
          unfold plO
          rw [if_neg (by decide), if_neg (by intro h; exact h.2 e), if_neg (by intro h; exact absurd h.1 (by decide))]
        rw [this, sg_low n (R _)]
      · have e' : slO (tsl n (c (4 * q + 1))) ≠ -1 := by
          rw [slO_tsl]
          have h5 := sg_neg n (slO (c (4 * q + 1)))
          intro h6
          rw [h6] at h5
          simp at h5
          exact e h5
        unfold plO
        rw [if_neg (by decide), if_pos ⟨rfl, e'⟩, if_neg (by decide), if_pos ⟨rfl, e⟩, slO_tsl]
    have t1 : ∀ b p, tkBK 113 b p = (p != -1) := fun b p => by simp [tkBK]
    rw [r1, r2, r3, r4, h1, h2, h3]
    show (tkBK 113 _ (plO k 113 _) && tkBK 46 _ _ && tkBK 46 _ _) = (tkBK 113 _ (plO k 113 _) && tkBK 46 _ _ && tkBK 46 _ _) ∧ (_ → (⟨126, plO k 113 _, -1, -1, 0, -1, -1⟩ : Ins) = reI n ⟨126, plO k 113 _, -1, -1, 0, -1, -1⟩)
    rw [p1, t1, t1, sg_ne]
    refine ⟨rfl, fun _ => ?_⟩
    unfold reI
    simp only [sg_low n (show (-1 : Int) < 10 by decide)]
  rw [if_neg (by omega)] at h1
  by_cases e60 : c (4 * q) = 60
  · have hs : shpK k 60 = ⟨#[100, 88, 46]⟩ := by simp [shpK, hk0]
    obtain ⟨r1, r2⟩ := dok_read (c := c) e60 hs
    obtain ⟨r3, r4⟩ := dok_read (c := c') (h0.trans e60) hs
    rw [if_pos e60] at h2
    have p1 : ∀ b, plO k 88 b = slO b := fun b => by unfold plO; rw [if_pos (Or.inr rfl)]
    have p2 : ∀ b, plO k 100 b = rgK k b := fun b => plO_plain k 100 b (by decide) (by decide) (by decide) (by decide)
    have t1 : ∀ b p, tkBK 88 b p = (p != -1) := fun b p => by simp [tkBK]
    rw [r1, r2, r3, r4, h1, h2, h3]
    show (tkBK 100 _ (plO k 100 _) && tkBK 88 _ (plO k 88 _) && tkBK 46 _ _) = (tkBK 100 _ (plO k 100 _) && tkBK 88 _ (plO k 88 _) && tkBK 46 _ _) ∧ (_ → (⟨60, plO k 100 _, plO k 88 _, -1, 0, -1, -1⟩ : Ins) = reI n ⟨60, plO k 100 _, plO k 88 _, -1, 0, -1, -1⟩)
    rw [p1, p1, p2, slO_tsl, t1, t1, sg_ne]
    refine ⟨rfl, fun _ => ?_⟩
    unfold reI
    simp only [sg_low n (R _), sg_low n (show (-1 : Int) < 10 by decide)]
  rw [if_neg e60] at h2
  have hall : ∀ j, j < 3 → c' (4 * q + j + 1) = c (4 * q + j + 1) := by
    intro j hj
    have : j = 0 ∨ j = 1 ∨ j = 2 := by omega
    rcases this with rfl | rfl | rfl
    · exact h1
    · exact h2
    · exact h3
  have ed : dokK k c' q = dokK k c q := by
    unfold dokK
    rw [h0]
    exact dokBK_congr hall
  have ei : insK k c' q = insK k c q := by
    unfold insK
    rw [h0]
    exact tkNK_congr 3 hall
  refine ⟨ed, fun hd => ?_⟩
  rw [ei]
  have hf := form_of (by omega) hd
  have hm1 := sg_low n (show (-1 : Int) < 10 by decide)
  generalize insK k c q = i at *
  unfold reI
  cases hf with
  | ar ho _ _ _ => simp only [sg_low n (R _)]
  | num ho _ _ _ => simp only [sg_low n (R _), hm1]
  | two ho _ _ => simp only [sg_low n (R _), hm1]
  | sto ho _ _ => simp only [sg_low n (R _), hm1]
  | jmp ho _ => simp only [hm1]
  | cnd ho _ _ _ => simp only [sg_low n (R _), hm1]
  | ret ho _ _ => simp only [sg_low n (R _), hm1]
  | put _ ho => exact absurd ho e62
  | get _ ho => exact absurd ho e60
  | clrS _ ho => exact absurd ho e126
  | clrR _ ho => exact absurd ho e126
theorem Rs.four {n : Nat} {t t' : ByteArray} (h : Rs n t t') {q : Nat} (hq : 4 * q + 3 < t.size) :
    B t' (4 * q) = B t (4 * q) ∧ B t' (4 * q + 1) = (if B t (4 * q) = 62 ∨ B t (4 * q) = 126 then tsl n (B t (4 * q + 1)) else B t (4 * q + 1)) ∧ B t' (4 * q + 2) = (if B t (4 * q) = 60 then tsl n (B t (4 * q + 2)) else B t (4 * q + 2)) ∧ B t' (4 * q + 3) = B t (4 * q + 3) := by
  refine ⟨?_, ?_, ?_, ?_⟩
  · rw [h.at' _ (by omega)]
    unfold rsB
    rw [if_neg (by omega), if_neg (by omega)]
  · rw [h.at' _ (by omega)]
    unfold rsB
    rw [show 4 * q + 1 - 1 = 4 * q by omega]
    by_cases e : B t (4 * q) = 62 ∨ B t (4 * q) = 126
    · rw [if_pos ⟨by omega, e, by omega⟩, if_pos e]
    · rw [if_neg (fun x => e x.2.1), if_neg (by omega), if_neg e]
  · rw [h.at' _ (by omega)]
    unfold rsB
    rw [show 4 * q + 2 - 2 = 4 * q by omega, if_neg (by omega)]
    by_cases e : B t (4 * q) = 60
    · rw [if_pos ⟨by omega, e, by omega⟩, if_pos e]
    · rw [if_neg (fun x => e x.2.1), if_neg e]
  · rw [h.at' _ (by omega)]
    unfold rsB
    rw [if_neg (by omega), if_neg (by omega)]
theorem blksTo_congr {c c' : Nat → Int} : ∀ n, (∀ i, i < n → c' (4 * i) = c (4 * i)) → blksTo c' n = blksTo c n ∧ blocksTo c' n = blocksTo c n
  | 0, _ => ⟨rfl, rfl⟩
  | n + 1, h => by
    obtain ⟨i1, i2⟩ := blksTo_congr n (fun i hi => h i (by omega))
    simp only [blksTo, blocksTo]
    rw [h n (by omega), i1, i2]
    exact ⟨rfl, rfl⟩
theorem rs_prog {k : Int} (hk : 6 ≤ k ∧ k ≤ 10) {n : Nat} {t t' : ByteArray} (h : Rs n t t') :
    progB (B t') t'.size k = progB (B t) t.size k ∧ (progB (B t) t.size k = true → codeK k (B t') (t'.size / 4) = (codeK k (B t) (t.size / 4)).map (reI n) ∧ blksTo (B t') (t'.size / 4) = blksTo (B t) (t.size / 4)) := by
  rw [h.size]
  have hfour := fun q (hq : q < t.size / 4) => h.four (q := q) (by omega)
  obtain ⟨hb1, hb2⟩ := blksTo_congr (c := B t) (c' := B t') (t.size / 4) (fun i hi => (hfour i hi).1)
  have hins := fun q (hq : q < t.size / 4) => rs_ins hk n (hfour q hq).1 (hfour q hq).2.1 (hfour q hq).2.2.1 (hfour q hq).2.2.2
  have hok : ∀ nb q, q < t.size / 4 → okIns (B t') nb k q = okIns (B t) nb k q := by
    intro nb q hq
    rw [okK_eq _ nb k (by omega), okK_eq _ nb k (by omega), (hins q hq).1]
    cases hd : dokK k (B t) q
    · rfl
    · rw [(hins q hq).2 hd]
      rfl
  have e : progB (B t') t.size k = progB (B t) t.size k := by
    unfold progB
    rw [hb2]
    by_cases h4 : t.size / 4 = 0
    · by_cases h0 : t.size = 0
      · simp [h0]
      · have : t.size % 4 ≠ 0 := by omega
        simp [this]
    · rw [(hfour (t.size / 4 - 1) (by omega)).1]
      congr 1
      rw [Bool.eq_iff_iff, List.all_eq_true, List.all_eq_true]
      constructor
      · intro hh i hi
        rw [← hok _ i (List.mem_range.1 hi)]
        exact hh i hi
      · intro hh i hi
        rw [hok _ i (List.mem_range.1 hi)]
        exact hh i hi
  refine ⟨e, fun hp => ⟨?_, hb1⟩⟩
  have hd : ∀ i, i < t.size / 4 → dokK k (B t) i = true := by
    intro i hi
    cases hb : dokK k (B t) i
    · have := progK_bad k (by omega) (B t) t.size i hi hb
      rw [hp] at this
      cases this
    · rfl
  unfold codeK
  rw [List.map_map]
  refine List.map_congr_left (fun i hi => ?_)
  exact (hins i (List.mem_range.1 hi)).2 (hd i (List.mem_range.1 hi))
theorem acc_both {k : Int} (hk : 6 ≤ k ∧ k ≤ 10) {n : Nat} (hn : n < 52) {s t t' : ByteArray} (h : Rs n t t') {ok yes : Bool} {e f : Int} (h1 : AccIs s t k ok e) (h2 : AccIs s t' k yes f) : ok = yes ∧ e = f := by
  obtain ⟨hp, hc⟩ := rs_prog hk h
  unfold AccIs at h1 h2
  rw [hp, h.size] at h2
  rw [h.size] at hc
  rcases h1 with ⟨a, r1, r2⟩ | ⟨a, b, c, r1, r2⟩ | ⟨a, b, c, d, r1, r2⟩ | ⟨a, b, c, d, d', u, r1, r2⟩ | ⟨a, b, c, d, d', u, r1, r2⟩
  · rcases h2 with ⟨a', q1, q2⟩ | ⟨a', b', _⟩ | ⟨a', b', _⟩ | ⟨a', b', _⟩ | ⟨a', b', _⟩
    · exact ⟨r1.trans q1.symm, r2.trans q2.symm⟩
    all_goals omega
  · rcases h2 with ⟨a', q1, q2⟩ | ⟨a', b', c', q1, q2⟩ | ⟨a', b', c', _⟩ | ⟨a', b', c', _⟩ | ⟨a', b', c', _⟩
    · omega
    · exact ⟨r1.trans q1.symm, r2.trans q2.symm⟩
    all_goals (rw [c] at c'; cases c')
  · rcases h2 with ⟨a', q1, q2⟩ | ⟨a', b', c', q1, q2⟩ | ⟨a', b', c', _, q1, q2⟩ | ⟨a', b', c', e1, e2, _⟩ | ⟨a', b', c', e1, e2, _⟩
    · omega
    · rw [c] at c'; cases c'
    · exact ⟨r1.trans q1.symm, r2.trans q2.symm⟩
    · rcases d with d | d
      · rw [d] at e1; cases e1
      · rw [d] at e2; cases e2
    · rcases d with d | d
      · rw [d] at e1; cases e1
      · rw [d] at e2; cases e2
  · rcases h2 with ⟨a', q1, q2⟩ | ⟨a', b', c', q1, q2⟩ | ⟨a', b', c', e1, q1, q2⟩ | ⟨a', b', c', e1, e2, _, q1, q2⟩ | ⟨a', b', c', e1, e2, u', _⟩
    · omega
    · rw [c] at c'; cases c'
    · rcases e1 with e1 | e1
      · rw [d] at e1; cases e1
      · rw [d'] at e1; cases e1
    · exact ⟨r1.trans q1.symm, r2.trans q2.symm⟩
    · exact absurd u u'
  · rcases h2 with ⟨a', q1, q2⟩ | ⟨a', b', c', q1, q2⟩ | ⟨a', b', c', e1, q1, q2⟩ | ⟨a', b', c', e1, e2, u', q1, q2⟩ | ⟨a', b', c', e1, e2, u', q1, q2⟩
    · omega
    · rw [c] at c'; cases c'
    · rcases e1 with e1 | e1
      · rw [d] at e1; cases e1
      · rw [d'] at e1; cases e1
    · exact absurd u' u
    · obtain ⟨c1, c2⟩ := hc d'
      rw [c1, c2, acc_turned n hn] at q1
      exact ⟨r1.trans q1.symm, r2.trans q2.symm⟩
end Go.Proofs.YtccndnckceagfabDoor.Sp
