/-
  Two runs that differ in secrets alone: plain mathematics.
-/
import Derived.Test.YtccndnckceagfabGreatDoorRHSnd5
namespace Go.Proofs.YtccndnckceagfabGreatDoorR.Sp

/-- two states of a source program of which the same is public -/
structure LowS (m n : PSt) : Prop where
  pl : ∀ r : Int, r < 26 → rdP m r = rdP n r
  pub : m.pub = n.pub
  tr : m.trace = n.trace
  st : m.status = n.status
  en : m.ended = n.ended
/-- two states of a machine that show the same -/
structure LowM (m n : PSt) : Prop where
  pub : m.pub = n.pub
  tr : m.trace = n.trace
  st : m.status = n.status
  en : m.ended = n.ended
theorem LowS.wr {m n : PSt} (h : LowS m n) (d v u : Int) (hd : d < 26 → v = u) : LowS (wrP m d v) (wrP n d u) := by
  obtain ⟨a1, a2, a3, a4, a5, a6⟩ := wrP_all m d v
  obtain ⟨b1, b2, b3, b4, b5, b6⟩ := wrP_all n d u
  refine ⟨fun r hr => ?_, by rw [a1, b1, h.pub], by rw [a3, b3, h.tr], by rw [a4, b4, h.st], by rw [a6, b6, h.en]⟩
  rw [rdP_wrP, rdP_wrP]
  by_cases e : r = d ∧ 0 ≤ d ∧ d < 62
  · rw [if_pos e, if_pos e]; exact hd (by omega)
  · rw [if_neg e, if_neg e]; exact h.pl r hr
theorem LowS.sh {m n : PSt} (h : LowS m n) (t : ByteArray) : LowS (shP m t) (shP n t) :=
  ⟨h.pl, h.pub, by show m.trace ++ t = n.trace ++ t; rw [h.tr], h.st, h.en⟩
/-- what a step shows, and where it goes on: of an instruction and the value of its x -/
def pcT (o v : Int) : ByteArray := if o = 63 then (if v ≠ 0 then ⟨#[63, 49]⟩ else ⟨#[63, 48]⟩) else if o = 108 ∨ o = 76 ∨ o = 115 ∨ o = 83 then (if 8 ≤ v then memT o v ++ ⟨#[33]⟩ else memT o v) else ⟨#[]⟩
def nxT (F : Int → Int) (a : Int) (i : Ins) (v : Int) : Int := if i.o = 106 then F i.k else if i.o = 63 then (if v ≠ 0 then F i.k else F i.m) else a + 1
theorem step_next (F : Int → Int) (m : PSt) (a : Int) (i : Ins) : (stepP F m a i).2 = nxT F a i (rdP m i.x) := by
  unfold stepP nxT
  by_cases h1 : i.o = 106
  · rw [if_pos h1, if_pos h1]
  rw [if_neg h1, if_neg h1]
  by_cases h2 : i.o = 63
  · rw [if_pos h2, if_pos h2]
    split <;> rfl
  rw [if_neg h2, if_neg h2]
  repeat' split
  all_goals rfl
theorem app_nil (t : ByteArray) : t ++ (⟨#[]⟩ : ByteArray) = t := ByteArray.append_empty
theorem app_assoc (a b c : ByteArray) : a ++ b ++ c = a ++ (b ++ c) := ByteArray.append_assoc
theorem step_trace (F : Int → Int) (m : PSt) (a : Int) (i : Ins) (hi : i.o ≠ 62 ∧ i.o ≠ 60 ∧ i.o ≠ 126) : (stepP F m a i).1.trace = m.trace ++ pcT i.o (rdP m i.x) := by
  have hw : ∀ (m : PSt) p v, (wrP m p v).trace = m.trace := fun m p v => (wrP_all m p v).2.2.1
  unfold stepP pcT
  by_cases h1 : i.o = 106
  · rw [if_pos h1, if_neg (by omega), if_neg (by omega), app_nil]
  by_cases h2 : i.o = 63
  · rw [if_neg h1, if_pos h2, if_pos h2]
    split <;> rfl
  by_cases h3 : i.o = 114
  · rw [if_neg h1, if_neg h2, if_pos h3, if_neg h2, if_neg (by omega), app_nil]
    rfl
  by_cases h4 : i.o = 108 ∨ i.o = 76 ∨ i.o = 115 ∨ i.o = 83
  · rw [if_neg h1, if_neg h2, if_neg h3, if_pos h4, if_neg h2, if_pos h4]
    show (reaP m i).trace = _
    unfold reaP
    simp only
    by_cases h8 : 8 ≤ rdP m i.x
    · rw [if_pos h8, if_pos h8]
      show (m.trace ++ memT i.o (rdP m i.x)) ++ ⟨#[33]⟩ = _
      rw [app_assoc]
    · rw [if_neg h8, if_neg h8]
      repeat' split
      all_goals first | (rw [hw]; rfl) | rfl
  · rw [if_neg h1, if_neg h2, if_neg h3, if_neg h4, if_neg (by omega), if_neg h2, if_neg h4, app_nil]
    exact hw _ _ _
/-- does a source's instruction keep its secrets? what is looked at is public -/
theorem show_x {j : Ins} (hs : showI j = false) (ho : j.o = 63 ∨ j.o = 108 ∨ j.o = 76 ∨ j.o = 115 ∨ j.o = 83) : j.x < 26 := by
  unfold showI secB at hs
  have hna : arithB j.o = false := by
    unfold arithB
    simp only [Bool.or_eq_false_iff, beq_eq_false_iff_ne]
    omega
  rw [if_neg (by rw [hna]; simp; omega)] at hs
  by_cases h1 : j.o = 108 ∨ j.o = 83 ∨ j.o = 63
  · rw [if_pos h1] at hs
    simp only [decide_eq_false_iff_not] at hs
    omega
  rw [if_neg h1] at hs
  by_cases h2 : j.o = 76
  · rw [if_pos h2] at hs
    simp only [Bool.or_eq_false_iff, decide_eq_false_iff_not] at hs
    omega
  rw [if_neg h2, if_pos (by omega)] at hs
  simp only [Bool.or_eq_false_iff, decide_eq_false_iff_not] at hs
  omega
/-- a step of both -/
theorem low_step {m n : PSt} (h : LowS m n) (F : Int → Int) (a : Int) {j : Ins} (hj : InsS j) (hs : showI j = false) : LowS (stepP F m a j).1 (stepP F n a j).1 ∧ (stepP F m a j).2 = (stepP F n a j).2 := by
  have hx : (j.o = 63 ∨ j.o = 108 ∨ j.o = 76 ∨ j.o = 115 ∨ j.o = 83) → rdP m j.x = rdP n j.x := fun ho => h.pl _ (show_x hs ho)
  constructor
  · unfold stepP
    by_cases h1 : j.o = 106
    · rw [if_pos h1, if_pos h1]; exact h
    by_cases h2 : j.o = 63
    · rw [if_neg h1, if_neg h1, if_pos h2, if_pos h2, hx (Or.inl h2)]
      split
      · exact h.sh _
      · exact h.sh _
    by_cases h3 : j.o = 114
    · rw [if_neg h1, if_neg h1, if_neg h2, if_neg h2, if_pos h3, if_pos h3]
      exact ⟨h.pl, h.pub, h.tr, rfl, rfl⟩
    by_cases h4 : j.o = 108 ∨ j.o = 76 ∨ j.o = 115 ∨ j.o = 83
    · rw [if_neg h1, if_neg h1, if_neg h2, if_neg h2, if_neg h3, if_neg h3, if_pos h4, if_pos h4]
      show LowS (reaP m j) (reaP n j)
      unfold reaP
      rw [hx (Or.inr h4)]
      generalize rdP n j.x = v
      have h' := h.sh (memT j.o v)
      by_cases h8 : 8 ≤ v
      · simp only [if_pos h8]
        have h'' := h'.sh ⟨#[33]⟩
        exact ⟨h''.pl, h''.pub, h''.tr, rfl, rfl⟩
      · simp only [if_neg h8]
        by_cases h5 : j.o = 108
        · simp only [if_pos h5]
          refine h'.wr _ _ _ (fun _ => ?_)
          rw [h'.pub]
        simp only [if_neg h5]
        by_cases h6 : j.o = 76
        · simp only [if_pos h6]
          refine h'.wr _ _ _ (fun hd => ?_)
          exfalso
          unfold showI secB at hs
          rw [if_neg (by rw [h6]; decide), if_neg (by rw [h6]; decide), if_pos h6] at hs
          simp only [Bool.or_eq_false_iff, decide_eq_false_iff_not, Bool.not_eq_false', decide_eq_true_eq] at hs
          omega
        simp only [if_neg h6]
        by_cases h7 : j.o = 115
        · simp only [if_pos h7]
          have hy : rdP (shP m (memT j.o v)) j.y = rdP (shP n (memT j.o v)) j.y := by
            refine h'.pl _ ?_
            unfold showI secB at hs
            rw [if_neg (by rw [h7]; decide), if_neg (by rw [h7]; decide), if_neg (by rw [h7]; decide), if_pos h7] at hs
            simp only [Bool.or_eq_false_iff, decide_eq_false_iff_not] at hs
            omega
          rw [hy]
          exact ⟨h'.pl, by show upd _ _ _ = upd _ _ _; rw [h'.pub], h'.tr, h'.st, h'.en⟩
        · simp only [if_neg h7]
          exact ⟨h'.pl, h'.pub, h'.tr, h'.st, h'.en⟩
    · have hno := hj.no
      rw [if_neg h1, if_neg h1, if_neg h2, if_neg h2, if_neg h3, if_neg h3, if_neg h4, if_neg h4, if_neg (by omega), if_neg (by omega)]
      refine h.wr _ _ _ (fun hd => ?_)
      rcases hj.f.ops with o | o | o | o | o | o | o | o | o | o | o | o | o
      · have hsh : ¬ ((26 ≤ j.x) ∨ (26 ≤ j.y)) := by
          unfold showI secB at hs
          rw [if_pos (Or.inl o)] at hs
          simp only [Bool.and_eq_false_iff, Bool.not_eq_false', decide_eq_true_eq, Bool.or_eq_false_iff, decide_eq_false_iff_not] at hs
          omega
        rw [h.pl j.x (by omega), h.pl j.y (by omega)]
      · unfold cmpP
        rw [if_neg (by rw [o]; decide), if_neg (by omega), if_neg (by rw [o]; decide), if_neg (by omega)]
      · have hsh : ¬ ((26 ≤ j.x) ∨ (26 ≤ j.y)) := by
          unfold showI secB at hs
          rw [if_pos (Or.inr o)] at hs
          simp only [Bool.and_eq_false_iff, Bool.not_eq_false', decide_eq_true_eq, Bool.or_eq_false_iff, decide_eq_false_iff_not] at hs
          omega
        rw [h.pl j.x (by omega), h.pl j.y (by omega)]
      all_goals omega
  · rw [step_next, step_next]
    unfold nxT
    by_cases h1 : j.o = 106
    · rw [if_pos h1, if_pos h1]
    by_cases h2 : j.o = 63
    · rw [if_neg h1, if_neg h1, if_pos h2, if_pos h2, hx (Or.inl h2)]
    · rw [if_neg h1, if_neg h1, if_neg h2, if_neg h2]
/-- whole runs of the source -/
theorem low_walk {C : List Ins} (hC : ∀ j (h : j < C.length), InsS C[j]) (hs : ∀ j (h : j < C.length), showI C[j] = false) (F : Int → Int) : ∀ (f : Nat) (m n : PSt) (a : Int), LowS m n → LowS (walkP C F f m a) (walkP C F f n a)
  | 0, _, _, _, h => h
  | f + 1, m, n, a, h => by
    simp only [walkP]
    rw [h.en]
    split
    · exact h
    · split
      · rename_i hb
        obtain ⟨l1, l2⟩ := low_step h F a (hC _ hb.2) (hs _ hb.2)
        rw [l2]
        exact low_walk hC hs F f _ _ _ l1
      · exact h

section
variable {k : Int} {C : List Ins} {L : List (Nat × Nat)} {D : List Ins} {M : List (Nat × Nat)} {G : Nat → Option (Nat → Nat)} {J : Nat → Nat → Prop} {c e0 eR : Nat}
/-- copies of the source, in thought, for both -/
theorem pass_low (P : Play k C L D M G J c e0 eR) (hs : ∀ j (h : j < C.length), showI C[j] = false) (μ ν : PSt) : ∀ (g : Nat) (E : Nat → Nat) (q : Nat) (m n : PSt), RelP E m μ → RelP E n ν → LowS m n → ∃ m' n', RelP (passP C g E q).1 m' μ ∧ RelP (passP C g E q).1 n' ν ∧ LowS m' n'
  | 0, E, q, m, n, h1, h2, h3 => ⟨m, n, h1, h2, h3⟩
  | g + 1, E, q, m, n, h1, h2, h3 => by
    simp only [passP]
    split
    · rename_i hq
      split
      · rename_i ho
        exact pass_low P hs μ ν g _ _ _ _ (pass_step (P.src q hq) ho h1 (strP L) q).1 (pass_step (P.src q hq) ho h2 (strP L) q).1 (low_step h3 (strP L) q (P.src q hq) (hs q hq)).1
      · exact ⟨m, n, h1, h2, h3⟩
    · exact ⟨m, n, h1, h2, h3⟩
theorem mv_low {μ ν : PSt} (h : LowM μ ν) (F : Int → Int) (a : Int) {i : Ins} (hm : isMv i.o = true) : LowM (stepP F μ a i).1 (stepP F ν a i).1 := by
  have hw : ∀ (m n : PSt) p v u, LowM m n → LowM (wrP m p v) (wrP n p u) := by
    intro m n p v u h
    obtain ⟨a1, a2, a3, a4, a5, a6⟩ := wrP_all m p v
    obtain ⟨b1, b2, b3, b4, b5, b6⟩ := wrP_all n p u
    exact ⟨by rw [a1, b1, h.pub], by rw [a3, b3, h.tr], by rw [a4, b4, h.st], by rw [a6, b6, h.en]⟩
  have hsl : ∀ (m n : PSt) o p, LowM m n → LowM (sltP m o p) (sltP n o p) := by
    intro m n o p h
    unfold sltP
    split
    · exact h
    · exact ⟨h.pub, by show m.trace ++ _ = n.trace ++ _; rw [h.tr], h.st, h.en⟩
  simp only [isMv, Bool.or_eq_true, beq_iff_eq] at hm
  have e : ∀ m : PSt, stepP F m a i = if i.o = 62 ∨ i.o = 60 ∨ i.o = 126 then (movP m i, a + 1) else (wrP m i.d (cmpP i.o (rdP m i.x) (rdP m i.y) i.n), a + 1) := by
    intro m
    unfold stepP
    rw [if_neg (show ¬ i.o = 106 by omega), if_neg (show ¬ i.o = 63 by omega), if_neg (show ¬ i.o = 114 by omega), if_neg (show ¬ (i.o = 108 ∨ i.o = 76 ∨ i.o = 115 ∨ i.o = 83) by omega)]
  rw [e, e]
  by_cases h3 : i.o = 62 ∨ i.o = 60 ∨ i.o = 126
  · rw [if_pos h3, if_pos h3]
    exact hw _ _ _ _ _ (hsl _ _ _ _ (hsl _ _ _ _ h))
  · rw [if_neg h3, if_neg h3]
    exact hw _ _ _ _ _ h
theorem quiet_all (P : Play k C L D M G J c e0 eR) (hs : ∀ j (h : j < C.length), showI C[j] = false) : ∀ (n : Nat) (f b : Nat) (hb : b < L.length) (hb' : b < M.length) (h2 : L[b].2 < C.length) (E E' : Nat → Nat) (q a : Nat) (m m' μ ν : PSt), playP C D M[b].2 f E q a = some (E', L[b].2 + 1) →
    (∀ s : Nat, (((s : Int) = C[L[b].2].k) ∨ ((s : Int) = C[L[b].2].m)) → ∃ Es, G s = some Es ∧ ∀ v p, hasP Es v p = true → hasP E' v p = true) →
    M[b].1 ≤ a → a ≤ M[b].2 → M[b].2 < f + a → RelP E m μ → RelP E m' ν → LowS m m' → LowM μ ν → LowM (walkP D (strP M) n μ a) (walkP D (strP M) n ν a)
  | 0, _, _, _, _, _, _, _, _, _, _, _, _, _, _, _, _, _, _, _, _, _, hM => hM
  | n + 1, f, b, hb, hb', h2, E, E', q, a, m, m', μ, ν, hp, hpost, ha1, ha2, hf, hR, hR', hLo, hM => by
    have hlast := P.db.lt b hb'
    have haD : a < D.length := by omega
    obtain ⟨f', rfl⟩ : ∃ f', f = f' + 1 := ⟨f - 1, by omega⟩
    obtain ⟨m1, m1', hR1, hR1', hLo1⟩ := pass_low P hs μ ν C.length E q m m' hR hR' hLo
    simp only [playP] at hp
    rw [dif_pos ⟨ha2, haD⟩] at hp
    generalize passP C C.length E q = r at *
    obtain ⟨E1, q1⟩ := r
    simp only at hp hR1 hR1'
    rw [walkP_step D _ _ hR.en' a haD, walkP_step D _ _ hR'.en' a haD]
    by_cases hmv : isMv D[a].o = true
    · rw [if_pos hmv] at hp
      obtain ⟨s1, s2⟩ := move_step P.k10 (P.mac a haD) hmv hR1 (strP M) (a : Int)
      obtain ⟨s1', s2'⟩ := move_step P.k10 (P.mac a haD) hmv hR1' (strP M) (a : Int)
      have hane : a ≠ M[b].2 := by
        rintro rfl
        have := P.db.ends b hb' haD
        rw [mv_notEnd hmv] at this
        cases this
      rw [s2, s2']
      exact quiet_all P hs n f' b hb hb' h2 (moveP E1 D[a]) E' q1 (a + 1) m1 m1' _ _ hp hpost (by omega) (by omega) (by omega) s1 s1' hLo1 (mv_low hM (strP M) a hmv)
    · rw [if_neg hmv] at hp
      rw [Bool.not_eq_true] at hmv
      by_cases hqC : q1 < C.length
      · rw [dif_pos hqC] at hp
        by_cases hfo : followP E1 C[q1] D[a] = true
        · rw [if_pos hfo] at hp
          have hmvn : D[a].o ≠ 62 ∧ D[a].o ≠ 60 ∧ D[a].o ≠ 126 := by
            simp only [isMv, Bool.or_eq_false_iff, beq_eq_false_iff_ne] at hmv
            omega
          have hfo' := hfo
          unfold followP sameOp at hfo'
          simp only [Bool.and_eq_true, beq_iff_eq] at hfo'
          have hop : D[a].o = C[q1].o := hfo'.1.1.1.1.1.1
          have hrx := hfo'.1.1.2
          have hjlt : C[q1].x < 52 := by
            have hj := P.src q1 hqC
            rcases hj.f.lt hj.no.2.1 with h | h | h
            · exact h.1
            · exact absurd h hj.no.1
            · exact absurd h hj.no.2.2
          have vx : rdP μ D[a].x = rdP m1 C[q1].x := mayRd_val hR1.hol hjlt hrx
          have vx' : rdP ν D[a].x = rdP m1' C[q1].x := mayRd_val hR1'.hol hjlt hrx
          have heq : (D[a].o = 63 ∨ D[a].o = 108 ∨ D[a].o = 76 ∨ D[a].o = 115 ∨ D[a].o = 83) → rdP μ D[a].x = rdP ν D[a].x := by
            intro ho
            rw [vx, vx', hLo1.pl _ (show_x (hs q1 hqC) (by omega))]
          have hpc : pcT D[a].o (rdP μ D[a].x) = pcT D[a].o (rdP ν D[a].x) := by
            by_cases ho : D[a].o = 63 ∨ D[a].o = 108 ∨ D[a].o = 76 ∨ D[a].o = 115 ∨ D[a].o = 83
            · rw [heq ho]
            · unfold pcT
              rw [if_neg (by omega), if_neg (by omega), if_neg (by omega), if_neg (by omega)]
          have hnx : nxT (strP M) a D[a] (rdP μ D[a].x) = nxT (strP M) a D[a] (rdP ν D[a].x) := by
            by_cases ho : D[a].o = 63 ∨ D[a].o = 108 ∨ D[a].o = 76 ∨ D[a].o = 115 ∨ D[a].o = 83
            · rw [heq ho]
            · unfold nxT
              by_cases h1 : D[a].o = 106
              · rw [if_pos h1, if_pos h1]
              · rw [if_neg h1, if_neg (by omega), if_neg h1, if_neg (by omega)]
          have htr : (stepP (strP M) μ a D[a]).1.trace = (stepP (strP M) ν a D[a]).1.trace := by
            rw [step_trace _ _ _ _ hmvn, step_trace _ _ _ _ hmvn, hpc, hM.tr]
          have had : (stepP (strP M) μ a D[a]).2 = (stepP (strP M) ν a D[a]).2 := by
            rw [step_next, step_next, hnx]
          obtain ⟨lo2, _⟩ := low_step hLo1 (strP L) (q1 : Int) (P.src q1 hqC) (hs q1 hqC)
          have hF1 := follow_step P.k10 (P.src q1 hqC) (P.mac a haD) hmv hfo hR1 (strP L) (strP M) (q1 : Int) (a : Int)
          have hF2 := follow_step P.k10 (P.src q1 hqC) (P.mac a haD) hmv hfo hR1' (strP L) (strP M) (q1 : Int) (a : Int)
          rcases hF1 with hfin | ⟨hR2, hnxt⟩
          · rcases hF2 with hfin' | ⟨hR2', _⟩
            · rw [walkP_end D _ _ hfin.en', walkP_end D _ _ hfin'.en']
              exact ⟨by rw [← hfin.pub, ← hfin'.pub, lo2.pub], htr, by rw [← hfin.st, ← hfin'.st, lo2.st], by rw [hfin.en', hfin'.en']⟩
            · have := lo2.en
              rw [hfin.en, hR2'.en] at this
              cases this
          · rcases hF2 with hfin' | ⟨hR2', _⟩
            · have := lo2.en
              rw [hR2.en, hfin'.en] at this
              cases this
            · have hM2 : LowM (stepP (strP M) μ a D[a]).1 (stepP (strP M) ν a D[a]).1 := ⟨by rw [← hR2.pub, ← hR2'.pub, lo2.pub], htr, by rw [← hR2.st, ← hR2'.st, lo2.st], by rw [hR2.en', hR2'.en']⟩
              rw [← had]
              rcases hnxt with ⟨hend, _, e2⟩ | ⟨hend, s, hsk, _, e2⟩
              · have hane : a ≠ M[b].2 := by
                  rintro rfl
                  have := P.db.ends b hb' haD
                  rw [hop, hend] at this
                  cases this
                rw [e2]
                exact quiet_all P hs n f' b hb hb' h2 (wroteP E1 C[q1] D[a]) E' (q1 + 1) (a + 1) _ _ _ _ hp hpost (by omega) (by omega) (by omega) hR2 hR2' lo2 hM2
              · have haeq : a = M[b].2 := by
                  by_cases hlt : a < M[b].2
                  · have := P.db.inner b hb' a haD ha1 hlt
                    rw [hop, hend] at this
                    cases this
                  · omega
                have hpe : playP C D M[b].2 f' (wroteP E1 C[q1] D[a]) (q1 + 1) (a + 1) = some (wroteP E1 C[q1] D[a], q1 + 1) := by
                  cases f' with
                  | zero => rfl
                  | succ f => simp only [playP]; rw [dif_neg (by omega)]
                rw [hpe] at hp
                obtain ⟨hE', hq'⟩ := Prod.mk.inj (Option.some.inj hp)
                have hq2' : q1 = L[b].2 := by omega
                subst hq2'
                have hs1 : (s = C[L[b].2].k ∨ s = C[L[b].2].m) ∧ 1 ≤ s ∧ s < L.length := by
                  rcases hsk with ⟨rfl, ho⟩ | ⟨rfl, ho⟩
                  · exact ⟨Or.inl rfl, (P.tgt _ hqC).1 ho⟩
                  · exact ⟨Or.inr rfl, (P.tgt _ hqC).2 ho⟩
                obtain ⟨hs2, hs3, hs4⟩ := hs1
                obtain ⟨s', rfl⟩ : ∃ s' : Nat, s = (s' : Int) := ⟨s.toNat, by omega⟩
                obtain ⟨Es, hG, hsub⟩ := hpost s' hs2
                rw [← hE'] at hsub
                obtain ⟨Fs, hplay, hnext⟩ := P.fam s' Es hG
                have hsL : s' < L.length := by omega
                have hsM : s' < M.length := by have := P.len; omega
                have h2s := P.cb.lt s' hsL
                unfold playB at hplay
                rw [dif_pos ⟨hsL, hsM⟩] at hplay
                have hpl : playP C D M[s'].2 D.length Es L[s'].1 M[s'].1 = some (Fs, L[s'].2 + 1) := by
                  cases hc : playP C D M[s'].2 D.length Es L[s'].1 M[s'].1 with
                  | none => rw [hc] at hplay; cases hplay
                  | some r =>
                    rw [hc] at hplay
                    simp only [plyEnd] at hplay
                    split at hplay
                    · rename_i hr2
                      rw [← Option.some.inj hplay, ← hr2]
                    · cases hplay
                have hMlt := P.db.lt s' hsM
                have hMle := P.db.le s' hsM
                rw [e2, strP_at M s' hsM]
                exact quiet_all P hs n D.length s' hsL hsM h2s Es Fs L[s'].1 M[s'].1 _ _ _ _ hpl (fun s hs => hnext hsL h2s s hs) (Nat.le_refl _) hMle (by omega) (hR2.mono hsub) (hR2'.mono hsub) lo2 hM2
        · rw [if_neg hfo] at hp
          cases hp
      · rw [dif_neg hqC] at hp
        cases hp
/-- whole runs of the machine -/
theorem quiet_run (P : Play k C L D M G J c e0 eR) (hs : ∀ j (h : j < C.length), showI C[j] = false) (h0 : 0 < L.length) (E : Nat → Nat) (hG : G 0 = some E) (hsub : ∀ v p, hasP E v p = true → hasP startE v p = true) (hM0 : ∀ h : 0 < M.length, M[0].1 = 0) (n : Nat) (m m' μ ν : PSt) (hR : RelP startE m μ) (hR' : RelP startE m' ν) (hL : LowS m m') (hM : LowM μ ν) :
    LowM (walkP D (strP M) n μ 0) (walkP D (strP M) n ν 0) := by
  have h0' : 0 < M.length := by have := P.len; omega
  obtain ⟨F, hplay, hnext⟩ := P.fam 0 E hG
  have h2 := P.cb.lt 0 h0
  unfold playB at hplay
  rw [dif_pos ⟨h0, h0'⟩] at hplay
  have hpl : playP C D M[0].2 D.length E L[0].1 M[0].1 = some (F, L[0].2 + 1) := by
    cases hc : playP C D M[0].2 D.length E L[0].1 M[0].1 with
    | none => rw [hc] at hplay; cases hplay
    | some r =>
      rw [hc] at hplay
      simp only [plyEnd] at hplay
      split at hplay
      · rename_i hr2
        rw [← Option.some.inj hplay, ← hr2]
      · cases hplay
  have hMlt := P.db.lt 0 h0'
  have hMle := P.db.le 0 h0'
  have m0 := hM0 h0'
  have := quiet_all P hs n D.length 0 h0 h0' h2 E F L[0].1 M[0].1 m m' μ ν hpl (fun s hs => hnext h0 h2 s hs) (Nat.le_refl _) hMle (by omega) (hR.mono hsub) (hR'.mono hsub) hL hM
  rw [m0] at this
  exact this
end
end Go.Proofs.YtccndnckceagfabGreatDoorR.Sp
