/-
  A run does not hang on what is not live: plain mathematics.
-/
import Derived.Test.YtccndnckceagfaaDoorRLives2
import Derived.Test.YtccndnckceagfaaDoorRKeep4
namespace Go.Proofs.YtccndnckceagfaaDoorR.Sp

/-- two steps that go alike: the same but for what is held, and what is held is the same where it is live behind them -/
structure Twin (c : Nat → Int) (n : Nat) (A D : St × Bool) : Prop where
  on : A.2 = D.2
  rest : D.1 = { A.1 with hold := D.1.hold }
  hold : A.2 = true → ∀ j : Nat, A.1.next = (j : Int) → ∀ v : Int, letB v = true → Want c n v j → A.1.hold v.toNat = D.1.hold v.toNat
theorem let_nat {v x : Int} (hv : letB v = true) (hx : letB x = true) (h : v.toNat = x.toNat) : v = x := by
  have h1 : 0 ≤ v := by simp [letB, lowB, uppB] at hv; omega
  have h2 : 0 ≤ x := by simp [letB, lowB, uppB] at hx; omega
  omega
theorem twin_step {s : ByteArray} (hp : progB (B s) s.size 0 = true) {i : Nat} (hi : i < s.size / 4) (st : St) (h : Nat → Int) (hag : ∀ v : Int, letB v = true → Want (B s) (s.size / 4) v i → st.hold v.toNat = h v.toNat) :
    Twin (B s) (s.size / 4) (stepT s st i) (stepT s { st with hold := h } i) := by
  have hdok : dokK 0 (B s) i = true := by
    have := okIns_of_progB hp i hi
    rw [okK_eq _ _ 0 (by omega), Bool.and_eq_true] at this
    exact this.1
  have hf := form_of (by omega) hdok
  have G := good_of_progB hp
  have R : ∀ v : Int, letB v = true → rdAt (B s) v i = true → st.hold v.toNat = h v.toNat := fun v hv hr => hag v hv (want_rd hr)
  have N : ∀ j, j ∈ nextL (B s) (s.size / 4) i → ∀ v : Int, letB v = true → wrAt (B s) v i = false → Want (B s) (s.size / 4) v j → st.hold v.toNat = h v.toNat := fun j hj v hv hw hwt => hag v hv (want_step hw hj hwt)
  have rg : ∀ x : Int, regB x 0 = true → letB x = true := fun x hx => by unfold regB at hx; rwa [if_pos rfl] at hx
  unfold rdAt at R
  unfold wrAt nextL at N
  generalize insK 0 (B s) i = I at hf
  generalize hO : B s (4 * i) = o at *
  generalize hA : B s (4 * i + 1) = a at *
  generalize hB : B s (4 * i + 2) = b at *
  generalize hD : B s (4 * i + 3) = d at *
  -- one register written, on to the next
  have put : ∀ (val : Int) (o1 : o ≠ 114) (o2 : o ≠ 106) (o3 : o ≠ 63) (wr : ∀ v, wrB o a v = (a == v)) (la : letB a = true) (P Q : Nat → Int) (T : ByteArray),
      Twin (B s) (s.size / 4) ({ st with next := i + 1, pub := P, sec := Q, trace := T, hold := upd st.hold a.toNat val }, true) ({ st with next := i + 1, pub := P, sec := Q, trace := T, hold := upd h a.toNat val }, true) := fun val o1 o2 o3 wr la P Q T =>
    ⟨rfl, rfl, fun _ j hj v hv hw => by
      have ej : j = i + 1 := by have : (i : Int) + 1 = j := hj; omega
      subst ej
      show upd st.hold a.toNat val v.toNat = upd h a.toNat val v.toNat
      unfold upd
      by_cases e : v.toNat = a.toNat
      · rw [if_pos e, if_pos e]
      · rw [if_neg e, if_neg e]
        refine N (i + 1) ?_ v hv ?_ hw
        · rw [if_neg o1, if_neg o2, if_neg o3]; simp
        · rw [wr]
          exact beq_eq_false_iff_ne.2 (fun e' => e (by rw [e']))⟩
  have keep : ∀ (o1 : o ≠ 114) (o2 : o ≠ 106) (o3 : o ≠ 63) (wr : ∀ v, wrB o a v = false) (P Q : Nat → Int) (T : ByteArray),
      Twin (B s) (s.size / 4) ({ st with next := i + 1, pub := P, sec := Q, trace := T }, true) ({ st with next := i + 1, pub := P, sec := Q, trace := T, hold := h }, true) := fun o1 o2 o3 wr P Q T =>
    ⟨rfl, rfl, fun _ j hj v hv hw => by
      have ej : j = i + 1 := by have : (i : Int) + 1 = j := hj; omega
      subst ej
      refine N (i + 1) ?_ v hv (wr v) hw
      rw [if_neg o1, if_neg o2, if_neg o3]; simp⟩
  cases hf with
  | ar hh ha hb hd =>
    have ho : o = 43 ∨ o = 45 ∨ o = 42 ∨ o = 38 ∨ o = 94 := by simp only [arithB, Bool.or_eq_true, beq_iff_eq] at hh; omega
    have e : ∀ st : St, stepT s st i = ({ st with next := i + 1, hold := upd st.hold a.toNat (cntS o (st.hold b.toNat) (st.hold d.toNat)) }, true) := fun st => by
      unfold stepT
      rw [hO, hA, hB, hD, if_neg (by omega), if_neg (by omega), if_neg (by omega), if_neg (by omega), if_neg (by omega), if_neg (by omega), if_neg (by omega)]
    have r1 := R b (rg b hb) (by unfold rdB; rw [if_pos hh]; simp)
    have r2 := R d (rg d hd) (by unfold rdB; rw [if_pos hh]; simp)
    rw [e st, e { st with hold := h }]
    show Twin _ _ _ ({ st with next := i + 1, hold := upd h a.toNat (cntS o (h b.toNat) (h d.toNat)) }, true)
    rw [r1, r2]
    exact put _ (by omega) (by omega) (by omega) (fun v => by unfold wrB; rw [hh]; simp) (rg a ha) st.pub st.sec st.trace
  | num hh ha hb hd =>
    have e : ∀ st : St, stepT s st i = ({ st with next := i + 1, hold := upd st.hold a.toNat (10 * (b - 48) + (d - 48)) }, true) := fun st => by
      unfold stepT
      rw [hO, hA, hB, hD, if_neg (by omega), if_neg (by omega), if_neg (by omega), if_neg (by omega), if_neg (by omega), if_pos hh]
    rw [e st, e { st with hold := h }]
    exact put _ (by omega) (by omega) (by omega) (fun v => by unfold wrB; rw [hh]; simp) (rg a ha) st.pub st.sec st.trace
  | two hh ha hb =>
    have hna : arithB o = false := by rcases hh with rfl | rfl | rfl <;> rfl
    have r1 := R b (rg b hb) (by unfold rdB; rw [if_neg (by rw [hna]; simp), if_pos hh]; simp)
    have wr : ∀ v, wrB o a v = (a == v) := fun v => by unfold wrB; rcases hh with rfl | rfl | rfl <;> simp [arithB]
    by_cases h61 : o = 61
    · have e : ∀ st : St, stepT s st i = ({ st with next := i + 1, hold := upd st.hold a.toNat (st.hold b.toNat) }, true) := fun st => by
        unfold stepT
        rw [hO, hA, hB, hD, if_neg (by omega), if_neg (by omega), if_neg (by omega), if_neg (by omega), if_neg (by omega), if_neg (by omega), if_pos h61]
      rw [e st, e { st with hold := h }]
      show Twin _ _ _ ({ st with next := i + 1, hold := upd h a.toNat (h b.toNat) }, true)
      rw [r1]
      exact put _ (by omega) (by omega) (by omega) wr (rg a ha) st.pub st.sec st.trace
    · have e : ∀ st : St, stepT s st i = (memO { st with next := (i : Int) + 1 } o a b (st.hold b.toNat) (st.trace ++ (s.extract (4 * i) (4 * i + 4)).extract 0 1 ++ ⟨(Lib.decDigits (st.hold b.toNat).toNat).toArray⟩), decide (st.hold b.toNat < 8)) := fun st => by
        unfold stepT
        rw [hO, hA, hB, hD, if_neg (by omega), if_neg (by omega), if_neg (by omega), if_pos (by omega)]
      rw [e st, e { st with hold := h }]
      show Twin _ _ _ (memO { st with next := (i : Int) + 1, hold := h } o a b (h b.toNat) (st.trace ++ (s.extract (4 * i) (4 * i + 4)).extract 0 1 ++ ⟨(Lib.decDigits (h b.toNat).toNat).toArray⟩), decide (h b.toNat < 8))
      rw [r1]
      generalize h b.toNat = n
      generalize st.trace ++ (s.extract (4 * i) (4 * i + 4)).extract 0 1 ++ ⟨(Lib.decDigits n.toNat).toArray⟩ = T
      unfold memO memS
      by_cases h8 : n < 8
      · have n8 : ¬ 8 ≤ n := by omega
        rw [show decide (n < 8) = true from decide_eq_true h8]
        by_cases h108 : o = 108
        · simp only [if_pos h8, if_neg n8, if_pos h108]
          exact put _ (by omega) (by omega) (by omega) wr (rg a ha) st.pub st.sec T
        · have h76 : o = 76 := by omega
          simp only [if_pos h8, if_neg n8, if_neg h108, if_pos h76]
          exact put _ (by omega) (by omega) (by omega) wr (rg a ha) st.pub st.sec T
      · have n8 : 8 ≤ n := by omega
        rw [show decide (n < 8) = false from decide_eq_false h8]
        simp only [if_neg h8, if_pos n8]
        exact ⟨rfl, rfl, fun e => by cases e⟩
  | sto hh ha hb =>
    have hna : arithB o = false := by rcases hh with rfl | rfl <;> rfl
    have r1 := R a (rg a ha) (by unfold rdB; rw [if_neg (by rw [hna]; simp), if_neg (by omega), if_pos hh]; simp)
    have r2 := R b (rg b hb) (by unfold rdB; rw [if_neg (by rw [hna]; simp), if_neg (by omega), if_pos hh]; simp)
    have wr : ∀ v, wrB o a v = false := fun v => by unfold wrB; rcases hh with rfl | rfl <;> simp [arithB]
    have e : ∀ st : St, stepT s st i = (memO { st with next := (i : Int) + 1 } o a b (st.hold a.toNat) (st.trace ++ (s.extract (4 * i) (4 * i + 4)).extract 0 1 ++ ⟨(Lib.decDigits (st.hold a.toNat).toNat).toArray⟩), decide (st.hold a.toNat < 8)) := fun st => by
      unfold stepT
      rw [hO, hA, hB, hD, if_neg (by omega), if_neg (by omega), if_neg (by omega), if_neg (by omega), if_pos (by omega)]
    rw [e st, e { st with hold := h }]
    show Twin _ _ _ (memO { st with next := (i : Int) + 1, hold := h } o a b (h a.toNat) (st.trace ++ (s.extract (4 * i) (4 * i + 4)).extract 0 1 ++ ⟨(Lib.decDigits (h a.toNat).toNat).toArray⟩), decide (h a.toNat < 8))
    rw [r1]
    generalize h a.toNat = n
    generalize st.trace ++ (s.extract (4 * i) (4 * i + 4)).extract 0 1 ++ ⟨(Lib.decDigits n.toNat).toArray⟩ = T
    unfold memO memS
    have n108 : ¬ o = 108 := by omega
    have n76 : ¬ o = 76 := by omega
    by_cases h8 : n < 8
    · have n8 : ¬ 8 ≤ n := by omega
      rw [show decide (n < 8) = true from decide_eq_true h8]
      by_cases h115 : o = 115
      · simp only [if_pos h8, if_neg n8, if_neg n108, if_neg n76, if_pos h115]
        rw [← r2]
        exact keep (by omega) (by omega) (by omega) wr (upd st.pub n.toNat (st.hold b.toNat)) st.sec T
      · simp only [if_pos h8, if_neg n8, if_neg n108, if_neg n76, if_neg h115]
        rw [← r2]
        exact keep (by omega) (by omega) (by omega) wr st.pub (upd st.sec n.toNat (st.hold b.toNat)) T
    · have n8 : 8 ≤ n := by omega
      rw [show decide (n < 8) = false from decide_eq_false h8]
      simp only [if_neg h8, if_pos n8]
      exact ⟨rfl, rfl, fun e => by cases e⟩
  | jmp hh ha =>
    have e : ∀ st : St, stepT s st i = ({ st with next := fst (B s) (s.size / 4) (a - 48).toNat }, true) := fun st => by
      unfold stepT
      rw [hO, hA, hB, hD, if_neg (by omega), if_pos hh]
    rw [e st, e { st with hold := h }]
    refine ⟨rfl, rfl, fun _ j hj v hv hw => ?_⟩
    have ej : j = fst (B s) (s.size / 4) (a - 48).toNat := by have : ((fst (B s) (s.size / 4) (a - 48).toNat : Nat) : Int) = j := hj; omega
    refine N j ?_ v hv (by unfold wrB; rw [hh]; rfl) hw
    rw [if_neg (by omega), if_pos hh, ej]; simp
  | cnd hh ha hb hd =>
    have r1 := R a (rg a ha) (by unfold rdB; rw [hh]; simp [arithB])
    have e : ∀ st : St, stepT s st i = (if st.hold a.toNat ≠ 0 then ({ st with trace := st.trace ++ ⟨#[63, 49]⟩, next := fst (B s) (s.size / 4) (b - 48).toNat }, true) else ({ st with trace := st.trace ++ ⟨#[63, 48]⟩, next := fst (B s) (s.size / 4) (d - 48).toNat }, true)) := fun st => by
      unfold stepT
      rw [hO, hA, hB, hD, if_neg (by omega), if_neg (by omega), if_pos hh]
    rw [e st, e { st with hold := h }]
    show Twin _ _ _ (if h a.toNat ≠ 0 then _ else _)
    rw [r1]
    by_cases hz : h a.toNat ≠ 0
    · rw [if_pos hz, if_pos hz]
      refine ⟨rfl, rfl, fun _ j hj v hv hw => ?_⟩
      have ej : j = fst (B s) (s.size / 4) (b - 48).toNat := by have : ((fst (B s) (s.size / 4) (b - 48).toNat : Nat) : Int) = j := hj; omega
      refine N j ?_ v hv (by unfold wrB; rw [hh]; rfl) hw
      rw [if_neg (by omega), if_neg (by omega), if_pos hh, ej]; simp
    · rw [if_neg hz, if_neg hz]
      refine ⟨rfl, rfl, fun _ j hj v hv hw => ?_⟩
      have ej : j = fst (B s) (s.size / 4) (d - 48).toNat := by have : ((fst (B s) (s.size / 4) (d - 48).toNat : Nat) : Int) = j := hj; omega
      refine N j ?_ v hv (by unfold wrB; rw [hh]; rfl) hw
      rw [if_neg (by omega), if_neg (by omega), if_pos hh, ej]; simp
  | ret hh ha _ =>
    have r1 := R a (rg a ha) (by unfold rdB; rw [hh]; simp [arithB])
    have e : ∀ st : St, stepT s st i = ({ st with next := i + 1, status := 0, value := st.hold a.toNat }, false) := fun st => by
      unfold stepT
      rw [hO, hA, hB, hD, if_pos hh]
    rw [e st, e { st with hold := h }]
    show Twin _ _ _ ({ st with next := i + 1, status := 0, value := h a.toNat, hold := h }, false)
    rw [r1]
    exact ⟨rfl, rfl, fun e => by cases e⟩
  | put h0 => exact absurd rfl h0
  | get h0 => exact absurd rfl h0
  | clrS h0 => exact absurd rfl h0
  | clrR h0 => exact absurd rfl h0
/-- two runs of the same program from states that differ only in what is not live end alike -/
theorem twin_run {s : ByteArray} (hp : progB (B s) s.size 0 = true) : ∀ (f : Nat) (st : St) (h : Nat → Int) (i : Nat), st.next = (i : Int) → i < s.size / 4 → (∀ v : Int, letB v = true → Want (B s) (s.size / 4) v i → st.hold v.toNat = h v.toNat) →
    ∃ h', runG (stepT s) f { st with hold := h } = { runG (stepT s) f st with hold := h' } := by
  intro f
  induction f with
  | zero => intro st h i _ _ _; exact ⟨h, rfl⟩
  | succ f ih =>
    intro st h i hn hi hag
    have T := twin_step hp hi st h hag
    simp only [runG]
    show ∃ h', (if (stepT s { st with hold := h } st.next.toNat).2 = true then runG (stepT s) f (stepT s { st with hold := h } st.next.toNat).1 else (stepT s { st with hold := h } st.next.toNat).1) = _
    rw [show st.next.toNat = i from by rw [hn, Int.toNat_natCast], ← T.on]
    cases hb : (stepT s st i).2
    · rw [if_neg (by simp), if_neg (by simp)]
      exact ⟨_, T.rest⟩
    · rw [if_pos rfl, if_pos rfl]
      obtain ⟨j, hj, hjn⟩ := stepT_next hp hi hb
      rw [T.rest]
      exact ih (stepT s st i).1 (stepT s { st with hold := h } i).1.hold j hjn hj (T.hold hb j hjn)

/-- which bytes stand among the letters of a set -/
theorem letT_get (S : Nat → Bool) (n : Nat) (hn : n ≤ 52) : (∀ j (h : j < (letT S n).size), ∃ k, k < n ∧ S k = true ∧ (((letT S n)[j]).toNat : Int) = reg k) ∧ (∀ k, k < n → S k = true → ∃ j, ∃ h : j < (letT S n).size, (((letT S n)[j]).toNat : Int) = reg k) := by
  induction n with
  | zero => exact ⟨fun j h => absurd h (Nat.not_lt_zero _), fun k hk => by omega⟩
  | succ n ih =>
    obtain ⟨i1, i2⟩ := ih (by omega)
    have rb := reg_bd n (by omega)
    cases hS : S n
    · rw [letT_no hS]
      refine ⟨fun j h => ?_, fun k hk hk' => ?_⟩
      · obtain ⟨k, h1, h2, h3⟩ := i1 j h
        exact ⟨k, by omega, h2, h3⟩
      · by_cases e : k = n
        · rw [e, hS] at hk'; cases hk'
        · exact i2 k (by omega) hk'
    · rw [letT_yes hS]
      have hs1 : (⟨#[UInt8.ofNat (reg n).toNat]⟩ : ByteArray).size = 1 := rfl
      have hlast : ∀ h, (((letT S n ++ (⟨#[UInt8.ofNat (reg n).toNat]⟩ : ByteArray))[(letT S n).size]'h).toNat : Int) = reg n := fun h => by
        rw [ByteArray.getElem_append_right (Nat.le_refl _)]
        simp only [Nat.sub_self]
        show ((UInt8.ofNat (reg n).toNat).toNat : Int) = reg n
        rw [UInt8.toNat_ofNat']
        omega
      refine ⟨fun j h => ?_, fun k hk hk' => ?_⟩
      · rw [ByteArray.size_append, hs1] at h
        by_cases e : j < (letT S n).size
        · obtain ⟨k, h1, h2, h3⟩ := i1 j e
          exact ⟨k, by omega, h2, by rw [ByteArray.getElem_append_left e]; exact h3⟩
        · have ej : j = (letT S n).size := by omega
          subst ej
          exact ⟨n, by omega, hS, hlast _⟩
      · by_cases e : k = n
        · subst e
          exact ⟨(letT S k).size, by rw [ByteArray.size_append, hs1]; omega, hlast _⟩
        · obtain ⟨j, hj, h3⟩ := i2 k (by omega) hk'
          exact ⟨j, by rw [ByteArray.size_append]; omega, by rw [ByteArray.getElem_append_left hj]; exact h3⟩
end Go.Proofs.YtccndnckceagfaaDoorR.Sp
