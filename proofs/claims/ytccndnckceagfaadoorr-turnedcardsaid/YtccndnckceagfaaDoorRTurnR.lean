/-
  Runs and cores of a program whose registers have other names: plain mathematics.
-/
import Derived.Test.YtccndnckceagfaaDoorRTurnM
namespace Go.Proofs.YtccndnckceagfaaDoorR.Sp

/-- two steps that go alike under other names -/
structure Twin2 (b : Int) (A D : St × Bool) : Prop where
  on : A.2 = D.2
  rest : D.1 = { A.1 with hold := D.1.hold }
  hold : ∀ v : Int, letB v = true → D.1.hold (nx b v).toNat = A.1.hold v.toNat
theorem let_pos {v : Int} (h : letB v = true) : 0 ≤ v := by
  simp [letB, lowB, uppB] at h
  omega
theorem nx_nat {b : Int} (h0 : 0 ≤ b) (h1 : b < 24) {v x : Int} (hv : letB v = true) (hx : letB x = true) : (nx b v).toNat = (nx b x).toNat ↔ v.toNat = x.toNat := by
  have a1 := let_pos hv
  have a2 := let_pos hx
  have a3 := let_pos (v := nx b v) (by rw [nx_let h0 h1]; exact hv)
  have a4 := let_pos (v := nx b x) (by rw [nx_let h0 h1]; exact hx)
  constructor
  · intro e
    have := nx_inj h0 h1 (c := v) (d := x) (by omega)
    rw [this]
  · intro e
    rw [show v = x by omega]
theorem turn_step {s t : ByteArray} {b : Int} (hz : t.size = s.size) (T : Trn (B s) (B t) b (s.size / 4)) (hp : progB (B s) s.size 0 = true) {i : Nat} (hi : i < s.size / 4) (st : St) (h : Nat → Int) (hag : ∀ v : Int, letB v = true → h (nx b v).toNat = st.hold v.toNat) :
    Twin2 b (stepT s st i) (stepT t { st with hold := h } i) := by
  have hdok : dokK 0 (B s) i = true := by
    have := okIns_of_progB hp i hi
    rw [okK_eq _ _ 0 (by omega), Bool.and_eq_true] at this
    exact this.1
  have hf := form_of (by omega) hdok
  have rg : ∀ x : Int, regB x 0 = true → letB x = true := fun x hx => by unfold regB at hx; rwa [if_pos rfl] at hx
  obtain ⟨g1, g2⟩ := T.digs hp hi
  have tr : (t.extract (4 * i) (4 * i + 4)).extract 0 1 = (s.extract (4 * i) (4 * i + 4)).extract 0 1 := by
    rw [op_str t i (by omega), op_str s i (by omega), T.op i]
  have tO := T.op i
  have tA := T.at' i 1 hi (by omega) (by omega)
  have tB := T.at' i 2 hi (by omega) (by omega)
  have tD := T.at' i 3 hi (by omega) (by omega)
  have tF := fun k => T.fst (s.size / 4) k
  have hn4 : t.size / 4 = s.size / 4 := by rw [hz]
  generalize insK 0 (B s) i = I at hf
  generalize hO : B s (4 * i) = o at *
  generalize hA : B s (4 * i + 1) = a at *
  generalize hB : B s (4 * i + 2) = bb at *
  generalize hD : B s (4 * i + 3) = d at *
  have put : ∀ (val : Int) (la : letB a = true) (N : Int) (P Q : Nat → Int) (W : ByteArray),
      Twin2 b ({ st with next := N, pub := P, sec := Q, trace := W, hold := upd st.hold a.toNat val }, true) ({ st with next := N, pub := P, sec := Q, trace := W, hold := upd h (nx b a).toNat val }, true) := fun val la N P Q W =>
    ⟨rfl, rfl, fun v hv => by
      show upd h (nx b a).toNat val (nx b v).toNat = upd st.hold a.toNat val v.toNat
      unfold upd
      by_cases e : v.toNat = a.toNat
      · rw [if_pos e, if_pos ((nx_nat T.b0 T.b1 hv la).2 e)]
      · rw [if_neg e, if_neg (fun e' => e ((nx_nat T.b0 T.b1 hv la).1 e'))]
        exact hag v hv⟩
  have keep : ∀ (N V S : Int) (P Q : Nat → Int) (W : ByteArray) (f : Bool),
      Twin2 b ({ st with next := N, value := V, status := S, pub := P, sec := Q, trace := W }, f) ({ st with next := N, value := V, status := S, pub := P, sec := Q, trace := W, hold := h }, f) := fun N V S P Q W f =>
    ⟨rfl, rfl, fun v hv => hag v hv⟩
  cases hf with
  | ar hh ha hb hd =>
    have ho : o = 43 ∨ o = 45 ∨ o = 42 ∨ o = 38 ∨ o = 94 := by simp only [arithB, Bool.or_eq_true, beq_iff_eq] at hh; omega
    have e : stepT s st i = ({ st with next := i + 1, hold := upd st.hold a.toNat (cntS o (st.hold bb.toNat) (st.hold d.toNat)) }, true) := by
      unfold stepT
      rw [hO, hA, hB, hD, if_neg (by omega), if_neg (by omega), if_neg (by omega), if_neg (by omega), if_neg (by omega), if_neg (by omega), if_neg (by omega)]
    have e' : stepT t { st with hold := h } i = ({ st with next := i + 1, hold := upd h (nx b a).toNat (cntS o (h (nx b bb).toNat) (h (nx b d).toNat)) }, true) := by
      unfold stepT
      rw [tO, tA, tB, tD, if_neg (by omega), if_neg (by omega), if_neg (by omega), if_neg (by omega), if_neg (by omega), if_neg (by omega), if_neg (by omega)]
    rw [e, e', hag bb (rg bb hb), hag d (rg d hd)]
    exact put _ (rg a ha) _ st.pub st.sec st.trace
  | num hh ha hb hd =>
    have e : stepT s st i = ({ st with next := i + 1, hold := upd st.hold a.toNat (10 * (bb - 48) + (d - 48)) }, true) := by
      unfold stepT
      rw [hO, hA, hB, hD, if_neg (by omega), if_neg (by omega), if_neg (by omega), if_neg (by omega), if_neg (by omega), if_pos hh]
    have e' : stepT t { st with hold := h } i = ({ st with next := i + 1, hold := upd h (nx b a).toNat (10 * (bb - 48) + (d - 48)) }, true) := by
      unfold stepT
      rw [tO, tA, tB, tD, nx_dig T.b0 T.b1 hb, nx_dig T.b0 T.b1 hd, if_neg (by omega), if_neg (by omega), if_neg (by omega), if_neg (by omega), if_neg (by omega), if_pos hh]
    rw [e, e']
    exact put _ (rg a ha) _ st.pub st.sec st.trace
  | two hh ha hb =>
    by_cases h61 : o = 61
    · have e : stepT s st i = ({ st with next := i + 1, hold := upd st.hold a.toNat (st.hold bb.toNat) }, true) := by
        unfold stepT
        rw [hO, hA, hB, hD, if_neg (by omega), if_neg (by omega), if_neg (by omega), if_neg (by omega), if_neg (by omega), if_neg (by omega), if_pos h61]
      have e' : stepT t { st with hold := h } i = ({ st with next := i + 1, hold := upd h (nx b a).toNat (h (nx b bb).toNat) }, true) := by
        unfold stepT
        rw [tO, tA, tB, tD, if_neg (by omega), if_neg (by omega), if_neg (by omega), if_neg (by omega), if_neg (by omega), if_neg (by omega), if_pos h61]
      rw [e, e', hag bb (rg bb hb)]
      exact put _ (rg a ha) _ st.pub st.sec st.trace
    · have e : stepT s st i = (memO { st with next := (i : Int) + 1 } o a bb (st.hold bb.toNat) (st.trace ++ (s.extract (4 * i) (4 * i + 4)).extract 0 1 ++ ⟨(Lib.decDigits (st.hold bb.toNat).toNat).toArray⟩), decide (st.hold bb.toNat < 8)) := by
        unfold stepT
        rw [hO, hA, hB, hD, if_neg (by omega), if_neg (by omega), if_neg (by omega), if_pos (by omega)]
      have e' : stepT t { st with hold := h } i = (memO { st with next := (i : Int) + 1, hold := h } o (nx b a) (nx b bb) (h (nx b bb).toNat) (st.trace ++ (s.extract (4 * i) (4 * i + 4)).extract 0 1 ++ ⟨(Lib.decDigits (h (nx b bb).toNat).toNat).toArray⟩), decide (h (nx b bb).toNat < 8)) := by
        unfold stepT
        rw [tO, tA, tB, tD, tr, if_neg (by omega), if_neg (by omega), if_neg (by omega), if_pos (by omega)]
      rw [e, e', hag bb (rg bb hb)]
      generalize st.hold bb.toNat = n
      generalize st.trace ++ (s.extract (4 * i) (4 * i + 4)).extract 0 1 ++ ⟨(Lib.decDigits n.toNat).toArray⟩ = W
      unfold memO memS
      by_cases h8 : n < 8
      · have n8 : ¬ 8 ≤ n := by omega
        rw [show decide (n < 8) = true from decide_eq_true h8]
        by_cases h108 : o = 108
        · simp only [if_pos h8, if_neg n8, if_pos h108]
          exact put _ (rg a ha) _ st.pub st.sec W
        · have h76 : o = 76 := by omega
          simp only [if_pos h8, if_neg n8, if_neg h108, if_pos h76]
          exact put _ (rg a ha) _ st.pub st.sec W
      · have n8 : 8 ≤ n := by omega
        rw [show decide (n < 8) = false from decide_eq_false h8]
        simp only [if_neg h8, if_pos n8]
        exact keep _ st.value _ st.pub st.sec _ false
  | sto hh ha hb =>
    have e : stepT s st i = (memO { st with next := (i : Int) + 1 } o a bb (st.hold a.toNat) (st.trace ++ (s.extract (4 * i) (4 * i + 4)).extract 0 1 ++ ⟨(Lib.decDigits (st.hold a.toNat).toNat).toArray⟩), decide (st.hold a.toNat < 8)) := by
      unfold stepT
      rw [hO, hA, hB, hD, if_neg (by omega), if_neg (by omega), if_neg (by omega), if_neg (by omega), if_pos (by omega)]
    have e' : stepT t { st with hold := h } i = (memO { st with next := (i : Int) + 1, hold := h } o (nx b a) (nx b bb) (h (nx b a).toNat) (st.trace ++ (s.extract (4 * i) (4 * i + 4)).extract 0 1 ++ ⟨(Lib.decDigits (h (nx b a).toNat).toNat).toArray⟩), decide (h (nx b a).toNat < 8)) := by
      unfold stepT
      rw [tO, tA, tB, tD, tr, if_neg (by omega), if_neg (by omega), if_neg (by omega), if_neg (by omega), if_pos (by omega)]
    have r2 := hag bb (rg bb hb)
    rw [e, e', hag a (rg a ha)]
    generalize st.hold a.toNat = n
    generalize st.trace ++ (s.extract (4 * i) (4 * i + 4)).extract 0 1 ++ ⟨(Lib.decDigits n.toNat).toArray⟩ = W
    unfold memO memS
    have n108 : ¬ o = 108 := by omega
    have n76 : ¬ o = 76 := by omega
    by_cases h8 : n < 8
    · have n8 : ¬ 8 ≤ n := by omega
      rw [show decide (n < 8) = true from decide_eq_true h8]
      by_cases h115 : o = 115
      · simp only [if_pos h8, if_neg n8, if_neg n108, if_neg n76, if_pos h115]
        rw [r2]
        exact keep _ st.value st.status (upd st.pub n.toNat (st.hold bb.toNat)) st.sec W true
      · simp only [if_pos h8, if_neg n8, if_neg n108, if_neg n76, if_neg h115]
        rw [r2]
        exact keep _ st.value st.status st.pub (upd st.sec n.toNat (st.hold bb.toNat)) W true
    · have n8 : 8 ≤ n := by omega
      rw [show decide (n < 8) = false from decide_eq_false h8]
      simp only [if_neg h8, if_pos n8]
      exact keep _ st.value _ st.pub st.sec _ false
  | jmp hh ha =>
    have e : stepT s st i = ({ st with next := fst (B s) (s.size / 4) (a - 48).toNat }, true) := by
      unfold stepT
      rw [hO, hA, hB, hD, if_neg (by omega), if_pos hh]
    have e' : stepT t { st with hold := h } i = ({ st with next := fst (B s) (s.size / 4) (a - 48).toNat, hold := h }, true) := by
      unfold stepT
      rw [tO, g1 hh, tB, tD, hn4, if_neg (by omega), if_pos hh, tF]
    rw [e, e']
    exact keep _ st.value st.status st.pub st.sec st.trace true
  | cnd hh ha hb hd =>
    have e : stepT s st i = (if st.hold a.toNat ≠ 0 then ({ st with trace := st.trace ++ ⟨#[63, 49]⟩, next := fst (B s) (s.size / 4) (bb - 48).toNat }, true) else ({ st with trace := st.trace ++ ⟨#[63, 48]⟩, next := fst (B s) (s.size / 4) (d - 48).toNat }, true)) := by
      unfold stepT
      rw [hO, hA, hB, hD, if_neg (by omega), if_neg (by omega), if_pos hh]
    have e' : stepT t { st with hold := h } i = (if h (nx b a).toNat ≠ 0 then ({ st with trace := st.trace ++ ⟨#[63, 49]⟩, next := fst (B s) (s.size / 4) (bb - 48).toNat, hold := h }, true) else ({ st with trace := st.trace ++ ⟨#[63, 48]⟩, next := fst (B s) (s.size / 4) (d - 48).toNat, hold := h }, true)) := by
      unfold stepT
      rw [tO, tA, (g2 hh).1, (g2 hh).2, hn4, if_neg (by omega), if_neg (by omega), if_pos hh, tF, tF]
    rw [e, e', hag a (rg a ha)]
    by_cases hz : st.hold a.toNat ≠ 0
    · rw [if_pos hz, if_pos hz]
      exact keep _ st.value st.status st.pub st.sec _ true
    · rw [if_neg hz, if_neg hz]
      exact keep _ st.value st.status st.pub st.sec _ true
  | ret hh ha _ =>
    have e : stepT s st i = ({ st with next := i + 1, status := 0, value := st.hold a.toNat }, false) := by
      unfold stepT
      rw [hO, hA, hB, hD, if_pos hh]
    have e' : stepT t { st with hold := h } i = ({ st with next := i + 1, status := 0, value := h (nx b a).toNat, hold := h }, false) := by
      unfold stepT
      rw [tO, tA, tB, tD, if_pos hh]
    rw [e, e', hag a (rg a ha)]
    exact keep _ _ _ st.pub st.sec st.trace false
  | put h0 => exact absurd rfl h0
  | get h0 => exact absurd rfl h0
  | clrS h0 => exact absurd rfl h0
  | clrR h0 => exact absurd rfl h0
theorem turn_run {s t : ByteArray} {b : Int} (hz : t.size = s.size) (T : Trn (B s) (B t) b (s.size / 4)) (hp : progB (B s) s.size 0 = true) : ∀ (f : Nat) (st : St) (h : Nat → Int) (i : Nat), st.next = (i : Int) → i < s.size / 4 → (∀ v : Int, letB v = true → h (nx b v).toNat = st.hold v.toNat) →
    ∃ h', runG (stepT t) f { st with hold := h } = { runG (stepT s) f st with hold := h' } := by
  intro f
  induction f with
  | zero => intro st h i _ _ _; exact ⟨h, rfl⟩
  | succ f ih =>
    intro st h i hn hi hag
    have W := turn_step hz T hp hi st h hag
    simp only [runG]
    show ∃ h', (if (stepT t { st with hold := h } st.next.toNat).2 = true then runG (stepT t) f (stepT t { st with hold := h } st.next.toNat).1 else (stepT t { st with hold := h } st.next.toNat).1) = _
    rw [show st.next.toNat = i from by rw [hn, Int.toNat_natCast], ← W.on]
    cases hb : (stepT s st i).2
    · rw [if_neg (by simp), if_neg (by simp)]
      exact ⟨_, W.rest⟩
    · rw [if_pos rfl, if_pos rfl]
      obtain ⟨j, hj, hjn⟩ := stepT_next hp hi hb
      rw [W.rest]
      exact ih (stepT s st i).1 (stepT t { st with hold := h } i).1.hold j hjn hj W.hold
theorem nx_args {b : Int} (h0 : 0 ≤ b) (h1 : b < 24) (j : Nat) {v : Int} (hv : letB v = true) : (nx b v).toNat = pS j ↔ v.toNat = pS j := by
  have hc := nx_cases h0 h1 v
  have a1 := let_pos hv
  have a3 := let_pos (v := nx b v) (by rw [nx_let h0 h1]; exact hv)
  unfold pS
  repeat' split
  all_goals omega
/-- what Run tells of both -/
theorem run_trn {s t : ByteArray} {b : Int} (hz : t.size = s.size) (T : Trn (B s) (B t) b (s.size / 4)) {I : Inp} {f : Int} {x y : St} {e e' : Int} (h : RunR s I f x e) (h' : RunR t I f y e') : e = e' ∧ x.status = y.status ∧ x.value = y.value ∧ x.pub = y.pub ∧ x.sec = y.sec ∧ x.trace = y.trace := by
  have F := fun q => formed_trn hz T q
  rcases h with ⟨a, c, d⟩ | ⟨a, c, d, g⟩ | ⟨a, c, d, g⟩ <;> rcases h' with ⟨a', c', d'⟩ | ⟨a', c', d', g'⟩ | ⟨a', c', d', g'⟩
  · subst d d'; exact ⟨c.eq ((F _).1 c'), rfl, rfl, rfl, rfl, rfl⟩
  · exact absurd (c.eq ((F _).1 a')) a
  · exact absurd (c.eq ((F _).1 a')) a
  · exact absurd (((F _).1 c').eq a) a'
  · subst g g'; exact ⟨d.trans d'.symm, rfl, rfl, rfl, rfl, rfl⟩
  · rw [c] at c'; cases c'
  · exact absurd (((F _).1 c').eq a) a'
  · rw [c] at c'; cases c'
  · obtain ⟨_, hp, _⟩ := a.zero
    have hz4 := size_of_progB hp
    obtain ⟨h', he⟩ := turn_run hz T hp f.toNat (start pS I.cut 4) (start pS I.cut 4).hold 0 rfl (by omega) (fun v hv => by
      show hold0 pS I.cut 4 (nx b v).toNat = hold0 pS I.cut 4 v.toNat
      simp only [hold0, upd, nx_args T.b0 T.b1 _ hv])
    have he' : runG (stepT t) f.toNat (start pS I.cut 4) = { runG (stepT s) f.toNat (start pS I.cut 4) with hold := h' } := he
    subst g g'
    rw [he']
    exact ⟨d.trans d'.symm, rfl, rfl, rfl, rfl, rfl⟩

/-! ### The core -/
/-- the place of the register that stands b further on -/
def pm (b : Nat) (k : Nat) : Nat := if k < 2 then k else if k < 26 then 2 + (k - 2 + b) % 24 else if k < 28 then k else 28 + (k - 28 + b) % 24
theorem pm_lt (b k : Nat) (h : k < 52) : pm b k < 52 := by
  unfold pm
  repeat' split
  all_goals omega
theorem reg_pm {b : Int} (h0 : 0 ≤ b) (h1 : b < 24) (k : Nat) (h : k < 52) : reg (pm b.toNat k) = nx b (reg k) := by
  have hc := nx_cases h0 h1 (reg k)
  unfold reg at hc ⊢
  unfold pm
  by_cases k1 : k < 2
  · rw [if_pos k1]; rw [if_pos (by omega)] at hc ⊢; omega
  rw [if_neg k1]
  by_cases k2 : k < 26
  · rw [if_pos k2]; rw [if_pos k2] at hc ⊢; rw [if_pos (by omega)]; omega
  rw [if_neg k2]
  by_cases k3 : k < 28
  · rw [if_pos k3]; rw [if_neg k2] at hc ⊢; omega
  rw [if_neg k3]
  rw [if_neg k2] at hc ⊢
  rw [if_neg (by omega)]
  omega
theorem cT_rot (S : Nat → Bool) (a r : Nat) (hr : r < 24) : cT (fun x => S (a + (x + r) % 24)) 24 = cT (fun x => S (a + x)) 24 := by
  have e1 := cT_add (fun x => S (a + (x + r) % 24)) (24 - r) r
  have e2 := cT_add (fun x => S (a + x)) r (24 - r)
  rw [show 24 - r + r = 24 from by omega] at e1
  rw [show r + (24 - r) = 24 from by omega] at e2
  have f1 : cT (fun x => S (a + (x + r) % 24)) (24 - r) = cT (fun x => S (a + (r + x))) (24 - r) := cT_congr _ (fun x hx => by rw [show (x + r) % 24 = r + x from by omega])
  have f2 : cT (fun x => S (a + (24 - r + x + r) % 24)) r = cT (fun x => S (a + x)) r := cT_congr _ (fun x hx => by rw [show (24 - r + x + r) % 24 = x from by omega])
  omega
theorem cT_pm (S : Nat → Bool) (b : Nat) (hb : b < 24) : cT (fun k => S (pm b k)) 52 = cT S 52 := by
  have sp : ∀ T : Nat → Bool, cT T 52 = cT T 2 + cT (fun x => T (2 + x)) 24 + cT (fun x => T (26 + x)) 2 + cT (fun x => T (28 + x)) 24 := fun T => by
    have e1 := cT_add T 2 50
    have e2 := cT_add (fun x => T (2 + x)) 24 26
    have e3 := cT_add (fun x => T (2 + (24 + x))) 2 24
    have f1 : cT (fun x => T (2 + (24 + x))) 2 = cT (fun x => T (26 + x)) 2 := cT_congr _ (fun x _ => by rw [show 2 + (24 + x) = 26 + x from by omega])
    have f2 : cT (fun x => T (2 + (24 + (2 + x)))) 24 = cT (fun x => T (28 + x)) 24 := cT_congr _ (fun x _ => by rw [show 2 + (24 + (2 + x)) = 28 + x from by omega])
    simp only [show 2 + 50 = 52 from rfl, show 24 + 26 = 50 from rfl, show 2 + 24 = 26 from rfl] at e1 e2 e3
    omega
  rw [sp (fun k => S (pm b k)), sp S]
  have g1 : cT (fun k => S (pm b k)) 2 = cT S 2 := cT_congr _ (fun x hx => by rw [show pm b x = x from by unfold pm; rw [if_pos hx]])
  have g2 : cT (fun x => S (pm b (2 + x))) 24 = cT (fun x => S (2 + x)) 24 := by
    rw [← cT_rot S 2 b hb]
    exact cT_congr _ (fun x hx => by rw [show pm b (2 + x) = 2 + (x + b) % 24 from by unfold pm; rw [if_neg (by omega), if_pos (by omega), show 2 + x - 2 = x from by omega]])
  have g3 : cT (fun x => S (pm b (26 + x))) 2 = cT (fun x => S (26 + x)) 2 := cT_congr _ (fun x hx => by rw [show pm b (26 + x) = 26 + x from by unfold pm; rw [if_neg (by omega), if_neg (by omega), if_pos (by omega)]])
  have g4 : cT (fun x => S (pm b (28 + x))) 24 = cT (fun x => S (28 + x)) 24 := by
    rw [← cT_rot S 28 b hb]
    exact cT_congr _ (fun x hx => by rw [show pm b (28 + x) = 28 + (x + b) % 24 from by unfold pm; rw [if_neg (by omega), if_neg (by omega), if_neg (by omega), show 28 + x - 28 = x from by omega]])
  rw [g1, g2, g3, g4]
theorem pm_back (b k : Nat) (hb : b < 24) (h : k < 52) : pm b (pm ((24 - b) % 24) k) = k := by
  unfold pm
  repeat' split
  all_goals omega
/-- a core under other names -/
theorem core_pm {S : Nat → Bool} {M : Nat → Nat → Bool} {c : Int} {L : Nat → Bool} {b : Nat} (hb : b < 24) (h : IsCore S M c L) : IsCore (fun r => S (pm b r)) (fun r x => M (pm b r) (pm b x)) c (fun r => L (pm b r)) := by
  have dn : ∀ (b : Nat), b < 24 → ∀ {M : Nat → Nat → Bool} {D : Nat → Bool}, Dense M c D → Dense (fun r x => M (pm b r) (pm b x)) c (fun r => D (pm b r)) := fun b hb M D hd r hr hl => by
    have := hd (pm b r) (pm_lt b r hr) hl
    rw [← cT_pm _ b hb] at this
    exact this
  refine ⟨fun r hr hl => h.sub _ (pm_lt b r hr) hl, dn b hb h.dense, fun D h1 h2 r hr hd => ?_⟩
  have hb' : (24 - b) % 24 < 24 := Nat.mod_lt _ (by omega)
  have d2 := dn ((24 - b) % 24) hb' h2
  have d3 : Dense M c (fun r => D (pm ((24 - b) % 24) r)) := d2.congr (fun r x hr hx => by show M (pm b (pm _ r)) (pm b (pm _ x)) = M r x; rw [pm_back b r hb hr, pm_back b x hb hx]) (fun _ _ => rfl)
  have bk : pm ((24 - b) % 24) (pm b r) = r := by
    have := pm_back ((24 - b) % 24) r hb' hr
    rwa [show (24 - (24 - b) % 24) % 24 = b from by omega] at this
  exact h.all (fun r => D (pm ((24 - b) % 24) r)) (fun x hx hdx => by
    have : S (pm b (pm ((24 - b) % 24) x)) = true := h1 _ (pm_lt _ x hx) hdx
    rwa [pm_back b x hb hx] at this) d3 (pm b r) (pm_lt b r hr) (by show D (pm ((24 - b) % 24) (pm b r)) = true; rw [bk]; exact hd)
theorem Trn.stands {c d : Nat → Int} {b : Int} {n : Nat} (T : Trn c d b n) (v : Int) : Stands d n (nx b v) ↔ Stands c n v :=
  ⟨fun ⟨i, hi, h⟩ => ⟨i, hi, by rw [T.rd hi, T.wr hi] at h; exact h⟩, fun ⟨i, hi, h⟩ => ⟨i, hi, by rw [T.rd hi, T.wr hi]; exact h⟩⟩
theorem Trn.meet {c d : Nat → Int} {b : Int} {size : Nat} (T : Trn c d b (size / 4)) (hp : progB c size 0 = true) (v u : Int) : Meet d (size / 4) (nx b v) (nx b u) ↔ Meet c (size / 4) v u := by
  have hz := size_of_progB hp
  have G := good_of_progB hp
  have inner : ∀ i, i < size / 4 → ∀ x, wrAt c x i = true → i + 1 < size / 4 := fun i hin x hw => by
    by_cases e : i = size / 4 - 1
    · have := G.last
      rw [← e] at this
      unfold wrAt wrB at hw
      simp only [Bool.and_eq_true, Bool.or_eq_true, beq_iff_eq] at hw
      simp only [endB, Bool.or_eq_true, beq_iff_eq] at this
      have := hw.1
      simp only [arithB, Bool.or_eq_true, beq_iff_eq] at this
      omega
    · omega
  unfold Meet
  have ne : nx b v ≠ nx b u ↔ v ≠ u := ⟨fun h e => h (by rw [e]), fun h e => h (nx_inj T.b0 T.b1 e)⟩
  rw [ne, T.want hp v (by omega), T.want hp u (by omega)]
  constructor
  · rintro ⟨h, h1 | ⟨i, hi, ⟨hw, hl⟩ | ⟨hw, hl⟩⟩⟩
    · exact ⟨h, Or.inl h1⟩
    · rw [T.wr hi] at hw
      exact ⟨h, Or.inr ⟨i, hi, Or.inl ⟨hw, (T.want hp u (inner i hi _ hw)).1 hl⟩⟩⟩
    · rw [T.wr hi] at hw
      exact ⟨h, Or.inr ⟨i, hi, Or.inr ⟨hw, (T.want hp v (inner i hi _ hw)).1 hl⟩⟩⟩
  · rintro ⟨h, h1 | ⟨i, hi, ⟨hw, hl⟩ | ⟨hw, hl⟩⟩⟩
    · exact ⟨h, Or.inl h1⟩
    · exact ⟨h, Or.inr ⟨i, hi, Or.inl ⟨by rw [T.wr hi]; exact hw, (T.want hp u (inner i hi _ hw)).2 hl⟩⟩⟩
    · exact ⟨h, Or.inr ⟨i, hi, Or.inr ⟨by rw [T.wr hi]; exact hw, (T.want hp v (inner i hi _ hw)).2 hl⟩⟩⟩
/-- what Core tells of both -/
theorem core_trn {s t : ByteArray} {b : Int} (hz : t.size = s.size) (T : Trn (B s) (B t) b (s.size / 4)) {c : Int} {x y : ByteArray} {e e' : Int} (h : CoreR s c x e) (h' : CoreR t c y e') : e = e' ∧ x.size = y.size := by
  have F := fun q => formed_trn hz T q
  rcases h with ⟨a, g, d⟩ | ⟨a, g, d, k⟩ | ⟨a, g, d, P, k, l⟩ <;> rcases h' with ⟨a', g', d'⟩ | ⟨a', g', d', k'⟩ | ⟨a', g', d', P', k', l'⟩
  · subst d d'; exact ⟨g.eq ((F _).1 g'), rfl⟩
  · exact absurd (g.eq ((F _).1 a')) a
  · exact absurd (g.eq ((F _).1 a')) a
  · exact absurd (((F _).1 g').eq a) a'
  · subst k k'; exact ⟨d.trans d'.symm, rfl⟩
  · exact absurd g' g
  · exact absurd (((F _).1 g').eq a) a'
  · exact absurd g g'
  · obtain ⟨_, hp, _⟩ := a.zero
    have hb : b.toNat < 24 := by have := T.b1; have := T.b0; omega
    have k2 := core_pm hb k'
    have k3 : IsCore (standsB (B s) (s.size / 4)) (meetB (B s) (s.size / 4)) c (fun r => P' (pm b.toNat r)) := k2.congr (fun r hr => by
      rw [Bool.eq_iff_iff, standsB_iff, standsB_iff, reg_pm T.b0 T.b1 r hr, hz]
      exact T.stands _) (fun r x hr hx => by
      rw [Bool.eq_iff_iff, meetB_iff, meetB_iff, reg_pm T.b0 T.b1 r hr, reg_pm T.b0 T.b1 x hx, hz]
      exact T.meet hp _ _)
    refine ⟨d.trans d'.symm, ?_⟩
    rw [l, l', letT_len, letT_len, ← cT_pm P' b.toNat hb]
    exact cT_congr 52 (fun r hr => k.eq k3 r hr)
end Go.Proofs.YtccndnckceagfaaDoorR.Sp
