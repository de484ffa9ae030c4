/-
  The program's run of a program taken apart: plain mathematics.
  The program's run against the document's: plain mathematics.
-/
import Derived.Test.YtccndnckceagfabGreatDoorRHStart
import Derived.Test.YtccndnckceagfabGreatDoorRG05
import Derived.Test.YtccndnckceagfabGreatDoorRG06
namespace Go.Proofs.YtccndnckceagfabGreatDoorR.Sp

/-- what a run changes: the places, the memories, the trace, how it ended -/
structure PSt where
  pl : Nat → Int
  pub : Nat → Int
  sec : Nat → Int
  trace : ByteArray
  ended : Bool
  status : Int
  value : Int
structure PSt.ok (m : PSt) (n : Nat) : Prop where
  pl : ∀ k, 0 ≤ m.pl k ∧ m.pl k ≤ 65535
  pub : ∀ k, 0 ≤ m.pub k ∧ m.pub k ≤ 65535
  sec : ∀ k, 0 ≤ m.sec k ∧ m.sec k ≤ 65535
  trace : m.trace.size ≤ n
def rdP (m : PSt) (p : Int) : Int := if 0 ≤ p ∧ p < 62 then m.pl p.toNat else 0
def wrP (m : PSt) (p v : Int) : PSt := if 0 ≤ p ∧ p < 62 then { m with pl := upd m.pl p.toNat v } else m
def shP (m : PSt) (t : ByteArray) : PSt := { m with trace := m.trace ++ t }
def endP (m : PSt) (s : Int) : PSt := { m with status := s, ended := true }
def cmpP (o x y n : Int) : Int := if arithB o = true then cntS o x y else if o = 61 then x else n
def memT (o v : Int) : ByteArray := ⟨#[UInt8.ofNat o.toNat]⟩ ++ ⟨(Lib.decDigits v.toNat).toArray⟩
def letP (p : Int) : Int := if 0 ≤ p ∧ p < 52 then B alpha p.toNat else 46
def sltP (m : PSt) (o p : Int) : PSt := if p < 10 then m else shP m ⟨#[UInt8.ofNat o.toNat, UInt8.ofNat (letP (p - 10)).toNat]⟩
def reaP (m : PSt) (i : Ins) : PSt :=
  let v := rdP m i.x
  let m1 := shP m (memT i.o v)
  if 8 ≤ v then endP (shP m1 ⟨#[33]⟩) 1
  else if i.o = 108 then wrP m1 i.d (m1.pub v.toNat)
  else if i.o = 76 then wrP m1 i.d (m1.sec v.toNat)
  else if i.o = 115 then { m1 with pub := upd m1.pub v.toNat (rdP m1 i.y) }
  else { m1 with sec := upd m1.sec v.toNat (rdP m1 i.y) }
def movP (m : PSt) (i : Ins) : PSt := wrP (sltP (sltP m i.o i.d) i.o i.x) i.d (rdP (sltP (sltP m i.o i.d) i.o i.x) i.x)
def stepP (F : Int → Int) (m : PSt) (a : Int) (i : Ins) : PSt × Int :=
  if i.o = 106 then (m, F i.k)
  else if i.o = 63 then (if rdP m i.x ≠ 0 then (shP m ⟨#[63, 49]⟩, F i.k) else (shP m ⟨#[63, 48]⟩, F i.m))
  else if i.o = 114 then (endP { m with value := rdP m i.x } 0, a + 1)
  else if i.o = 108 ∨ i.o = 76 ∨ i.o = 115 ∨ i.o = 83 then (reaP m i, a + 1)
  else if i.o = 62 ∨ i.o = 60 ∨ i.o = 126 then (movP m i, a + 1)
  else (wrP m i.d (cmpP i.o (rdP m i.x) (rdP m i.y) i.n), a + 1)
def walkP (C : List Ins) (F : Int → Int) : Nat → PSt → Int → PSt
  | 0, m, _ => m
  | f + 1, m, a => if m.ended = true then m else if h : 0 ≤ a ∧ a.toNat < C.length then walkP C F f (stepP F m a (C[a.toNat]'h.2)).1 (stepP F m a (C[a.toNat]'h.2)).2 else m

/-- what an instruction that was read is made of -/
inductive Form (k : Int) (o a b d : Int) : Ins → Prop
  | ar : arithB o = true → regB a k = true → regB b k = true → regB d k = true → Form k o a b d ⟨o, rgK k a, rgK k b, rgK k d, 0, -1, -1⟩
  | num : o = 35 → regB a k = true → digB b = true → digB d = true → Form k o a b d ⟨o, rgK k a, -1, -1, 10 * (b - 48) + (d - 48), -1, -1⟩
  | two : (o = 61 ∨ o = 108 ∨ o = 76) → regB a k = true → regB b k = true → Form k o a b d ⟨o, rgK k a, rgK k b, -1, 0, -1, -1⟩
  | sto : (o = 115 ∨ o = 83) → regB a k = true → regB b k = true → Form k o a b d ⟨o, -1, rgK k a, rgK k b, 0, -1, -1⟩
  | jmp : o = 106 → digB a = true → Form k o a b d ⟨o, -1, -1, -1, 0, a - 48, -1⟩
  | cnd : o = 63 → regB a k = true → digB b = true → digB d = true → Form k o a b d ⟨o, -1, rgK k a, -1, 0, b - 48, d - 48⟩
  | ret : o = 114 → regB a k = true → (k ≠ 0 → a = 48) → Form k o a b d ⟨o, -1, rgK k a, -1, 0, -1, -1⟩
  | put : k ≠ 0 → o = 62 → letB a = true → regB b k = true → Form k o a b d ⟨o, slO a, rgK k b, -1, 0, -1, -1⟩
  | get : k ≠ 0 → o = 60 → regB a k = true → letB b = true → Form k o a b d ⟨o, rgK k a, slO b, -1, 0, -1, -1⟩
  | clrS : k ≠ 0 → o = 126 → letB a = true → Form k o a b d ⟨o, slO a, -1, -1, 0, -1, -1⟩
  | clrR : k ≠ 0 → o = 126 → regB a k = true → Form k o a b d ⟨o, rgK k a, -1, -1, 0, -1, -1⟩

theorem dg_of' {b : Int} (h : digB b = true) : dgO b = b - 48 := by unfold dgO; rw [if_pos h]
theorem form_of {k : Int} (hk : 0 ≤ k) {c : Nat → Int} {i : Nat} (h : dokK k c i = true) : Form k (c (4 * i)) (c (4 * i + 1)) (c (4 * i + 2)) (c (4 * i + 3)) (insK k c i) := by
  unfold dokK dokBK at h
  simp only [Bool.and_eq_true, decide_eq_true_eq] at h
  obtain ⟨hz, ⟨h0, h1⟩, h2⟩ := h
  rw [show 4 * i + 0 + 1 = 4 * i + 1 from rfl] at h0
  rw [show 4 * i + 1 + 1 = 4 * i + 2 from rfl] at h1
  rw [show 4 * i + 2 + 1 = 4 * i + 3 from rfl] at h2
  have e : insK k c i = tkIK (tkIK (tkIK ⟨c (4 * i), -1, -1, -1, 0, -1, -1⟩ (B (shpK k (c (4 * i))) 0) (c (4 * i + 1)) (plO k (B (shpK k (c (4 * i))) 0) (c (4 * i + 1)))) (B (shpK k (c (4 * i))) 1) (c (4 * i + 2)) (plO k (B (shpK k (c (4 * i))) 1) (c (4 * i + 2)))) (B (shpK k (c (4 * i))) 2) (c (4 * i + 3)) (plO k (B (shpK k (c (4 * i))) 2) (c (4 * i + 3))) := rfl
  rw [e]
  generalize c (4 * i) = o at *
  generalize c (4 * i + 1) = a at *
  generalize c (4 * i + 2) = b at *
  generalize c (4 * i + 3) = d at *
  clear e
  have P := plO_plain k
  by_cases hk0 : k ≠ 0 ∧ (o = 62 ∨ o = 60 ∨ o = 126 ∨ o = 114)
  · obtain ⟨hk0, m⟩ := hk0
    have hk1 : 0 < k := by omega
    rcases m with rfl | rfl | rfl | rfl
    · have s2 : shpK k 62 = ⟨#[68, 120, 46]⟩ := by simp [shpK, hk0]
      rw [s2] at h0 h1 h2 ⊢
      have g0 : tkBK 68 a (plO k 68 a) = true := h0
      have g1 : tkBK 120 b (plO k 120 b) = true := h1
      rw [tkB_slot k 68 a (by omega)] at g0
      rw [tkB_reg' k 120 b hk (by omega)] at g1
      have q := Form.put (d := d) hk0 (rfl : (62 : Int) = 62) g0 g1
      show Form k 62 a b d ⟨62, plO k 68 a, plO k 120 b, -1, 0, -1, -1⟩
      rw [show plO k 68 a = slO a from by simp [plO], P 120 b (by omega) (by omega) (by omega) (by omega)]
      exact q
    · have s2 : shpK k 60 = ⟨#[100, 88, 46]⟩ := by simp [shpK, hk0]
      rw [s2] at h0 h1 h2 ⊢
      have g0 : tkBK 100 a (plO k 100 a) = true := h0
      have g1 : tkBK 88 b (plO k 88 b) = true := h1
      rw [tkB_reg' k 100 a hk (by omega)] at g0
      rw [tkB_slot k 88 b (by omega)] at g1
      have q := Form.get (d := d) hk0 (rfl : (60 : Int) = 60) g0 g1
      show Form k 60 a b d ⟨60, plO k 100 a, plO k 88 b, -1, 0, -1, -1⟩
      rw [show plO k 88 b = slO b from by simp [plO], P 100 a (by omega) (by omega) (by omega) (by omega)]
      exact q
    · have s2 : shpK k 126 = ⟨#[113, 46, 46]⟩ := by simp [shpK, hk0]
      rw [s2] at h0 h1 h2 ⊢
      have g0 : tkBK 113 a (plO k 113 a) = true := h0
      rw [tkB_q k a hk] at g0
      show Form k 126 a b d ⟨126, plO k 113 a, -1, -1, 0, -1, -1⟩
      by_cases hl : letB a = true
      · have : slO a ≠ -1 := by
          have := slO_let a
          rw [hl] at this
          simpa using this
        rw [show plO k 113 a = slO a from by simp [plO, this]]
        exact Form.clrS hk0 rfl hl
      · have hl' : slO a = -1 := by
          have := slO_let a
          rw [Bool.not_eq_true] at hl
          rw [hl] at this
          simpa using this
        rw [show plO k 113 a = rgK k a from by simp [plO, hl']]
        refine Form.clrR hk0 rfl ?_
        rw [Bool.not_eq_true] at hl
        rw [hl, Bool.or_false] at g0
        exact g0
    · have s2 : shpK k 114 = ⟨#[48, 46, 46]⟩ := by simp [shpK, hk0]
      rw [s2] at h0 h1 h2 ⊢
      have g0 : tkBK 48 a (plO k 48 a) = true := h0
      rw [tkB_0 k a hk1, beq_iff_eq] at g0
      subst g0
      show Form k 114 48 b d ⟨114, -1, plO k 48 48, -1, 0, -1, -1⟩
      rw [show plO k 48 48 = rgK k 48 from by simp [plO]]
      refine Form.ret rfl ?_ (fun _ => rfl)
      unfold regB
      rw [if_neg hk0]
      simp [digB]
      omega
  have sK : shpK k o = dshp o := by
    by_cases k0 : k = 0
    · simp [shpK, k0]
    · have : ¬ (o = 62 ∨ o = 60 ∨ o = 126 ∨ o = 114) := fun h => hk0 ⟨k0, h⟩
      have m1 : o ≠ 62 := by omega
      have m2 : o ≠ 60 := by omega
      have m3 : o ≠ 126 := by omega
      have m4 : o ≠ 114 := by omega
      simp [shpK, k0, m1, m2, m3, m4]
  rw [sK] at h0 h1 h2 hz ⊢
  by_cases n1 : arithB o = true
  · have s2 : dshp o = ⟨#[100, 120, 121]⟩ := by simp [dshp, n1]
    rw [s2] at h0 h1 h2 ⊢
    have g0 : tkBK 100 a (plO k 100 a) = true := h0
    have g1 : tkBK 120 b (plO k 120 b) = true := h1
    have g2 : tkBK 121 d (plO k 121 d) = true := h2
    rw [tkB_reg' k 100 a hk (by omega)] at g0
    rw [tkB_reg' k 120 b hk (by omega)] at g1
    rw [tkB_reg' k 121 d hk (by omega)] at g2
    show Form k o a b d ⟨o, plO k 100 a, plO k 120 b, plO k 121 d, 0, -1, -1⟩
    rw [P 100 a (by omega) (by omega) (by omega) (by omega), P 120 b (by omega) (by omega) (by omega) (by omega), P 121 d (by omega) (by omega) (by omega) (by omega)]
    exact Form.ar n1 g0 g1 g2
  by_cases n2 : o = 35
  · subst n2
    have s2 : dshp 35 = ⟨#[100, 116, 110]⟩ := by simp [dshp, arithB]
    rw [s2] at h0 h1 h2 ⊢
    have g0 : tkBK 100 a (plO k 100 a) = true := h0
    have g1 : tkBK 116 b (plO k 116 b) = true := h1
    have g2 : tkBK 110 d (plO k 110 d) = true := h2
    rw [tkB_reg' k 100 a hk (by omega)] at g0
    rw [tkB_dig' 116 b _ (by omega)] at g1
    rw [tkB_dig' 110 d _ (by omega)] at g2
    show Form k 35 a b d ⟨35, plO k 100 a, -1, -1, (0 * 10 + dgO b) * 10 + dgO d, -1, -1⟩
    rw [P 100 a (by omega) (by omega) (by omega) (by omega), dg_of' g1, dg_of' g2, show (0 * 10 + (b - 48)) * 10 + (d - 48) = 10 * (b - 48) + (d - 48) from by omega]
    exact Form.num rfl g0 g1 g2
  by_cases n3 : o = 61 ∨ o = 108 ∨ o = 76
  · have s2 : dshp o = ⟨#[100, 120, 46]⟩ := by simp [dshp, n1, n2, n3]
    rw [s2] at h0 h1 h2 ⊢
    have g0 : tkBK 100 a (plO k 100 a) = true := h0
    have g1 : tkBK 120 b (plO k 120 b) = true := h1
    rw [tkB_reg' k 100 a hk (by omega)] at g0
    rw [tkB_reg' k 120 b hk (by omega)] at g1
    show Form k o a b d ⟨o, plO k 100 a, plO k 120 b, -1, 0, -1, -1⟩
    rw [P 100 a (by omega) (by omega) (by omega) (by omega), P 120 b (by omega) (by omega) (by omega) (by omega)]
    exact Form.two n3 g0 g1
  by_cases n4 : o = 115 ∨ o = 83
  · have s2 : dshp o = ⟨#[120, 121, 46]⟩ := by simp [dshp, n1, n2, n3, n4]
    rw [s2] at h0 h1 h2 ⊢
    have g0 : tkBK 120 a (plO k 120 a) = true := h0
    have g1 : tkBK 121 b (plO k 121 b) = true := h1
    rw [tkB_reg' k 120 a hk (by omega)] at g0
    rw [tkB_reg' k 121 b hk (by omega)] at g1
    show Form k o a b d ⟨o, -1, plO k 120 a, plO k 121 b, 0, -1, -1⟩
    rw [P 120 a (by omega) (by omega) (by omega) (by omega), P 121 b (by omega) (by omega) (by omega) (by omega)]
    exact Form.sto n4 g0 g1
  by_cases n5 : o = 106
  · subst n5
    have s2 : dshp 106 = ⟨#[107, 46, 46]⟩ := by simp [dshp, arithB]
    rw [s2] at h0 h1 h2 ⊢
    have g0 : tkBK 107 a (plO k 107 a) = true := h0
    rw [tkB_dig' 107 a _ (by omega)] at g0
    show Form k 106 a b d ⟨106, -1, -1, -1, 0, dgO a, -1⟩
    rw [dg_of' g0]
    exact Form.jmp rfl g0
  by_cases n6 : o = 63
  · subst n6
    have s2 : dshp 63 = ⟨#[120, 107, 109]⟩ := by simp [dshp, arithB]
    rw [s2] at h0 h1 h2 ⊢
    have g0 : tkBK 120 a (plO k 120 a) = true := h0
    have g1 : tkBK 107 b (plO k 107 b) = true := h1
    have g2 : tkBK 109 d (plO k 109 d) = true := h2
    rw [tkB_reg' k 120 a hk (by omega)] at g0
    rw [tkB_dig' 107 b _ (by omega)] at g1
    rw [tkB_dig' 109 d _ (by omega)] at g2
    show Form k 63 a b d ⟨63, -1, plO k 120 a, -1, 0, dgO b, dgO d⟩
    rw [P 120 a (by omega) (by omega) (by omega) (by omega), dg_of' g1, dg_of' g2]
    exact Form.cnd rfl g0 g1 g2
  by_cases n7 : o = 114
  · subst n7
    have k0 : k = 0 := Classical.byContradiction fun h => hk0 ⟨h, by omega⟩
    have s2 : dshp 114 = ⟨#[120, 46, 46]⟩ := by simp [dshp, arithB]
    rw [s2] at h0 h1 h2 ⊢
    have g0 : tkBK 120 a (plO k 120 a) = true := h0
    rw [tkB_reg' k 120 a hk (by omega)] at g0
    show Form k 114 a b d ⟨114, -1, plO k 120 a, -1, 0, -1, -1⟩
    rw [P 120 a (by omega) (by omega) (by omega) (by omega)]
    exact Form.ret rfl g0 (fun h => absurd k0 h)
  · have s2 : dshp o = ⟨#[]⟩ := by simp [dshp, n1, n2, n3, n4, n5, n6, n7]
    rw [s2] at hz
    exact absurd hz (by decide)
end Go.Proofs.YtccndnckceagfabGreatDoorR.Sp

namespace Go.Proofs.YtccndnckceagfabGreatDoorR.Sp

/-- what an instruction that moves between places leaves of a state -/
def frmS (st : St) (o a b : Int) : St :=
  if o = 62 then { st with hold := upd st.hold a.toNat (st.hold b.toNat), trace := st.trace ++ ⟨#[62, UInt8.ofNat a.toNat]⟩ }
  else if o = 60 then { st with hold := upd st.hold a.toNat (st.hold b.toNat), trace := st.trace ++ ⟨#[60, UInt8.ofNat b.toNat]⟩ }
  else if letB a = true then { st with hold := upd st.hold a.toNat 0, trace := st.trace ++ ⟨#[126, UInt8.ofNat a.toNat]⟩ }
  else { st with hold := upd st.hold a.toNat 0 }
/-- one step of a run, of a machine's too -/
def stepU (s : ByteArray) (st : St) (i : Nat) : St × Bool :=
  if B s (4 * i) = 62 ∨ B s (4 * i) = 60 ∨ B s (4 * i) = 126 then (frmS { st with next := i + 1 } (B s (4 * i)) (B s (4 * i + 1)) (B s (4 * i + 2)), true)
  else stepT s st i

structure Rel (k : Int) (m : PSt) (st : St) : Prop where
  reg : ∀ a, regB a k = true → m.pl (rgK k a).toNat = st.hold a.toNat
  slt : k ≠ 0 → ∀ a, letB a = true → m.pl (slO a).toNat = st.hold a.toNat
  pub : m.pub = st.pub
  sec : m.sec = st.sec
  trace : m.trace = st.trace
  value : m.value = st.value

theorem rgO_val {a : Int} (h : letB a = true) : (97 ≤ a ∧ a ≤ 122 ∧ rgO a = a - 97) ∨ (65 ≤ a ∧ a ≤ 90 ∧ rgO a = a - 39) := by
  simp only [letB, lowB, uppB, Bool.or_eq_true, decide_eq_true_eq] at h
  simp only [rgO, lowB, uppB, decide_eq_true_eq]
  repeat' split
  all_goals omega
theorem rgK_val {k a : Int} (h : regB a k = true) : (k = 0 ∧ letB a = true ∧ rgK k a = rgO a) ∨ (k ≠ 0 ∧ 48 ≤ a ∧ a ≤ 57 ∧ a - 48 < k ∧ rgK k a = a - 48) := by
  unfold regB at h
  unfold rgK
  by_cases h0 : k = 0
  · rw [if_pos h0] at h ⊢
    exact Or.inl ⟨h0, h, rfl⟩
  · rw [if_neg h0] at h ⊢
    rw [Bool.and_eq_true, decide_eq_true_eq] at h
    have hd := dg_of' h.1
    simp only [digB, decide_eq_true_eq] at h
    rw [hd]
    refine Or.inr ⟨h0, h.1.1, h.1.2, h.2, ?_⟩
    rw [if_neg (by omega)]
theorem reg_range {k a : Int} (_hk : k ≤ 10) (h : regB a k = true) : 0 ≤ rgK k a ∧ rgK k a < 62 ∧ (k ≠ 0 → rgK k a < 10) ∧ 0 ≤ a := by
  rcases rgK_val h with ⟨h0, h1, h2⟩ | ⟨h0, h1, h2, h3, h4⟩
  · have := rgO_val h1
    omega
  · omega
theorem slo_val {a : Int} (h : letB a = true) : slO a = 10 + rgO a := by
  have := rgO_val h
  unfold slO
  rw [if_neg (by omega)]
theorem slo_range {a : Int} (h : letB a = true) : 10 ≤ slO a ∧ slO a < 62 ∧ 0 ≤ a := by
  have := rgO_val h
  rw [slo_val h]
  omega
theorem reg_inj {k a b : Int} (ha : regB a k = true) (hb : regB b k = true) (e : rgK k a = rgK k b) : a = b := by
  rcases rgK_val ha with ⟨h0, h1, h2⟩ | ⟨h0, h1, h2, h3, h4⟩ <;> rcases rgK_val hb with ⟨g0, g1, g2⟩ | ⟨g0, g1, g2, g3, g4⟩
  · have := rgO_val h1
    have := rgO_val g1
    omega
  · omega
  · omega
  · omega
theorem slo_inj {a b : Int} (ha : letB a = true) (hb : letB b = true) (e : slO a = slO b) : a = b := by
  have := rgO_val ha
  have := rgO_val hb
  rw [slo_val ha, slo_val hb] at e
  omega

theorem Rel.rd {k : Int} {m : PSt} {st : St} (R : Rel k m st) (hk : k ≤ 10) {a : Int} (h : regB a k = true) : rdP m (rgK k a) = st.hold a.toNat := by
  have := reg_range hk h
  unfold rdP
  rw [if_pos ⟨this.1, this.2.1⟩]
  exact R.reg a h
theorem Rel.rdS {k : Int} {m : PSt} {st : St} (R : Rel k m st) (hk : k ≠ 0) {a : Int} (h : letB a = true) : rdP m (slO a) = st.hold a.toNat := by
  have := slo_range h
  unfold rdP
  rw [if_pos ⟨by omega, this.2.1⟩]
  exact R.slt hk a h
theorem wrP_rest (m : PSt) (p v : Int) : (wrP m p v).pub = m.pub ∧ (wrP m p v).sec = m.sec ∧ (wrP m p v).trace = m.trace ∧ (wrP m p v).value = m.value ∧ (wrP m p v).ended = m.ended ∧ (wrP m p v).status = m.status := by
  unfold wrP
  split <;> exact ⟨rfl, rfl, rfl, rfl, rfl, rfl⟩
theorem Rel.wr {k : Int} {m : PSt} {st : St} (R : Rel k m st) (hk : k ≤ 10) {a : Int} (h : regB a k = true) (v : Int) : Rel k (wrP m (rgK k a) v) { st with hold := upd st.hold a.toNat v } := by
  have ra := reg_range hk h
  obtain ⟨e1, e2, e3, e4, _, _⟩ := wrP_rest m (rgK k a) v
  have e : (wrP m (rgK k a) v).pl = upd m.pl (rgK k a).toNat v := by unfold wrP; rw [if_pos ⟨ra.1, ra.2.1⟩]
  refine ⟨fun b hb => ?_, fun h0 b hb => ?_, e1.trans R.pub, e2.trans R.sec, e3.trans R.trace, e4.trans R.value⟩
  · have rb := reg_range hk hb
    rw [e]
    show (if (rgK k b).toNat = (rgK k a).toNat then v else m.pl (rgK k b).toNat) = if b.toNat = a.toNat then v else st.hold b.toNat
    by_cases eq : b = a
    · subst eq; rw [if_pos rfl, if_pos rfl]
    · have : rgK k b ≠ rgK k a := fun h' => eq (reg_inj hb h h')
      rw [if_neg (by omega), if_neg (by omega), R.reg b hb]
  · have rb := slo_range hb
    rw [e]
    show (if (slO b).toNat = (rgK k a).toNat then v else m.pl (slO b).toNat) = if b.toNat = a.toNat then v else st.hold b.toNat
    have := ra.2.2.1 h0
    have hne : b ≠ a := by
      have h1 := rgO_val hb
      rcases rgK_val h with ⟨q, _⟩ | ⟨_, q1, q2, q3, q4⟩ <;> omega
    rw [if_neg (by omega), if_neg (by omega), R.slt h0 b hb]
theorem Rel.wrS {k : Int} {m : PSt} {st : St} (R : Rel k m st) (hk : k ≤ 10) (h0 : k ≠ 0) {a : Int} (h : letB a = true) (v : Int) : Rel k (wrP m (slO a) v) { st with hold := upd st.hold a.toNat v } := by
  have ra := slo_range h
  obtain ⟨e1, e2, e3, e4, _, _⟩ := wrP_rest m (slO a) v
  have e : (wrP m (slO a) v).pl = upd m.pl (slO a).toNat v := by unfold wrP; rw [if_pos ⟨by omega, ra.2.1⟩]
  refine ⟨fun b hb => ?_, fun h0 b hb => ?_, e1.trans R.pub, e2.trans R.sec, e3.trans R.trace, e4.trans R.value⟩
  · have rb := reg_range hk hb
    rw [e]
    show (if (rgK k b).toNat = (slO a).toNat then v else m.pl (rgK k b).toNat) = if b.toNat = a.toNat then v else st.hold b.toNat
    have := rb.2.2.1 h0
    have hne : b ≠ a := by
      have h1 := rgO_val h
      rcases rgK_val hb with ⟨q, _⟩ | ⟨_, q1, q2, q3, q4⟩ <;> omega
    rw [if_neg (by omega), if_neg (by omega), R.reg b hb]
  · have rb := slo_range hb
    rw [e]
    show (if (slO b).toNat = (slO a).toNat then v else m.pl (slO b).toNat) = if b.toNat = a.toNat then v else st.hold b.toNat
    by_cases eq : b = a
    · subst eq; rw [if_pos rfl, if_pos rfl]
    · have : slO b ≠ slO a := fun h' => eq (slo_inj hb h h')
      rw [if_neg (by omega), if_neg (by omega), R.slt h0 b hb]
theorem Rel.sh {k : Int} {m : PSt} {st : St} (R : Rel k m st) (t : ByteArray) : Rel k (shP m t) { st with trace := st.trace ++ t } :=
  ⟨R.reg, R.slt, R.pub, R.sec, by show m.trace ++ t = _; rw [R.trace], R.value⟩
theorem Rel.next {k : Int} {m : PSt} {st : St} (R : Rel k m st) (n : Int) : Rel k m { st with next := n } := ⟨R.reg, R.slt, R.pub, R.sec, R.trace, R.value⟩
theorem Rel.endp {k : Int} {m : PSt} {st : St} (R : Rel k m st) (n : Int) : Rel k (endP m n) { st with status := n } := ⟨R.reg, R.slt, R.pub, R.sec, R.trace, R.value⟩

theorem ext_B {x y : ByteArray} (hs : x.size = y.size) (h : ∀ j, j < x.size → B x j = B y j) : x = y := by
  refine ByteArray.ext (Array.ext hs fun j h1 h2 => ?_)
  have e := h j h1
  rw [← B_get x j h1, ← B_get y j h2] at e
  have e' : (x[j]).toNat = (y[j]).toNat := by omega
  exact UInt8.toNat_inj.1 e'
theorem size_head (x : ByteArray) (h : 0 < x.size) : (x.extract 0 1).size = 1 := by
  rw [ByteArray.size_extract]
  omega
theorem B_head (x : ByteArray) (h : 0 < x.size) : B (x.extract 0 1) 0 = B x 0 := by
  have h1 : 0 < (x.extract 0 1).size := by rw [size_head x h]; omega
  rw [← B_get (x.extract 0 1) 0 h1, ← B_get x 0 h, ByteArray.getElem_extract]
theorem B_one (v : Int) (h0 : 0 ≤ v) (h1 : v ≤ 255) : B ⟨#[UInt8.ofNat v.toNat]⟩ 0 = v := by
  show ((UInt8.ofNat v.toNat).toNat : Int) = v
  rw [UInt8.toNat_ofNat']
  omega
theorem op_str (s : ByteArray) (i : Nat) (h : 4 * i + 4 ≤ s.size) : (s.extract (4 * i) (4 * i + 4)).extract 0 1 = ⟨#[UInt8.ofNat (B s (4 * i)).toNat]⟩ := by
  have hz : 0 < (s.extract (4 * i) (4 * i + 4)).size := by rw [size_ext s i h]; omega
  have hb := B_bd s (4 * i)
  refine ext_B (size_head _ hz) fun j hj => ?_
  rw [size_head _ hz] at hj
  obtain rfl : j = 0 := by omega
  rw [B_head _ hz, B_ext0 s i h, B_one _ hb.1 hb.2]
theorem mem_trace (t s : ByteArray) (i : Nat) (h : 4 * i + 4 ≤ s.size) (o v : Int) (ho : B s (4 * i) = o) : t ++ (s.extract (4 * i) (4 * i + 4)).extract 0 1 ++ ⟨(Lib.decDigits v.toNat).toArray⟩ = t ++ memT o v := by
  rw [op_str s i h, ho, ByteArray.append_assoc]
  rfl
theorem letP_slot {a : Int} (h : letB a = true) : letP (slO a - 10) = a := by
  have h1 := rgO_val h
  have h2 := slo_val h
  unfold letP
  rw [if_pos (by omega), alpha_at _ (by omega), h2]
  split <;> omega

/-- what one step of both tells -/
structure Both (k : Int) (m : PSt) (a : PSt × Int) (b : St × Bool) : Prop where
  rel : Rel k a.1 b.1
  ended : a.1.ended = !b.2
  on : b.2 = true → a.1.status = m.status ∧ a.2 = b.1.next
  off : b.2 = false → a.1.status = b.1.status
theorem Both.go {k : Int} {m m1 : PSt} {n1 : Int} {s1 : St} (h : Rel k m1 s1) (he : m1.ended = false) (hs : m1.status = m.status) (hn : n1 = s1.next) : Both k m (m1, n1) (s1, true) :=
  ⟨h, he, fun _ => ⟨hs, hn⟩, fun h' => Bool.noConfusion h'⟩
theorem Both.stop {k : Int} {m m1 : PSt} {n1 : Int} {s1 : St} (h : Rel k m1 s1) (he : m1.ended = true) (hs : m1.status = s1.status) : Both k m (m1, n1) (s1, false) :=
  ⟨h, he, fun h' => Bool.noConfusion h', fun _ => hs⟩
/-- a load -/
theorem mem_load {k : Int} (hk : k ≤ 10) {m : PSt} {st : St} (R : Rel k m st) (he : m.ended = false) {i : Nat} {o a b : Int} (ho : o = 108 ∨ o = 76) (ha : regB a k = true) (hb : regB b k = true) (n : Int) (T : ByteArray) (hT : T = st.trace ++ memT o (st.hold b.toNat)) (N : Int) (hN : N = (i : Int) + 1) :
    Both k m (reaP m ⟨o, rgK k a, rgK k b, -1, n, -1, -1⟩, N) (memO { st with next := (i : Int) + 1 } o a b (st.hold b.toNat) T, decide (st.hold b.toNat < 8)) := by
  subst hT
  subst hN
  have hv := R.rd hk hb
  generalize hV : st.hold b.toNat = v at *
  have R1 := (R.sh (memT o v)).next ((i : Int) + 1)
  have hr : reaP m ⟨o, rgK k a, rgK k b, -1, n, -1, -1⟩ = if 8 ≤ v then endP (shP (shP m (memT o v)) ⟨#[33]⟩) 1 else if o = 108 then wrP (shP m (memT o v)) (rgK k a) (m.pub v.toNat) else wrP (shP m (memT o v)) (rgK k a) (m.sec v.toNat) := by
    unfold reaP
    simp only [hv]
    by_cases h8 : 8 ≤ v
    · rw [if_pos h8, if_pos h8]
    · rw [if_neg h8, if_neg h8]
      by_cases h1 : o = 108
      · rw [if_pos h1, if_pos h1]; rfl
      · rw [if_neg h1, if_neg h1, if_pos (by omega)]; rfl
  rw [hr]
  by_cases h8 : 8 ≤ v
  · rw [if_pos h8]
    have hm : memO { st with next := (i : Int) + 1 } o a b v (st.trace ++ memT o v) = { st with next := (i : Int) + 1, trace := st.trace ++ memT o v ++ ⟨#[33]⟩, status := 1 } := by
      unfold memO memS
      rw [if_neg (by omega), if_pos h8]
    rw [hm]
    rw [show decide (v < 8) = false by simp; omega]
    exact Both.stop ((R1.sh ⟨#[33]⟩).endp 1) rfl rfl
  · rw [if_neg h8]
    have hd : decide (v < 8) = true := by simp; omega
    by_cases h1 : o = 108
    · rw [if_pos h1]
      have hm : memO { st with next := (i : Int) + 1 } o a b v (st.trace ++ memT o v) = { st with next := (i : Int) + 1, trace := st.trace ++ memT o v, hold := upd st.hold a.toNat (st.pub v.toNat) } := by
        unfold memO memS
        rw [if_pos (by omega), if_neg h8, if_pos h1]
      rw [hm, R.pub, hd]
      obtain ⟨_, _, _, _, e5, e6⟩ := wrP_rest (shP m (memT o v)) (rgK k a) (st.pub v.toNat)
      exact Both.go (R1.wr hk ha _) (e5.trans he) e6 rfl
    · rw [if_neg h1]
      have hm : memO { st with next := (i : Int) + 1 } o a b v (st.trace ++ memT o v) = { st with next := (i : Int) + 1, trace := st.trace ++ memT o v, hold := upd st.hold a.toNat (st.sec v.toNat) } := by
        unfold memO memS
        rw [if_pos (by omega), if_neg h8, if_neg h1, if_pos (by omega)]
      rw [hm, R.sec, hd]
      obtain ⟨_, _, _, _, e5, e6⟩ := wrP_rest (shP m (memT o v)) (rgK k a) (st.sec v.toNat)
      exact Both.go (R1.wr hk ha _) (e5.trans he) e6 rfl
/-- a store -/
theorem mem_store {k : Int} (hk : k ≤ 10) {m : PSt} {st : St} (R : Rel k m st) (he : m.ended = false) {i : Nat} {o a b : Int} (ho : o = 115 ∨ o = 83) (ha : regB a k = true) (hb : regB b k = true) (n : Int) (T : ByteArray) (hT : T = st.trace ++ memT o (st.hold a.toNat)) (N : Int) (hN : N = (i : Int) + 1) :
    Both k m (reaP m ⟨o, -1, rgK k a, rgK k b, n, -1, -1⟩, N) (memO { st with next := (i : Int) + 1 } o a b (st.hold a.toNat) T, decide (st.hold a.toNat < 8)) := by
  subst hT
  subst hN
  have hv := R.rd hk ha
  have hw := R.rd hk hb
  generalize hV : st.hold a.toNat = v at *
  have R1 := (R.sh (memT o v)).next ((i : Int) + 1)
  have hr : reaP m ⟨o, -1, rgK k a, rgK k b, n, -1, -1⟩ = if 8 ≤ v then endP (shP (shP m (memT o v)) ⟨#[33]⟩) 1 else if o = 115 then { shP m (memT o v) with pub := upd m.pub v.toNat (st.hold b.toNat) } else { shP m (memT o v) with sec := upd m.sec v.toNat (st.hold b.toNat) } := by
    unfold reaP
    simp only [hv]
    have hw' : rdP (shP m (memT o v)) (rgK k b) = st.hold b.toNat := hw
    rw [hw']
    by_cases h8 : 8 ≤ v
    · rw [if_pos h8, if_pos h8]
    · rw [if_neg h8, if_neg h8, if_neg (by omega), if_neg (by omega)]
      by_cases h1 : o = 115
      · rw [if_pos h1, if_pos h1]; rfl
      · rw [if_neg h1, if_neg h1]; rfl
  rw [hr]
  by_cases h8 : 8 ≤ v
  · rw [if_pos h8]
    have hm : memO { st with next := (i : Int) + 1 } o a b v (st.trace ++ memT o v) = { st with next := (i : Int) + 1, trace := st.trace ++ memT o v ++ ⟨#[33]⟩, status := 1 } := by
      unfold memO memS
      rw [if_neg (by omega), if_pos h8]
    rw [hm]
    rw [show decide (v < 8) = false by simp; omega]
    exact Both.stop ((R1.sh ⟨#[33]⟩).endp 1) rfl rfl
  · rw [if_neg h8]
    have hd : decide (v < 8) = true := by simp; omega
    by_cases h1 : o = 115
    · rw [if_pos h1]
      have hm : memO { st with next := (i : Int) + 1 } o a b v (st.trace ++ memT o v) = { st with next := (i : Int) + 1, trace := st.trace ++ memT o v, pub := upd st.pub v.toNat (st.hold b.toNat) } := by
        unfold memO memS
        rw [if_pos (by omega), if_neg h8, if_neg (by omega), if_neg (by omega), if_pos h1]
      rw [hm, R.pub, hd]
      exact Both.go ⟨R1.reg, R1.slt, rfl, R1.sec, R1.trace, R1.value⟩ he rfl rfl
    · rw [if_neg h1]
      have hm : memO { st with next := (i : Int) + 1 } o a b v (st.trace ++ memT o v) = { st with next := (i : Int) + 1, trace := st.trace ++ memT o v, sec := upd st.sec v.toNat (st.hold b.toNat) } := by
        unfold memO memS
        rw [if_pos (by omega), if_neg h8, if_neg (by omega), if_neg (by omega), if_neg h1]
      rw [hm, R.sec, hd]
      exact Both.go ⟨R1.reg, R1.slt, R1.pub, rfl, R1.trace, R1.value⟩ he rfl rfl

theorem step_sim {k : Int} (hk0 : 0 ≤ k) (hk : k ≤ 10) {s : ByteArray} (hp : progB (B s) s.size k = true) {F : Int → Int} (hF : ∀ b : Nat, b < blocksTo (B s) (s.size / 4) → F b = fst (B s) (s.size / 4) b)
    {m : PSt} {st : St} (R : Rel k m st) (he : m.ended = false) {i : Nat} (hi : i < s.size / 4) :
    Both k m (stepP F m i (insK k (B s) i)) (stepU s st i) := by
  have hdok : dokK k (B s) i = true := by
    have := okIns_of_progB hp i hi
    rw [okK_eq _ _ k hk0, Bool.and_eq_true] at this
    exact this.1
  have hf := form_of hk0 hdok
  have G := good_of_progB hp
  have G1 := G.jmp i hi
  have G2 := G.cnd i hi
  have hT := fun (o v : Int) (ho : B s (4 * i) = o) => mem_trace st.trace s i (by omega) o v ho
  generalize insK k (B s) i = I at *
  generalize hO : B s (4 * i) = o at *
  generalize hA : B s (4 * i + 1) = a at *
  generalize hB : B s (4 * i + 2) = b at *
  generalize hD : B s (4 * i + 3) = d at *
  have jF : ∀ x : Int, 48 ≤ x → x - 48 < blocksTo (B s) (s.size / 4) → F (x - 48) = fst (B s) (s.size / 4) (x - 48).toNat := fun x h1 h2 => by
    have := hF (x - 48).toNat (by omega)
    rw [← this]
    congr 1
    omega
  cases hf with
  | ar h ha hb hd =>
    have ho : o = 43 ∨ o = 45 ∨ o = 42 ∨ o = 38 ∨ o = 94 := by simp only [arithB, Bool.or_eq_true, beq_iff_eq] at h; omega
    have e1 : stepP F m i ⟨o, rgK k a, rgK k b, rgK k d, 0, -1, -1⟩ = (wrP m (rgK k a) (cntS o (st.hold b.toNat) (st.hold d.toNat)), (i : Int) + 1) := by
      unfold stepP
      rw [if_neg (show ¬ o = 106 by omega), if_neg (show ¬ o = 63 by omega), if_neg (show ¬ o = 114 by omega), if_neg (show ¬ (o = 108 ∨ o = 76 ∨ o = 115 ∨ o = 83) by omega), if_neg (show ¬ (o = 62 ∨ o = 60 ∨ o = 126) by omega)]
      show (wrP m (rgK k a) (cmpP o (rdP m (rgK k b)) (rdP m (rgK k d)) 0), (i : Int) + 1) = _
      rw [R.rd hk hb, R.rd hk hd]
      unfold cmpP
      rw [if_pos h]
    have e2 : stepU s st i = ({ st with next := i + 1, hold := upd st.hold a.toNat (cntS o (st.hold b.toNat) (st.hold d.toNat)) }, true) := by
      unfold stepU stepT
      rw [hO, hA, hB, hD, if_neg (by omega), if_neg (by omega), if_neg (by omega), if_neg (by omega), if_neg (by omega), if_neg (by omega), if_neg (by omega), if_neg (by omega)]
    rw [e1, e2]
    obtain ⟨_, _, _, _, e5, e6⟩ := wrP_rest m (rgK k a) (cntS o (st.hold b.toNat) (st.hold d.toNat))
    exact Both.go ((R.next ((i : Int) + 1)).wr hk ha _) (e5.trans he) e6 rfl
  | num h ha hb hd =>
    have e1 : stepP F m i ⟨o, rgK k a, -1, -1, 10 * (b - 48) + (d - 48), -1, -1⟩ = (wrP m (rgK k a) (10 * (b - 48) + (d - 48)), (i : Int) + 1) := by
      unfold stepP
      rw [if_neg (show ¬ o = 106 by omega), if_neg (show ¬ o = 63 by omega), if_neg (show ¬ o = 114 by omega), if_neg (show ¬ (o = 108 ∨ o = 76 ∨ o = 115 ∨ o = 83) by omega), if_neg (show ¬ (o = 62 ∨ o = 60 ∨ o = 126) by omega)]
      subst h
      rfl
    have e2 : stepU s st i = ({ st with next := i + 1, hold := upd st.hold a.toNat (10 * (b - 48) + (d - 48)) }, true) := by
      unfold stepU stepT
      rw [hO, hA, hB, hD, if_neg (by omega), if_neg (by omega), if_neg (by omega), if_neg (by omega), if_neg (by omega), if_neg (by omega), if_pos h]
    rw [e1, e2]
    obtain ⟨_, _, _, _, e5, e6⟩ := wrP_rest m (rgK k a) (10 * (b - 48) + (d - 48))
    exact Both.go ((R.next ((i : Int) + 1)).wr hk ha _) (e5.trans he) e6 rfl
  | two h ha hb =>
    by_cases h61 : o = 61
    · have e1 : stepP F m i ⟨o, rgK k a, rgK k b, -1, 0, -1, -1⟩ = (wrP m (rgK k a) (st.hold b.toNat), (i : Int) + 1) := by
        unfold stepP
        rw [if_neg (show ¬ o = 106 by omega), if_neg (show ¬ o = 63 by omega), if_neg (show ¬ o = 114 by omega), if_neg (show ¬ (o = 108 ∨ o = 76 ∨ o = 115 ∨ o = 83) by omega), if_neg (show ¬ (o = 62 ∨ o = 60 ∨ o = 126) by omega)]
        show (wrP m (rgK k a) (cmpP o (rdP m (rgK k b)) (rdP m (-1)) 0), (i : Int) + 1) = _
        rw [R.rd hk hb]
        subst h61
        rfl
      have e2 : stepU s st i = ({ st with next := i + 1, hold := upd st.hold a.toNat (st.hold b.toNat) }, true) := by
        unfold stepU stepT
        rw [hO, hA, hB, hD, if_neg (by omega), if_neg (by omega), if_neg (by omega), if_neg (by omega), if_neg (by omega), if_neg (by omega), if_neg (by omega), if_pos h61]
      rw [e1, e2]
      obtain ⟨_, _, _, _, e5, e6⟩ := wrP_rest m (rgK k a) (st.hold b.toNat)
      exact Both.go ((R.next ((i : Int) + 1)).wr hk ha _) (e5.trans he) e6 rfl
    · have e1 : stepP F m i ⟨o, rgK k a, rgK k b, -1, 0, -1, -1⟩ = (reaP m ⟨o, rgK k a, rgK k b, -1, 0, -1, -1⟩, (i : Int) + 1) := by
        unfold stepP
        rw [if_neg (show ¬ o = 106 by omega), if_neg (show ¬ o = 63 by omega), if_neg (show ¬ o = 114 by omega), if_pos (show (o = 108 ∨ o = 76 ∨ o = 115 ∨ o = 83) by omega)]
      have e2 : stepU s st i = (memO { st with next := (i : Int) + 1 } o a b (st.hold b.toNat) (st.trace ++ memT o (st.hold b.toNat)), decide (st.hold b.toNat < 8)) := by
        unfold stepU stepT
        rw [hO, hA, hB, hD, if_neg (by omega), if_neg (by omega), if_neg (by omega), if_neg (by omega), if_pos (by omega), hT o _ rfl]
      rw [e1, e2]
      exact mem_load hk R he (by omega) ha hb 0 _ rfl _ rfl
  | sto h ha hb =>
    have e1 : stepP F m i ⟨o, -1, rgK k a, rgK k b, 0, -1, -1⟩ = (reaP m ⟨o, -1, rgK k a, rgK k b, 0, -1, -1⟩, (i : Int) + 1) := by
      unfold stepP
      rw [if_neg (show ¬ o = 106 by omega), if_neg (show ¬ o = 63 by omega), if_neg (show ¬ o = 114 by omega), if_pos (show (o = 108 ∨ o = 76 ∨ o = 115 ∨ o = 83) by omega)]
    have e2 : stepU s st i = (memO { st with next := (i : Int) + 1 } o a b (st.hold a.toNat) (st.trace ++ memT o (st.hold a.toNat)), decide (st.hold a.toNat < 8)) := by
      unfold stepU stepT
      rw [hO, hA, hB, hD, if_neg (by omega), if_neg (by omega), if_neg (by omega), if_neg (by omega), if_neg (by omega), if_pos (by omega), hT o _ rfl]
    rw [e1, e2]
    exact mem_store hk R he (by omega) ha hb 0 _ rfl _ rfl
  | jmp h ha =>
    have e1 : stepP F m i ⟨o, -1, -1, -1, 0, a - 48, -1⟩ = (m, F (a - 48)) := by
      unfold stepP
      rw [if_pos (show o = 106 from h)]
    have e2 : stepU s st i = ({ st with next := fst (B s) (s.size / 4) (a - 48).toNat }, true) := by
      unfold stepU stepT
      rw [hO, hA, hB, hD, if_neg (by omega), if_neg (by omega), if_pos h]
    rw [e1, e2]
    exact Both.go (R.next _) he rfl (jF a (G1 h).1 (G1 h).2)
  | cnd h ha hb hd =>
    have hrd := R.rd hk ha
    by_cases hz : st.hold a.toNat ≠ 0
    · have e1 : stepP F m i ⟨o, -1, rgK k a, -1, 0, b - 48, d - 48⟩ = (shP m ⟨#[63, 49]⟩, F (b - 48)) := by
        unfold stepP
        rw [if_neg (show ¬ o = 106 by omega), if_pos (show o = 63 from h)]
        show (if rdP m (rgK k a) ≠ 0 then _ else _) = _
        rw [hrd, if_pos hz]
      have e2 : stepU s st i = ({ st with trace := st.trace ++ ⟨#[63, 49]⟩, next := fst (B s) (s.size / 4) (b - 48).toNat }, true) := by
        unfold stepU stepT
        rw [hO, hA, hB, hD, if_neg (by omega), if_neg (by omega), if_neg (by omega), if_pos h, if_pos hz]
      rw [e1, e2]
      exact Both.go ((R.sh _).next _) he rfl (jF b (G2 h).1.1 (G2 h).1.2)
    · have e1 : stepP F m i ⟨o, -1, rgK k a, -1, 0, b - 48, d - 48⟩ = (shP m ⟨#[63, 48]⟩, F (d - 48)) := by
        unfold stepP
        rw [if_neg (show ¬ o = 106 by omega), if_pos (show o = 63 from h)]
        show (if rdP m (rgK k a) ≠ 0 then _ else _) = _
        rw [hrd, if_neg hz]
      have e2 : stepU s st i = ({ st with trace := st.trace ++ ⟨#[63, 48]⟩, next := fst (B s) (s.size / 4) (d - 48).toNat }, true) := by
        unfold stepU stepT
        rw [hO, hA, hB, hD, if_neg (by omega), if_neg (by omega), if_neg (by omega), if_pos h, if_neg hz]
      rw [e1, e2]
      exact Both.go ((R.sh _).next _) he rfl (jF d (G2 h).2.1 (G2 h).2.2)
  | ret h ha _ =>
    have e1 : stepP F m i ⟨o, -1, rgK k a, -1, 0, -1, -1⟩ = (endP { m with value := st.hold a.toNat } 0, (i : Int) + 1) := by
      unfold stepP
      rw [if_neg (show ¬ o = 106 by omega), if_neg (show ¬ o = 63 by omega), if_pos (show o = 114 from h)]
      show (endP { m with value := rdP m (rgK k a) } 0, (i : Int) + 1) = _
      rw [R.rd hk ha]
    have e2 : stepU s st i = ({ st with next := i + 1, status := 0, value := st.hold a.toNat }, false) := by
      unfold stepU stepT
      rw [hO, hA, hB, hD, if_neg (by omega), if_pos h]
    rw [e1, e2]
    exact Both.stop ⟨R.reg, R.slt, R.pub, R.sec, R.trace, rfl⟩ rfl rfl
  | put h0 h ha hb =>
    have sa := slo_range ha
    have rb := reg_range hk hb
    have e1 : stepP F m i ⟨o, slO a, rgK k b, -1, 0, -1, -1⟩ = (wrP (shP m ⟨#[62, UInt8.ofNat a.toNat]⟩) (slO a) (st.hold b.toNat), (i : Int) + 1) := by
      unfold stepP
      rw [if_neg (show ¬ o = 106 by omega), if_neg (show ¬ o = 63 by omega), if_neg (show ¬ o = 114 by omega), if_neg (show ¬ (o = 108 ∨ o = 76 ∨ o = 115 ∨ o = 83) by omega), if_pos (show (o = 62 ∨ o = 60 ∨ o = 126) by omega)]
      unfold movP
      have q1 : sltP m o (slO a) = shP m ⟨#[62, UInt8.ofNat a.toNat]⟩ := by unfold sltP; rw [if_neg (by omega), letP_slot ha, h]; rfl
      show (wrP (sltP (sltP m o (slO a)) o (rgK k b)) (slO a) (rdP (sltP (sltP m o (slO a)) o (rgK k b)) (rgK k b)), (i : Int) + 1) = _
      have q2 : sltP (sltP m o (slO a)) o (rgK k b) = shP m ⟨#[62, UInt8.ofNat a.toNat]⟩ := by rw [q1]; unfold sltP; rw [if_pos (rb.2.2.1 h0)]
      rw [q2]
      have q3 : rdP (shP m ⟨#[62, UInt8.ofNat a.toNat]⟩) (rgK k b) = st.hold b.toNat := (R.sh _).rd hk hb
      rw [q3]
    have e2 : stepU s st i = ({ st with next := i + 1, hold := upd st.hold a.toNat (st.hold b.toNat), trace := st.trace ++ ⟨#[62, UInt8.ofNat a.toNat]⟩ }, true) := by
      unfold stepU
      rw [hO, hA, hB, if_pos (by omega)]
      unfold frmS
      rw [if_pos h]
    rw [e1, e2]
    obtain ⟨_, _, _, _, e5, e6⟩ := wrP_rest (shP m ⟨#[62, UInt8.ofNat a.toNat]⟩) (slO a) (st.hold b.toNat)
    exact Both.go (((R.next _).sh _).wrS hk h0 ha _) (e5.trans he) e6 rfl
  | get h0 h ha hb =>
    have ra := reg_range hk ha
    have sb := slo_range hb
    have e1 : stepP F m i ⟨o, rgK k a, slO b, -1, 0, -1, -1⟩ = (wrP (shP m ⟨#[60, UInt8.ofNat b.toNat]⟩) (rgK k a) (st.hold b.toNat), (i : Int) + 1) := by
      unfold stepP
      rw [if_neg (show ¬ o = 106 by omega), if_neg (show ¬ o = 63 by omega), if_neg (show ¬ o = 114 by omega), if_neg (show ¬ (o = 108 ∨ o = 76 ∨ o = 115 ∨ o = 83) by omega), if_pos (show (o = 62 ∨ o = 60 ∨ o = 126) by omega)]
      unfold movP
      have q1 : sltP m o (rgK k a) = m := by unfold sltP; rw [if_pos (ra.2.2.1 h0)]
      show (wrP (sltP (sltP m o (rgK k a)) o (slO b)) (rgK k a) (rdP (sltP (sltP m o (rgK k a)) o (slO b)) (slO b)), (i : Int) + 1) = _
      have q2 : sltP (sltP m o (rgK k a)) o (slO b) = shP m ⟨#[60, UInt8.ofNat b.toNat]⟩ := by rw [q1]; unfold sltP; rw [if_neg (by omega), letP_slot hb, h]; rfl
      rw [q2]
      have q3 : rdP (shP m ⟨#[60, UInt8.ofNat b.toNat]⟩) (slO b) = st.hold b.toNat := (R.sh _).rdS h0 hb
      rw [q3]
    have e2 : stepU s st i = ({ st with next := i + 1, hold := upd st.hold a.toNat (st.hold b.toNat), trace := st.trace ++ ⟨#[60, UInt8.ofNat b.toNat]⟩ }, true) := by
      unfold stepU
      rw [hO, hA, hB, if_pos (by omega)]
      unfold frmS
      rw [if_neg (by omega), if_pos h]
    rw [e1, e2]
    obtain ⟨_, _, _, _, e5, e6⟩ := wrP_rest (shP m ⟨#[60, UInt8.ofNat b.toNat]⟩) (rgK k a) (st.hold b.toNat)
    exact Both.go (((R.next _).sh _).wr hk ha _) (e5.trans he) e6 rfl
  | clrS h0 h ha =>
    have sa := slo_range ha
    have e1 : stepP F m i ⟨o, slO a, -1, -1, 0, -1, -1⟩ = (wrP (shP m ⟨#[126, UInt8.ofNat a.toNat]⟩) (slO a) 0, (i : Int) + 1) := by
      unfold stepP
      rw [if_neg (show ¬ o = 106 by omega), if_neg (show ¬ o = 63 by omega), if_neg (show ¬ o = 114 by omega), if_neg (show ¬ (o = 108 ∨ o = 76 ∨ o = 115 ∨ o = 83) by omega), if_pos (show (o = 62 ∨ o = 60 ∨ o = 126) by omega)]
      unfold movP
      have q1 : sltP m o (slO a) = shP m ⟨#[126, UInt8.ofNat a.toNat]⟩ := by unfold sltP; rw [if_neg (by omega), letP_slot ha, h]; rfl
      show (wrP (sltP (sltP m o (slO a)) o (-1)) (slO a) (rdP (sltP (sltP m o (slO a)) o (-1)) (-1)), (i : Int) + 1) = _
      have q2 : sltP (sltP m o (slO a)) o (-1) = shP m ⟨#[126, UInt8.ofNat a.toNat]⟩ := by rw [q1]; unfold sltP; rw [if_pos (by omega)]
      rw [q2]
      rfl
    have e2 : stepU s st i = ({ st with next := i + 1, hold := upd st.hold a.toNat 0, trace := st.trace ++ ⟨#[126, UInt8.ofNat a.toNat]⟩ }, true) := by
      unfold stepU
      rw [hO, hA, hB, if_pos (by omega)]
      unfold frmS
      rw [if_neg (by omega), if_neg (by omega), if_pos ha]
    rw [e1, e2]
    obtain ⟨_, _, _, _, e5, e6⟩ := wrP_rest (shP m ⟨#[126, UInt8.ofNat a.toNat]⟩) (slO a) 0
    exact Both.go (((R.next _).sh _).wrS hk h0 ha _) (e5.trans he) e6 rfl
  | clrR h0 h ha =>
    have ra := reg_range hk ha
    have hl : ¬ letB a = true := fun hl => by
      have h1 := rgO_val hl
      rcases rgK_val ha with ⟨q, _⟩ | ⟨_, q1, q2, q3, q4⟩ <;> omega
    have e1 : stepP F m i ⟨o, rgK k a, -1, -1, 0, -1, -1⟩ = (wrP m (rgK k a) 0, (i : Int) + 1) := by
      unfold stepP
      rw [if_neg (show ¬ o = 106 by omega), if_neg (show ¬ o = 63 by omega), if_neg (show ¬ o = 114 by omega), if_neg (show ¬ (o = 108 ∨ o = 76 ∨ o = 115 ∨ o = 83) by omega), if_pos (show (o = 62 ∨ o = 60 ∨ o = 126) by omega)]
      unfold movP
      show (wrP (sltP (sltP m o (rgK k a)) o (-1)) (rgK k a) (rdP (sltP (sltP m o (rgK k a)) o (-1)) (-1)), (i : Int) + 1) = _
      have q2 : sltP (sltP m o (rgK k a)) o (-1) = m := by unfold sltP; rw [if_pos (by omega), if_pos (ra.2.2.1 h0)]
      rw [q2]
      rfl
    have e2 : stepU s st i = ({ st with next := i + 1, hold := upd st.hold a.toNat 0 }, true) := by
      unfold stepU
      rw [hO, hA, hB, if_pos (by omega)]
      unfold frmS
      rw [if_neg (by omega), if_neg (by omega), if_neg hl]
    rw [e1, e2]
    obtain ⟨_, _, _, _, e5, e6⟩ := wrP_rest m (rgK k a) 0
    exact Both.go ((R.next ((i : Int) + 1)).wr hk ha _) (e5.trans he) e6 rfl

/-- what both runs end with -/
structure Fin (k : Int) (m : PSt) (st : St) : Prop where
  rel : Rel k m st
  status : m.status = st.status
theorem walk_sim {k : Int} (hk0 : 0 ≤ k) (hk : k ≤ 10) {s : ByteArray} (hp : progB (B s) s.size k = true) {F : Int → Int} (hF : ∀ b : Nat, b < blocksTo (B s) (s.size / 4) → F b = fst (B s) (s.size / 4) b)
    (hnx : ∀ st i, i < s.size / 4 → (stepU s st i).2 = true → ∃ j, j < s.size / 4 ∧ (stepU s st i).1.next = (j : Int)) :
    ∀ (f : Nat) (m : PSt) (st : St) (i : Nat), Rel k m st → m.ended = false → m.status = 2 → st.next = i → i < s.size / 4 →
      Fin k (walkP (codeK k (B s) (s.size / 4)) F f m i) (runG (stepU s) f st) := by
  intro f
  induction f with
  | zero => intro m st i R he hs _ _; exact ⟨⟨R.reg, R.slt, R.pub, R.sec, R.trace, R.value⟩, hs⟩
  | succ f ih =>
    intro m st i R he hs hn hi
    have hlen : i < (codeK k (B s) (s.size / 4)).length := by rw [codeK_len]; exact hi
    have hw : walkP (codeK k (B s) (s.size / 4)) F (f + 1) m i = walkP (codeK k (B s) (s.size / 4)) F f (stepP F m i (insK k (B s) i)).1 (stepP F m i (insK k (B s) i)).2 := by
      simp only [walkP]
      rw [he, if_neg (by simp), dif_pos ⟨by omega, by simpa using hlen⟩]
      simp only [Int.toNat_natCast]
      rw [codeK_get k (B s) _ i hlen]
    have hr : runG (stepU s) (f + 1) st = if (stepU s st i).2 = true then runG (stepU s) f (stepU s st i).1 else (stepU s st i).1 := by
      simp only [runG]
      rw [hn]
      rfl
    rw [hw, hr]
    have b := step_sim hk0 hk hp hF R he hi
    cases hb : (stepU s st i).2
    · rw [if_neg (by simp)]
      have h1 := b.ended
      rw [hb] at h1
      have : walkP (codeK k (B s) (s.size / 4)) F f (stepP F m i (insK k (B s) i)).1 (stepP F m i (insK k (B s) i)).2 = (stepP F m i (insK k (B s) i)).1 := by
        cases f with
        | zero => rfl
        | succ f => simp only [walkP]; rw [h1]; rfl
      rw [this]
      exact ⟨b.rel, b.off hb⟩
    · rw [if_pos rfl]
      obtain ⟨o1, o2⟩ := b.on hb
      obtain ⟨j, hj, hjn⟩ := hnx st i hi hb
      rw [o2, hjn]
      refine ih _ _ j b.rel ?_ (o1.trans hs) hjn hj
      rw [b.ended, hb]; rfl
theorem frmS_next (st : St) (o a b : Int) : (frmS st o a b).next = st.next := by
  unfold frmS
  repeat' split
  all_goals rfl
end Go.Proofs.YtccndnckceagfabGreatDoorR.Sp
