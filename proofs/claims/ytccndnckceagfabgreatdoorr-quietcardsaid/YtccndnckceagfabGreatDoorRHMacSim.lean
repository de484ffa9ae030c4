/-
  What the program tells of a machine program's run is what the document tells: plain mathematics.
-/
import Derived.Test.YtccndnckceagfabGreatDoorRG11
import Derived.Test.YtccndnckceagfabGreatDoorRHRunC
import Derived.Test.YtccndnckceagfabGreatDoorRHLv
namespace Go.Proofs.YtccndnckceagfabGreatDoorR
open Go.RowKit
namespace Sp
/-- between the registers of a machine and its slots nothing is ever written -/
def Gap (k : Int) (m : PSt) : Prop := ∀ j : Nat, k ≤ j → j < 10 → m.pl j = 0
theorem gap_of {k : Int} {m m' : PSt} (h : Gap k m) (e : m'.pl = m.pl) : Gap k m' := fun j h1 h2 => by rw [e]; exact h j h1 h2
theorem gap_wr {k : Int} {m : PSt} (h : Gap k m) (p v : Int) (hp : p < k ∨ 10 ≤ p) : Gap k (wrP m p v) := by
  intro j h1 h2
  unfold wrP
  split
  · show upd m.pl p.toNat v j = 0
    unfold upd
    rw [if_neg (by omega)]
    exact h j h1 h2
  · exact h j h1 h2
theorem slt_pl (m : PSt) (o p : Int) : (sltP m o p).pl = m.pl := by
  unfold sltP
  split <;> rfl
theorem gap_rea {k : Int} {m : PSt} {i : Ins} (h : Gap k m) (hd : i.d < k ∨ 10 ≤ i.d) : Gap k (reaP m i) := by
  unfold reaP
  simp only
  split
  · exact gap_of h rfl
  split
  · exact gap_wr (m := shP m (memT i.o (rdP m i.x))) (gap_of h rfl) _ _ hd
  split
  · exact gap_wr (m := shP m (memT i.o (rdP m i.x))) (gap_of h rfl) _ _ hd
  split
  · exact gap_of h rfl
  · exact gap_of h rfl
theorem gap_step {k : Int} {F : Int → Int} {m : PSt} {a : Int} {i : Ins} (h : Gap k m) (hd : i.d < k ∨ 10 ≤ i.d) : Gap k (stepP F m a i).1 := by
  unfold stepP
  split
  · exact h
  split
  · split
    · exact gap_of h rfl
    · exact gap_of h rfl
  split
  · exact gap_of h rfl
  split
  · exact gap_rea h hd
  split
  · exact gap_wr (gap_of h (by rw [slt_pl, slt_pl])) _ _ hd
  · exact gap_wr h _ _ hd
theorem gap_walk {k : Int} {C : List Ins} {F : Int → Int} (hC : ∀ j (h : j < C.length), C[j].d < k ∨ 10 ≤ C[j].d) : ∀ (f : Nat) (m : PSt) (a : Int), Gap k m → Gap k (walkP C F f m a)
  | 0, _, _, h => h
  | f + 1, m, a, h => by
    simp only [walkP]
    split
    · exact h
    split
    · exact gap_walk hC f _ _ (gap_step h (hC _ _))
    · exact h
theorem form_gap {k : Int} (hk0 : 0 < k) {o a b d : Int} {i : Ins} (h : Form k o a b d i) : i.d < k ∨ 10 ≤ i.d := by
  have rg : ∀ x : Int, regB x k = true → rgK k x < k := fun x hx => by
    rcases rgK_val hx with ⟨h0, _⟩ | ⟨_, h1, h2, h3, h4⟩
    · omega
    · omega
  cases h with
  | ar _ ha => exact Or.inl (rg _ ha)
  | num _ ha => exact Or.inl (rg _ ha)
  | two _ ha => exact Or.inl (rg _ ha)
  | sto => exact Or.inl (by show (-1 : Int) < k; omega)
  | jmp => exact Or.inl (by show (-1 : Int) < k; omega)
  | cnd => exact Or.inl (by show (-1 : Int) < k; omega)
  | ret => exact Or.inl (by show (-1 : Int) < k; omega)
  | put _ _ ha => exact Or.inr (slo_range ha).1
  | get _ _ ha => exact Or.inl (rg _ ha)
  | clrS _ _ ha => exact Or.inr (slo_range ha).1
  | clrR _ _ ha => exact Or.inl (rg _ ha)
theorem code_gap {k : Int} (hk0 : 0 < k) {s : ByteArray} (hp : progB (B s) s.size k = true) (j : Nat) (h : j < (codeK k (B s) (s.size / 4)).length) : (codeK k (B s) (s.size / 4))[j].d < k ∨ 10 ≤ (codeK k (B s) (s.size / 4))[j].d := by
  rw [codeK_get]
  rw [codeK_len] at h
  have hd : dokK k (B s) j = true := by
    have := okIns_of_progB hp j h
    rw [okK_eq _ _ k (by omega), Bool.and_eq_true] at this
    exact this.1
  exact form_gap hk0 (form_of (by omega) hd)
/-- a run's end, the document's: registers and slots told -/
def fillM (k : Int) (st : St) : St := { st with regs := fun j => if (j : Int) < k then st.hold (48 + j) else 0, slots := fun j => st.hold (B alpha j).toNat }
theorem reg_dig {k : Int} (hk : 0 < k) (hk10 : k ≤ 10) (j : Nat) (hj : (j : Int) < k) : regB (48 + (j : Int)) k = true ∧ rgK k (48 + (j : Int)) = j := by
  have h : regB (48 + (j : Int)) k = true := by
    unfold regB digB
    rw [if_neg (by omega)]
    simp only [Bool.and_eq_true, decide_eq_true_eq]
    omega
  refine ⟨h, ?_⟩
  rcases rgK_val h with ⟨h0, _⟩ | ⟨_, h1, h2, h3, h4⟩
  · omega
  · omega
theorem alpha_let (j : Nat) (h : j < 52) : letB (B alpha j) = true ∧ slO (B alpha j) = 10 + j := by
  have e := alpha_at j h
  have hl : letB (B alpha j) = true := by
    rw [e]
    unfold letB lowB uppB
    split <;> simp <;> omega
  refine ⟨hl, ?_⟩
  rw [slo_val hl]
  have := rgO_val hl
  rw [e] at this ⊢
  split at this <;> rename_i c
  · rw [if_pos c]; omega
  · rw [if_neg c]; omega
end Sp
theorem outL_congr' {a b : Sp.St} (h1 : a.status = b.status) (h2 : a.value = b.value) (h3 : a.pub = b.pub) (h4 : a.sec = b.sec) (h5 : a.trace = b.trace) (h6 : ∀ j, j < 10 → a.regs j = b.regs j) (h7 : ∀ j, j < 52 → a.slots j = b.slots j) : outL a = outL b := by
  unfold outL
  refine List.map_congr_left fun j hj => ?_
  have hj' := List.mem_range.1 hj
  unfold outV stF
  rw [h1, h2, h3, h4, h5]
  rw [if_neg (show ¬ 130 + j = 0 by omega), if_neg (show ¬ 130 + j = 0 by omega), if_neg (show ¬ 130 + j ≤ 128 by omega), if_neg (show ¬ 130 + j ≤ 128 by omega), if_neg (show ¬ 130 + j = 129 by omega), if_neg (show ¬ 130 + j = 129 by omega)]
  repeat' split
  all_goals first | rfl | (rw [h6 _ (by omega)]) | (rw [h7 _ (by omega)])
/-- what the program tells of a machine's end -/
def outM (m : Sp.PSt) : Sp.St := { outSt m with regs := fun j => m.pl j, slots := fun j => m.pl (10 + j) }
/-- the state when j arguments of a machine are laid -/
def argK (I : Sp.Inp) : Nat → Sp.PSt
  | 0 => bg I
  | j + 1 => Sp.wrP (argK I j) j (I.args j)
theorem argK_trace (I : Sp.Inp) (j : Nat) : (argK I j).trace = ⟨#[]⟩ := by
  induction j with
  | zero => rfl
  | succ j ih => simp only [argK]; rw [wrP_trace, ih]
theorem argK_ok (I : Sp.Inp) (h : (∀ k, 0 ≤ I.args k ∧ I.args k ≤ 65535) ∧ (∀ k, 0 ≤ I.pub k ∧ I.pub k ≤ 65535) ∧ ∀ k, 0 ≤ I.sec k ∧ I.sec k ≤ 65535) (j : Nat) : (argK I j).ok 1000 := by
  induction j with
  | zero => exact ⟨fun _ => ⟨Int.le_refl _, by show (0 : Int) ≤ 65535; omega⟩, h.2.1, h.2.2, by show 0 ≤ 1000; omega⟩
  | succ j ih => exact Sp.wrP_ok ih _ (h.1 j)
theorem argK_flags (I : Sp.Inp) (j : Nat) : (argK I j).ended = false ∧ (argK I j).status = 2 := by
  induction j with
  | zero => exact ⟨rfl, rfl⟩
  | succ j ih =>
    obtain ⟨_, _, _, _, e5, e6⟩ := Sp.wrP_rest (argK I j) (j : Int) (I.args j)
    exact ⟨e5.trans ih.1, e6.trans ih.2⟩
theorem argK_gap {k : Int} (hk : 4 ≤ k) (I : Sp.Inp) (j : Nat) (hj : j ≤ 4) : Sp.Gap k (argK I j) := by
  induction j with
  | zero => exact fun _ _ _ => rfl
  | succ j ih => exact Sp.gap_wr (ih (by omega)) _ _ (Or.inl (by omega))
theorem rel_bgM (k : Int) (I : Sp.Inp) (p : Nat → Nat) : Sp.Rel k (bg I) (Sp.start p I 0) := ⟨fun _ _ => rfl, fun _ _ _ => rfl, rfl, rfl, rfl, rfl⟩
theorem rel_startM {k : Int} (hk : 4 ≤ k) (hk10 : k ≤ 10) (I : Sp.Inp) (j : Nat) (hj : j ≤ 4) : Sp.Rel k (argK I j) (Sp.start Sp.pM I j) := by
  induction j with
  | zero => exact rel_bgM k I _
  | succ j ih =>
    obtain ⟨h1, h2⟩ := Sp.reg_dig (k := k) (by omega) hk10 j (by omega)
    have h := (ih (by omega)).wr hk10 h1 (I.args j)
    rw [h2, show (48 + (j : Int)).toNat = 48 + j from by omega] at h
    exact h
theorem mrun_eq {s : ByteArray} {I : Sp.Inp} {F : Nat} {k : Int} (hk : 4 ≤ k) (hk10 : k ≤ 10) (hp : Sp.progB (Sp.B s) s.size k = true) :
    outL (outM (Sp.walkP (Sp.codeK k (Sp.B s) (s.size / 4)) (Sp.strP (Sp.blksTo (Sp.B s) (s.size / 4))) F (argK I 4) 0)) = outL (Sp.fillM k (Sp.runG (Sp.stepU s) F (Sp.start Sp.pM I 4))) := by
  have hz := Sp.size_of_progB hp
  have fl := argK_flags I 4
  have fin := Sp.walk_sim (by omega) hk10 hp (fun b hb => Sp.str_fst _ _ b hb) (fun st i hi hb => Sp.stepU_next hp hi hb) F (argK I 4) (Sp.start Sp.pM I 4) 0 (rel_startM hk hk10 I 4 (by omega)) fl.1 fl.2 rfl (by omega)
  have gap := Sp.gap_walk (F := Sp.strP (Sp.blksTo (Sp.B s) (s.size / 4))) (Sp.code_gap (by omega) hp) F (argK I 4) 0 (argK_gap hk I 4 (by omega))
  refine outL_congr' fin.status fin.rel.value fin.rel.pub fin.rel.sec fin.rel.trace (fun j hj => ?_) (fun j hj => ?_)
  · show (Sp.walkP _ _ F (argK I 4) 0).pl j = if (j : Int) < k then _ else 0
    by_cases hlt : (j : Int) < k
    · rw [if_pos hlt]
      obtain ⟨h1, h2⟩ := Sp.reg_dig (k := k) (by omega) hk10 j hlt
      have := fin.rel.reg _ h1
      rw [h2, Int.toNat_natCast, show (48 + (j : Int)).toNat = 48 + j from by omega] at this
      exact this
    · rw [if_neg hlt]
      exact gap j (by omega) hj
  · show (Sp.walkP _ _ F (argK I 4) 0).pl (10 + j) = _
    obtain ⟨h1, h2⟩ := Sp.alpha_let j hj
    have := fin.rel.slt (by omega) _ h1
    rw [h2, show (10 + (j : Int)).toNat = 10 + j from by omega] at this
    exact this
end Go.Proofs.YtccndnckceagfabGreatDoorR
