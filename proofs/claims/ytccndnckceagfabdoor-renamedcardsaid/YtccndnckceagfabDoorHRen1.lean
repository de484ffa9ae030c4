/-
  A machine program with its slots turned round in a ring is accepted just where it was: plain mathematics.
-/
import Derived.Test.YtccndnckceagfabDoorHSnd5
namespace Go.Proofs.YtccndnckceagfabDoor.Sp

/-- a place, its slot so many further on -/
def sg (n : Nat) (p : Int) : Int := if 10 ≤ p ∧ p < 62 then 10 + (p - 10 + n) % 52 else p
def tu (n p : Nat) : Nat := if 10 ≤ p ∧ p < 62 then 10 + (p - 10 + (52 - n)) % 52 else p
theorem sg_pl (n : Nat) (p : Int) : isPl (sg n p) = isPl p := by
  unfold sg isPl
  split
  · rename_i h
    have h1 : 0 ≤ (p - 10 + n) % 52 := Int.emod_nonneg _ (by decide)
    have h2 : (p - 10 + n) % 52 < 52 := Int.emod_lt_of_pos _ (by decide)
    rw [show decide (0 ≤ 10 + (p - 10 + n) % 52) = true from decide_eq_true (by omega), show decide (10 + (p - 10 + n) % 52 < 62) = true from decide_eq_true (by omega), show decide (0 ≤ p) = true from decide_eq_true (by omega), show decide (p < 62) = true from decide_eq_true (by omega)]
  · rfl
theorem tu_sg (n : Nat) (hn : n < 52) (p : Int) (hp : isPl p = true) : tu n (sg n p).toNat = p.toNat := by
  simp only [isPl, Bool.and_eq_true, decide_eq_true_eq] at hp
  unfold tu sg
  by_cases h : 10 ≤ p ∧ p < 62
  · rw [if_pos h, if_pos (by omega)]
    omega
  · rw [if_neg h, if_neg (by omega)]
theorem tu_lt (n p : Nat) (hp : p < 62) : tu n p < 62 := by
  unfold tu
  split <;> omega
theorem sg_tu (n : Nat) (hn : n < 52) (p : Nat) (hp : p < 62) : sg n ((tu n p : Nat) : Int) = p := by
  unfold tu sg
  by_cases h : 10 ≤ p ∧ p < 62
  · rw [if_pos h, if_pos (by omega)]
    omega
  · rw [if_neg h, if_neg (by omega)]
theorem sg_inj (n : Nat) (hn : n < 52) {p q : Int} (hp : isPl p = true) (hq : isPl q = true) (h : (sg n p).toNat = (sg n q).toNat) : p.toNat = q.toNat := by
  have h1 := tu_sg n hn p hp
  have h2 := tu_sg n hn q hq
  rw [h, h2] at h1
  exact h1.symm
theorem sg_neg (n : Nat) (p : Int) : (sg n p == -1) = (p == -1) := by
  unfold sg
  split
  · rename_i h
    rw [Bool.eq_iff_iff, beq_iff_eq, beq_iff_eq]
    omega
  · rfl
/-- pairs with the places turned -/
def tr (n : Nat) (E : Nat → Nat) : Nat → Nat := fun p => if p < 62 then E (tu n p) else E p
theorem hasP_tr (n : Nat) (hn : n < 52) (E : Nat → Nat) (v p : Int) : hasP (tr n E) v (sg n p) = hasP E v p := by
  unfold hasP
  rw [sg_pl]
  cases hp : isPl p
  · rfl
  · have h1 : (sg n p).toNat < 62 := by
      have := sg_pl n p
      rw [hp] at this
      simp only [isPl, Bool.and_eq_true, decide_eq_true_eq] at this
      omega
    unfold tr
    rw [if_pos h1, tu_sg n hn p hp]
theorem tr_lose (n : Nat) (E : Nat → Nat) (r : Int) : loseP (tr n E) r = tr n (loseP E r) := by
  funext p
  unfold loseP tr
  split <;> rfl
theorem tr_gain (n : Nat) (hn : n < 52) (E : Nat → Nat) (d x : Int) : gainP (tr n E) d x = tr n (gainP E d x) := by
  funext p
  by_cases hp : p < 62
  · have h1 := hasP_tr n hn E x (tu n p : Nat)
    rw [sg_tu n hn p hp] at h1
    unfold gainP
    rw [h1]
    unfold tr
    rw [if_pos hp, if_pos hp]
  · have f1 : hasP (tr n E) x (p : Int) = false := by
      unfold hasP
      rw [show isPl (p : Int) = false by simp [isPl]; omega]
      rfl
    have f2 : hasP E x (p : Int) = false := by
      unfold hasP
      rw [show isPl (p : Int) = false by simp [isPl]; omega]
      rfl
    unfold gainP
    rw [f1]
    unfold tr
    rw [if_neg hp, if_neg hp]
    simp only [f2]
theorem tr_copyReg (n : Nat) (hn : n < 52) (E : Nat → Nat) (d x : Int) : copyReg (tr n E) d x = tr n (copyReg E d x) := by
  unfold copyReg
  split
  · rfl
  · rw [tr_lose, tr_gain n hn]
theorem tr_set (n : Nat) (hn : n < 52) (E : Nat → Nat) (v p : Int) : setP (tr n E) v (sg n p) = tr n (setP E v p) := by
  unfold setP
  rw [sg_pl]
  cases hp : isPl p
  · rfl
  · rw [if_pos rfl, if_pos rfl]
    funext q
    have h1 : (sg n p).toNat < 62 := by
      have := sg_pl n p
      rw [hp] at this
      simp only [isPl, Bool.and_eq_true, decide_eq_true_eq] at this
      omega
    unfold tr
    by_cases hq : q < 62
    · rw [if_pos hq]
      by_cases e : q = (sg n p).toNat
      · rw [if_pos e, if_pos hq]
        show bitN v = if tu n q = p.toNat then bitN v else E (tu n q)
        rw [if_pos (by rw [e]; exact tu_sg n hn p hp)]
      · rw [if_neg e, if_pos hq]
        show E (tu n q) = if tu n q = p.toNat then bitN v else E (tu n q)
        rw [if_neg]
        intro e'
        apply e
        have h2 := sg_tu n hn q hq
        rw [e'] at h2
        have hp' := hp
        simp only [isPl, Bool.and_eq_true, decide_eq_true_eq] at hp'
        rw [show ((p.toNat : Nat) : Int) = p by omega] at h2
        omega
    · have hp' := hp
      simp only [isPl, Bool.and_eq_true, decide_eq_true_eq] at hp'
      rw [if_neg hq, if_neg (by omega), if_neg hq]
      show E q = if q = p.toNat then bitN v else E q
      rw [if_neg (by omega)]
theorem tr_copyPl (n : Nat) (hn : n < 52) (E : Nat → Nat) (t f : Int) : copyPl (tr n E) (sg n t) (sg n f) = tr n (copyPl E t f) := by
  unfold copyPl
  rw [sg_pl, sg_pl]
  by_cases h : isPl t = true ∧ isPl f = true
  · rw [if_pos h, if_pos h]
    funext q
    have ht := h.1
    have hf := h.2
    have h1 : (sg n t).toNat < 62 := by
      have := sg_pl n t
      rw [ht] at this
      simp only [isPl, Bool.and_eq_true, decide_eq_true_eq] at this
      omega
    have h2 : (sg n f).toNat < 62 := by
      have := sg_pl n f
      rw [hf] at this
      simp only [isPl, Bool.and_eq_true, decide_eq_true_eq] at this
      omega
    unfold tr
    rw [if_pos h2, tu_sg n hn f hf]
    by_cases hq : q < 62
    · rw [if_pos hq]
      by_cases e : q = (sg n t).toNat
      · rw [if_pos e, if_pos hq]
        show E f.toNat = if tu n q = t.toNat then E f.toNat else E (tu n q)
        rw [if_pos (by rw [e]; exact tu_sg n hn t ht)]
      · rw [if_neg e, if_pos hq]
        show E (tu n q) = if tu n q = t.toNat then E f.toNat else E (tu n q)
        rw [if_neg]
        intro e'
        apply e
        have h3 := sg_tu n hn q hq
        rw [e'] at h3
        simp only [isPl, Bool.and_eq_true, decide_eq_true_eq] at ht
        rw [show ((t.toNat : Nat) : Int) = t by omega] at h3
        omega
    · simp only [isPl, Bool.and_eq_true, decide_eq_true_eq] at ht
      rw [if_neg hq, if_neg (by omega), if_neg hq]
      show E q = if q = t.toNat then E f.toNat else E q
      rw [if_neg (by omega)]
  · rw [if_neg h, if_neg h]
/-- an instruction with its slots turned -/
def reI (n : Nat) (i : Ins) : Ins := { i with d := sg n i.d, x := sg n i.x, y := sg n i.y }
theorem tr_move (n : Nat) (hn : n < 52) (E : Nat → Nat) (i : Ins) : moveP (tr n E) (reI n i) = tr n (moveP E i) := by
  unfold moveP
  show (if i.o = 126 then setP (tr n E) 52 (sg n i.d) else copyPl (tr n E) (sg n i.d) (sg n i.x)) = _
  split
  · exact tr_set n hn E 52 i.d
  · exact tr_copyPl n hn E i.d i.x
theorem tr_wrote (n : Nat) (hn : n < 52) (E : Nat → Nat) (j i : Ins) : wroteP (tr n E) j (reI n i) = tr n (wroteP E j i) := by
  unfold wroteP
  split
  · rfl
  · show setP (loseP (tr n E) j.d) j.d (sg n i.d) = _
    rw [tr_lose, tr_set n hn]
theorem tr_mayRd (n : Nat) (hn : n < 52) (E : Nat → Nat) (r p : Int) : mayRd (tr n E) r (sg n p) = mayRd E r p := by
  unfold mayRd
  split
  · exact sg_neg n p
  · exact hasP_tr n hn E r p
theorem tr_cleared (n : Nat) (hn : n < 52) (E : Nat → Nat) : clearedP (tr n E) = clearedP E := by
  unfold clearedP
  rw [Bool.eq_iff_iff, List.all_eq_true, List.all_eq_true]
  constructor
  · intro h p hp
    rw [List.mem_range] at hp
    rw [← hasP_tr n hn]
    have h1 : 1 ≤ sg n ((p : Int) + 1) ∧ sg n ((p : Int) + 1) < 62 := by
      unfold sg
      split <;> omega
    have := h ((sg n ((p : Int) + 1)).toNat - 1) (List.mem_range.2 (by omega))
    rw [show ((((sg n ((p : Int) + 1)).toNat - 1 : Nat) : Int) + 1) = sg n ((p : Int) + 1) by omega] at this
    exact this
  · intro h p hp
    rw [List.mem_range] at hp
    have h1 : 1 ≤ tu n (p + 1) ∧ tu n (p + 1) < 62 := by
      unfold tu
      split <;> omega
    have h2 := sg_tu n hn (p + 1) (by omega)
    have := h (tu n (p + 1) - 1) (List.mem_range.2 (by omega))
    rw [show (((tu n (p + 1) - 1 : Nat) : Int) + 1) = ((tu n (p + 1) : Nat) : Int) by omega, ← hasP_tr n hn, h2] at this
    exact this
theorem tr_follow (n : Nat) (hn : n < 52) (E : Nat → Nat) (j i : Ins) : followP (tr n E) j (reI n i) = followP E j i := by
  unfold followP
  rw [tr_wrote n hn, tr_cleared n hn]
  show (sameOp j (reI n i) && mayRd (tr n E) j.x (sg n i.x) && mayRd (tr n E) j.y (sg n i.y) && _) = _
  rw [tr_mayRd n hn, tr_mayRd n hn]
  rfl
theorem tr_pass (n : Nat) (hn : n < 52) (C : List Ins) : ∀ (g : Nat) (E : Nat → Nat) (q : Nat), passP C g (tr n E) q = (tr n (passP C g E q).1, (passP C g E q).2)
  | 0, E, q => rfl
  | g + 1, E, q => by
    simp only [passP]
    split
    · split
      · rw [tr_copyReg n hn]
        exact tr_pass n hn C g _ _
      · rfl
    · rfl
theorem tr_play (n : Nat) (hn : n < 52) (C D : List Ins) (last : Nat) : ∀ (f : Nat) (E : Nat → Nat) (q a : Nat), playP C (D.map (reI n)) last f (tr n E) q a = (playP C D last f E q a).map (fun r => (tr n r.1, r.2))
  | 0, E, q, a => rfl
  | f + 1, E, q, a => by
    by_cases ha : a ≤ last ∧ a < D.length
    · have ha' : a ≤ last ∧ a < (D.map (reI n)).length := by rw [List.length_map]; exact ha
      simp only [playP]
      rw [dif_pos ha, dif_pos ha']
      simp only [List.getElem_map, tr_pass n hn, tr_follow n hn]
      show (if isMv D[a].o = true then _ else _) = _
      by_cases hm : isMv D[a].o = true
      · rw [if_pos hm, if_pos hm, tr_move n hn]
        exact tr_play n hn C D last f _ _ _
      · rw [if_neg hm, if_neg hm]
        by_cases hq : (passP C C.length E q).2 < C.length
        · rw [dif_pos hq, dif_pos hq]
          by_cases hf : followP (passP C C.length E q).1 C[(passP C C.length E q).2] D[a] = true
          · rw [if_pos hf, if_pos hf, tr_wrote n hn]
            exact tr_play n hn C D last f _ _ _
          · rw [if_neg hf, if_neg hf]
            rfl
        · rw [dif_neg hq, dif_neg hq]
          rfl
    · have ha' : ¬ (a ≤ last ∧ a < (D.map (reI n)).length) := by rw [List.length_map]; exact ha
      simp only [playP]
      rw [dif_neg ha, dif_neg ha']
      rfl
theorem tr_playB (n : Nat) (hn : n < 52) (C : List Ins) (L : List (Nat × Nat)) (D : List Ins) (M : List (Nat × Nat)) (E : Nat → Nat) (b : Nat) : playB C L (D.map (reI n)) M (tr n E) b = (playB C L D M E b).map (tr n) := by
  unfold playB
  split
  · rw [List.length_map, tr_play n hn]
    generalize playP C D _ D.length E _ _ = r
    cases r with
    | none => rfl
    | some r =>
      simp only [Option.map_some, plyEnd]
      split <;> rfl
  · rfl
def trK (n : Nat) (K : Nat → Ent) : Nat → Ent := fun i => ⟨(K i).r, (K i).w, tr n (K i).e⟩
theorem tr_eqP (n : Nat) (hn : n < 52) (E F : Nat → Nat) : eqP (tr n E) (tr n F) = eqP E F := by
  unfold eqP
  rw [Bool.eq_iff_iff, List.all_eq_true, List.all_eq_true]
  constructor
  · intro h p hp
    rw [List.mem_range] at hp
    have h1 : isPl (p : Int) = true := by simp [isPl]; omega
    have h2 := tu_sg n hn (p : Int) h1
    have h3 : (sg n (p : Int)).toNat < 62 := by
      have := sg_pl n (p : Int)
      rw [h1] at this
      simp only [isPl, Bool.and_eq_true, decide_eq_true_eq] at this
      omega
    have := h _ (List.mem_range.2 h3)
    unfold tr at this
    rw [if_pos h3, if_pos h3, h2] at this
    exact this
  · intro h p hp
    rw [List.mem_range] at hp
    unfold tr
    rw [if_pos hp, if_pos hp]
    exact h _ (List.mem_range.2 (tu_lt n p hp))
theorem tr_meet (n : Nat) (E F : Nat → Nat) : meetP (tr n E) (tr n F) = tr n (meetP E F) := by
  funext p
  unfold meetP tr
  split <;> rfl
theorem tr_put (n : Nat) (K : Nat → Ent) (i : Nat) (x : Ent) : putE (trK n K) i ⟨x.r, x.w, tr n x.e⟩ = trK n (putE K i x) := by
  funext j
  show (if j = i then (⟨x.r, x.w, tr n x.e⟩ : Ent) else ⟨(K j).r, (K j).w, tr n (K j).e⟩) = ⟨(if j = i then x else K j).r, (if j = i then x else K j).w, tr n (if j = i then x else K j).e⟩
  by_cases e : j = i
  · rw [if_pos e, if_pos e]
  · rw [if_neg e, if_neg e]
theorem tr_hand (n : Nat) (hn : n < 52) (K : Nat → Ent) (b : Int) (F : Nat → Nat) : handE (trK n K) b (tr n F) = trK n (handE K b F) := by
  unfold handE
  split
  · show (if (K b.toNat).r = true then putE (trK n K) b.toNat ⟨true, (K b.toNat).w || !eqP (meetP (tr n (K b.toNat).e) (tr n F)) (tr n (K b.toNat).e), meetP (tr n (K b.toNat).e) (tr n F)⟩ else putE (trK n K) b.toNat ⟨true, true, tr n F⟩) = _
    split
    · rw [tr_meet, tr_eqP n hn]
      exact tr_put n K b.toNat ⟨true, _, _⟩
    · exact tr_put n K b.toNat ⟨true, true, F⟩
  · rfl
theorem tr_next (n : Nat) (K : Nat → Ent) : nextB (trK n K) = nextB K := rfl
theorem tr_accR (n : Nat) (hn : n < 52) (C : List Ins) (L : List (Nat × Nat)) (D : List Ins) (M : List (Nat × Nat)) : ∀ (f : Nat) (K : Nat → Ent), accR C L (D.map (reI n)) M f (trK n K) = accR C L D M f K
  | 0, _ => rfl
  | f + 1, K => by
    simp only [accR]
    rw [tr_next]
    cases nextB K with
    | none => rfl
    | some i =>
      show (match playK C L (D.map (reI n)) M (trK n K) i with
        | none => false
        | some K' => accR C L (D.map (reI n)) M f K') = (match playK C L D M K i with
        | none => false
        | some K' => accR C L D M f K')
      have e : playK C L (D.map (reI n)) M (trK n K) i = (playK C L D M K i).map (trK n) := by
        unfold playK
        show Option.map _ (playB C L (D.map (reI n)) M (tr n (K i).e) i) = _
        rw [tr_playB n hn]
        cases playB C L D M (K i).e i with
        | none => rfl
        | some F =>
          simp only [Option.map_some]
          congr 1
          have h1 : putE (trK n K) i ⟨(trK n K i).r, false, (trK n K i).e⟩ = trK n (putE K i ⟨(K i).r, false, (K i).e⟩) := tr_put n K i ⟨(K i).r, false, (K i).e⟩
          rw [h1, tr_hand n hn, tr_hand n hn]
      rw [e]
      cases playK C L D M K i with
      | none => rfl
      | some K' => exact tr_accR n hn C L D M f K'
theorem tr_start (n : Nat) : tr n startE = startE := by
  funext p
  unfold tr startE
  split
  · rename_i hp
    unfold tu
    split
    · unfold begR
      congr 1
      rw [if_neg (by omega), if_neg (by omega), if_neg (by omega), if_neg (by omega), if_neg (by omega), if_neg (by omega), if_neg (by omega), if_neg (by omega)]
    · rfl
  · rfl
theorem tr_begT (n : Nat) : trK n begT = begT := by
  have e : begT = putE (fun _ => noEnt) 0 ⟨true, true, startE⟩ := rfl
  rw [e]
  have h := tr_put n (fun _ => noEnt) 0 ⟨true, true, startE⟩
  have hz : trK n (fun _ => noEnt) = fun _ => noEnt := by
    funext i
    unfold trK noEnt
    congr 1
    funext p
    unfold tr
    split <;> rfl
  rw [hz] at h
  rw [← h]
  show putE (fun _ => noEnt) 0 ⟨true, true, tr n startE⟩ = _
  rw [tr_start n]
/-- accepted or not: slots do not matter -/
theorem acc_turned (n : Nat) (hn : n < 52) (C : List Ins) (L : List (Nat × Nat)) (D : List Ins) (M : List (Nat × Nat)) : accB C L (D.map (reI n)) M = accB C L D M := by
  unfold accB
  rw [← tr_begT n, tr_accR n hn, tr_begT n]
end Go.Proofs.YtccndnckceagfabDoor.Sp
