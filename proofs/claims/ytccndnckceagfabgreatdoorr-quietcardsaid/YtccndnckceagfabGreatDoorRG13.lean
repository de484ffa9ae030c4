/-
  What the compiler lays, once written, is a machine program that is accepted, and what its runs are: plain mathematics.
  The compiler: what a program begins with, and the whole of it.
-/
import Derived.Test.YtccndnckceagfabGreatDoorRHWrt1
import Derived.Test.YtccndnckceagfabGreatDoorRG12
import Derived.Test.YtccndnckceagfabGreatDoorRHQui1
import Derived.Test.YtccndnckceagfabGreatDoorRHMak3
import Derived.Test.YtccndnckceagfabGreatDoorRHHom3
import Derived.Test.YtccndnckceagfabGreatDoorRHWri2
namespace Go.Proofs.YtccndnckceagfabGreatDoorR.Sp

section
variable {k : Int} {C : List Ins} {L M : List (Nat × Nat)} {H : Int → Int} {lv : Nat → Int → Bool} {nb : Nat}

/-- a place of a machine: a register that is nobody's spare, or a slot -/
def Plc (k p : Int) : Prop := Rg (k - 2) p ∨ (10 ≤ p ∧ p < 62)
theorem mvL_MI (hk : 6 ≤ k ∧ k ≤ 10) {to frm : Int} (h : (Rg k to ∧ Rg k frm) ∨ ((10 ≤ to ∧ to < 62) ∧ Rg k frm) ∨ (Rg k to ∧ (10 ≤ frm ∧ frm < 62))) : ∀ i ∈ mvL to frm, MI k nb i := by
  intro i hi
  unfold mvL at hi
  split at hi
  · cases hi
  · rw [List.mem_singleton] at hi
    subst hi
    unfold Rg at h
    rcases h with ⟨h1, h2⟩ | ⟨h1, h2⟩ | ⟨h1, h2⟩
    · rw [if_neg (by omega), if_neg (by omega)]
      exact MI.two 61 to frm (Or.inl rfl) h1 h2
    · rw [if_pos h1.1]
      exact MI.put to frm h1 h2
    · rw [if_neg (by omega), if_pos h2.1]
      exact MI.get to frm h1 h2
theorem Homes.plc (h : Homes k C L H lv) {r : Int} (hr : 0 ≤ r ∧ r < 52 ∧ H r ≠ -1) : Plc k (H r) := by
  rcases h.home r hr.1 hr.2.1 with e | e | e
  · exact absurd e hr.2.2
  · exact Or.inl e
  · exact Or.inr (by omega)
theorem ftP_rg (h : Homes k C L H lv) {r other : Int} (hr : 0 ≤ r ∧ r < 52 ∧ H r ≠ -1) (ho : Rg k other) : Rg k (ftP H r other) := by
  unfold ftP
  split
  · exact ho
  · have hp := h.plc hr
    unfold Plc Rg at hp
    unfold Rg
    omega
theorem ftL_MI (h : Homes k C L H lv) {r other : Int} (hr : r = -1 ∨ (0 ≤ r ∧ r < 52 ∧ H r ≠ -1)) (ho : Rg k other) : ∀ i ∈ ftL H r other, MI k nb i := by
  intro i hi
  unfold ftL at hi
  split at hi
  · rename_i h10
    rcases hr with e | e
    · rw [e, h.none] at h10
      omega
    · have hp := h.plc e
      unfold Plc Rg at hp
      have hk := h.k6
      exact mvL_MI hk (Or.inr (Or.inr ⟨ho, by omega⟩)) i hi
  · cases hi
theorem rch_rg (hk : 6 ≤ k ∧ k ≤ 10) {p : Int} (hp : Plc k p) : Rg k (rch k p) := by
  unfold rch
  unfold Plc Rg at hp
  unfold Rg
  split <;> omega
theorem brgL_MI (h : Homes k C L H lv) {p r : Int} (hp : Plc k p) (hr : 0 ≤ r ∧ r < 52 ∧ H r ≠ -1) : ∀ i ∈ brgL H k p r, MI k nb i := by
  intro i hi
  unfold brgL at hi
  split at hi
  · cases hi
  · rw [List.mem_append] at hi
    have hk := h.k6
    have hrc := rch_rg hk hp
    rcases hi with hi | hi
    · exact ftL_MI h (Or.inr hr) hrc i hi
    · have hft := ftP_rg h hr hrc
      unfold Plc at hp
      rcases hp with e | e
      · refine mvL_MI hk (Or.inl ⟨?_, hft⟩) i hi
        unfold Rg at e ⊢
        omega
      · exact mvL_MI hk (Or.inr (Or.inl ⟨e, hft⟩)) i hi
theorem clr_MI (h : Homes k C L H lv) : ∀ i ∈ clrR k ++ clrS H, MI k nb i := by
  intro i hi
  have hk := h.k6
  rw [List.mem_append] at hi
  rcases hi with hi | hi
  · unfold clrR at hi
    rw [List.mem_map] at hi
    obtain ⟨p, hp, rfl⟩ := hi
    rw [List.mem_range] at hp
    exact MI.clr _ (Or.inl (by unfold Rg; omega))
  · unfold clrS at hi
    rw [List.mem_map] at hi
    obtain ⟨r, hr, rfl⟩ := hi
    rw [List.mem_filter, List.mem_range, decide_eq_true_eq] at hr
    rcases h.home r (by omega) (by omega) with e | e | e
    · omega
    · omega
    · exact MI.clr _ (Or.inr (by omega))
theorem fol_MI (h : Homes k C L H lv) {s : ByteArray} (hC : Rd 0 s C L) (q : Nat) (hq : q < C.length) : ∀ i ∈ fol H k C[q], MI k L.length i := by
  have hS := fun j (hj : j < C.length) => form_S (hC.form j hj)
  obtain ⟨rd, rx, ry⟩ := h.regs hS q hq
  have hk := h.k6
  have hf := (hS q hq).f
  have hn := (hS q hq).no
  have hform := hC.form q hq
  have htg := hC.tgt q hq
  intro i hi
  unfold fol at hi
  by_cases h61 : C[q].o = 61
  · rw [if_pos h61] at hi
    obtain ⟨fd, fx, _⟩ := hf.two (Or.inl h61)
    unfold Rg at fd fx
    have hd : 0 ≤ C[q].d ∧ C[q].d < 52 ∧ H C[q].d ≠ -1 := by
      rcases rd with e | e
      · omega
      · exact e
    have hx : 0 ≤ C[q].x ∧ C[q].x < 52 ∧ H C[q].x ≠ -1 := by
      rcases rx with e | e
      · omega
      · exact e
    exact brgL_MI h (h.plc hd) hx i hi
  rw [if_neg h61] at hi
  by_cases h114 : C[q].o = 114
  · rw [if_pos h114] at hi
    obtain ⟨_, fx, _⟩ := hf.ret h114
    unfold Rg at fx
    have hx : 0 ≤ C[q].x ∧ C[q].x < 52 ∧ H C[q].x ≠ -1 := by
      rcases rx with e | e
      · omega
      · exact e
    rw [List.mem_append] at hi
    rcases hi with hi | hi
    · unfold endM at hi
      rw [List.mem_append] at hi
      rcases hi with hi | hi
      · exact brgL_MI h (Or.inl (by unfold Rg; omega)) hx i hi
      · exact clr_MI h i hi
    · rw [List.mem_singleton] at hi
      subst hi
      exact MI.ret
  rw [if_neg h114] at hi
  have r1 : Rg k (k - 2) := by unfold Rg; omega
  have r2 : Rg k (k - 1) := by unfold Rg; omega
  unfold wrkL at hi
  rw [List.mem_append, List.mem_append, List.mem_cons] at hi
  rcases hi with (hi | hi) | hi | hi
  · exact ftL_MI h rx r1 i hi
  · exact ftL_MI h ry r2 i hi
  · subst hi
    have H1 : H (-1) = -1 := h.none
    have rcn : rch k (-1) = -1 := by unfold rch; rw [if_neg (by omega)]
    have ftn : ∀ o, ftP H (-1) o = -1 := fun o => by unfold ftP; rw [if_neg (by omega)]; exact H1
    have gd : ∀ d : Int, C[q].d = d → 0 ≤ d → Rg k (rch k (H d)) := fun d e h0 => rch_rg hk (h.plc (by
      rcases rd with e' | e'
      · omega
      · rw [← e]; exact e'))
    have gx : ∀ d : Int, C[q].x = d → 0 ≤ d → Rg k (ftP H d (k - 2)) := fun d e h0 => ftP_rg h (by
      rcases rx with e' | e'
      · omega
      · rw [← e]; exact e') r1
    have gy : ∀ d : Int, C[q].y = d → 0 ≤ d → Rg k (ftP H d (k - 1)) := fun d e h0 => ftP_rg h (by
      rcases ry with e' | e'
      · omega
      · rw [← e]; exact e') r2
    have far := hf.ar
    have fnum := hf.num
    have ftwo := hf.two
    have fsto := hf.sto
    have fcnd := hf.cnd
    generalize C[q] = I at *
    unfold wrkI
    cases hform with
    | ar ho ha hb hd =>
      obtain ⟨a1, a2, a3⟩ := far ho
      exact MI.ar _ _ _ _ ho (gd _ rfl a1.1) (gx _ rfl a2.1) (gy _ rfl a3.1)
    | num ho ha hb hd =>
      obtain ⟨a1, _, _⟩ := fnum ho
      have g := gd _ rfl a1.1
      have e1 := ftn (k - 2)
      have e2 := ftn (k - 1)
      simp only [digB, decide_eq_true_eq] at hb hd
      show MI k L.length ⟨_, _, ftP H (-1) (k - 2), ftP H (-1) (k - 1), _, -1, -1⟩
      rw [e1, e2, ho]
      exact MI.num _ _ g (show 0 ≤ 10 * (B s (4 * q + 2) - 48) + (B s (4 * q + 3) - 48) ∧ 10 * (B s (4 * q + 2) - 48) + (B s (4 * q + 3) - 48) ≤ 99 by omega)
    | two ho ha hb =>
      obtain ⟨a1, a2, _⟩ := ftwo ho
      have g := gd _ rfl a1.1
      have g2 := gx _ rfl a2.1
      have e2 := ftn (k - 1)
      show MI k L.length ⟨_, _, _, ftP H (-1) (k - 1), 0, -1, -1⟩
      rw [e2]
      exact MI.two _ _ _ ho g g2
    | sto ho ha hb =>
      obtain ⟨_, a2, a3⟩ := fsto ho
      have g2 := gx _ rfl a2.1
      have g3 := gy _ rfl a3.1
      show MI k L.length ⟨_, rch k (H (-1)), _, _, 0, -1, -1⟩
      rw [H1, rcn]
      exact MI.sto _ _ _ ho g2 g3
    | jmp ho ha =>
      have e1 := ftn (k - 2)
      have e2 := ftn (k - 1)
      show MI k L.length ⟨_, rch k (H (-1)), ftP H (-1) (k - 2), ftP H (-1) (k - 1), 0, _, -1⟩
      rw [H1, rcn, e1, e2, ho]
      exact MI.jmp _ (htg.1 (Or.inl ho))
    | cnd ho ha hb hd =>
      obtain ⟨_, a2, _⟩ := fcnd ho
      have g2 := gx _ rfl a2.1
      have e2 := ftn (k - 1)
      show MI k L.length ⟨_, rch k (H (-1)), _, ftP H (-1) (k - 1), 0, _, _⟩
      rw [H1, rcn, e2, ho]
      exact MI.cnd _ _ _ g2 (htg.1 (Or.inr ho)) (htg.2 ho)
    | ret ho => exact absurd ho h114
    | put hk' => exact absurd rfl hk'
    | get hk' => exact absurd rfl hk'
    | clrS hk' => exact absurd rfl hk'
    | clrR hk' => exact absurd rfl hk'
  · rcases rd with e | e
    · rw [e, h.none] at hi
      unfold mvL rch at hi
      rw [if_neg (show ¬ (10 : Int) ≤ -1 by omega), if_pos rfl] at hi
      cases hi
    · have hp := h.plc e
      have hr := rch_rg hk hp
      unfold Plc at hp
      rcases hp with e' | e'
      · refine mvL_MI hk (Or.inl ⟨?_, hr⟩) i hi
        unfold Rg at e' ⊢
        omega
      · exact mvL_MI hk (Or.inr (Or.inl ⟨e', hr⟩)) i hi
theorem cmp_MI (h : Homes k C L H lv) {s : ByteArray} (hC : Rd 0 s C L) : ∀ i ∈ cmpL H k (lv 0) C, MI k L.length i := by
  intro i hi
  have hk := h.k6
  have hbeg : ∀ n, n < 4 → ∀ i ∈ begA H (lv 0) n, MI k L.length i := by
    intro n hn i hi
    unfold begA at hi
    split at hi
    · rename_i hl
      have hp := h.plc (h.lvr 0 _ hl)
      unfold Plc at hp
      rcases hp with e | e
      · refine mvL_MI hk (Or.inl ⟨?_, ?_⟩) i hi
        · unfold Rg at e ⊢; omega
        · unfold Rg; omega
      · exact mvL_MI hk (Or.inr (Or.inl ⟨e, by unfold Rg; omega⟩)) i hi
    · cases hi
  unfold cmpL at hi
  rw [List.mem_append] at hi
  rcases hi with hi | hi
  · unfold begL at hi
    rw [List.mem_append, List.mem_append, List.mem_append] at hi
    rcases hi with hi | hi | hi | hi
    · exact hbeg 0 (by omega) i hi
    · exact hbeg 1 (by omega) i hi
    · exact hbeg 2 (by omega) i hi
    · exact hbeg 3 (by omega) i hi
  · rw [List.mem_flatMap] at hi
    obtain ⟨j, hj, hi⟩ := hi
    obtain ⟨q, hq, rfl⟩ := List.getElem_of_mem hj
    exact fol_MI h hC q hq i hi

/-- what is known of a text that was made of a program -/
structure Made (s t : ByteArray) (k : Int) (C : List Ins) (L : List (Nat × Nat)) (H : Int → Int) (lv : Nat → Int → Bool) : Prop where
  prog : progB (B t) t.size k = true
  code : codeK k (B t) (t.size / 4) = cmpL H k (lv 0) C
  size : 0 < t.size ∧ t.size ≤ 4096
  acc : accB C L (codeK k (B t) (t.size / 4)) (blksTo (B t) (t.size / 4)) = true
  mok : MOk H k (lv 0) C L (blksTo (B t) (t.size / 4))
theorem made_of (h : Homes k C L H lv) {s : ByteArray} (hp : progB (B s) s.size 0 = true) (hC : Rd 0 s C L) (hs : s.size ≤ 256) {t : ByteArray} (hsz : t.size = 4 * (cmpL H k (lv 0) C).length) (hb : ∀ j (hj : j < (cmpL H k (lv 0) C).length), Bytes (B t) k j (cmpL H k (lv 0) C)[j]) : Made s t k C L H lv := by
  have hk := h.k6
  have hS := fun j (hj : j < C.length) => form_S (hC.form j hj)
  obtain ⟨s1, s2, s3, s4⟩ := size_of_progB hp
  have hlen := hC.len
  have hc0 := hC.c0
  have hlast : endB C[C.length - 1].o = true := by
    rw [hC.o (C.length - 1) (by omega), hlen]
    exact s4
  obtain ⟨a, ha, h2, h3, _⟩ := end_at h hS (C.length - 1) (by omega) hlast
  rw [show C.length - 1 + 1 = C.length by omega, posL_end] at h2
  have hcnt : cntI endI (cmpL H k (lv 0) C) (cmpL H k (lv 0) C).length = L.length := by
    rw [← posL_end, end_pos h hS, ← hC.bis.len]
  have h1000 := cmp_len h hS (by rw [← hC.bis.len]; exact hC.l10) (by omega)
  have hb1 := prog_back hk hC.l10 (D := cmpL H k (lv 0) C) (by omega) hsz (fun j hj => cmp_MI h hC _ (List.getElem_mem hj)) hb (fun hh => by
    have : (cmpL H k (lv 0) C).length - 1 = a := by omega
    have e : (cmpL H k (lv 0) C)[(cmpL H k (lv 0) C).length - 1] = (cmpL H k (lv 0) C)[a] := by congr 1
    rw [e]
    exact h3) hcnt
  have hrd := rd_of k (by omega) t hb1.1
  have hM := hrd.bis
  rw [hb1.2] at hM
  have hmok := cmp_blocks h hS hC.bis hM
  refine ⟨hb1.1, hb1.2, by omega, ?_, hmok⟩
  rw [hb1.2]
  have hR : RetOk C := by
    intro q hq ho
    have hf := hC.form q hq
    have eo := form_o hf
    rw [eo] at ho
    generalize C[q] = I at *
    cases hf with
    | ar ho' _ _ _ => have := arith_ops ho'; omega
    | num ho' _ _ _ => omega
    | two ho' _ _ => omega
    | sto ho' _ _ => omega
    | jmp ho' _ => omega
    | cnd ho' _ _ _ => omega
    | ret ho' ha hz => exact ⟨rfl, rfl, rfl⟩
    | put hk' => exact absurd rfl hk'
    | get hk' => exact absurd rfl hk'
    | clrS hk' => exact absurd rfl hk'
    | clrR hk' => exact absurd rfl hk'
  have hT : TgtOk C L := by
    intro q hq
    obtain ⟨t1, t2⟩ := hC.tk q hq
    unfold isTgt at t1 t2
    simp only [Bool.or_eq_true, Bool.and_eq_true, beq_iff_eq, decide_eq_true_eq] at t1 t2
    refine ⟨by omega, by omega, fun ho => (hR q hq ho).2⟩
  exact cmp_acc h hS hR hC.bis.blk hT hC.bis.zero hC.l0 hC.l10 hmok
end
end Go.Proofs.YtccndnckceagfabGreatDoorR.Sp

namespace Go.Proofs.YtccndnckceagfabGreatDoorR
/-- what was made ends as the source does, within four times the steps and 80 -/
theorem same_run {s t : ByteArray} {k : Int} {C : List Sp.Ins} {L : List (Nat × Nat)} {H : Int → Int} {lv : Nat → Int → Bool} (h : Sp.Homes k C L H lv) (hC : Sp.Rd 0 s C L) (hm : Sp.Made s t k C L H lv) (I : Sp.Inp) (n : Nat)
    (he : (Sp.walkP C (Sp.strP L) n (argM I 4) 0).ended = true) : Sp.Fin' (Sp.walkP C (Sp.strP L) n (argM I 4) 0) (Sp.walkP (Sp.codeK k (Sp.B t) (t.size / 4)) (Sp.strP (Sp.blksTo (Sp.B t) (t.size / 4))) (4 * n + 80) (argK I 4) 0) := by
  have hk := h.k6
  have hS := fun j (hj : j < C.length) => Sp.form_S (hC.form j hj)
  have hrd := Sp.rd_of k (by omega) t hm.prog
  obtain ⟨hlen, G, ⟨E, g1, g2⟩, hG⟩ := Sp.acc_fam hm.acc hC.l10 hC.kLt
  have hacc := hm.acc
  have hmok := hm.mok
  have hmac : ∀ j (hj : j < (Sp.codeK k (Sp.B t) (t.size / 4)).length), Sp.InsM k (Sp.codeK k (Sp.B t) (t.size / 4))[j] := fun j hj => Sp.form_M (by omega) hk.2 (hrd.form j hj)
  have hbm := hrd.bis.blk
  have hz := hrd.bis.zero
  generalize Sp.blksTo (Sp.B t) (t.size / 4) = M at *
  rw [hm.code] at hmac hbm hG ⊢
  have P := Sp.cmp_play h hS hC.bis.blk hmok hC.bis.zero hmac hbm hC.tgt G hG
  obtain ⟨t', ht, hfin⟩ := Sp.sim_run P hC.l0 E g1 g2 hC.bis.zero hz n _ _ (beg_rel I) he
  obtain ⟨r, hr⟩ : ∃ r, 4 * n + 80 = t' + r := ⟨4 * n + 80 - t', by omega⟩
  rw [hr, Sp.walkP_more _ _ t' r _ _ hfin.en']
  exact hfin
end Go.Proofs.YtccndnckceagfabGreatDoorR

namespace Go.Proofs.YtccndnckceagfabGreatDoorR
open Go.RowKit

/-- what is laid for the first n arguments -/
def begTo (S : Nat → Bool) (H : Int → Int) : Nat → List Sp.Ins
  | 0 => []
  | n + 1 => begTo S H n ++ (if S (Sp.argN n) = true then Sp.mvL (H (Sp.argN n : Nat)) (n : Nat) else [])
theorem begTo_len (S : Nat → Bool) (H : Int → Int) : ∀ n, (begTo S H n).length ≤ n
  | 0 => Nat.le_refl _
  | n + 1 => by
    have := begTo_len S H n
    show (begTo S H n ++ _).length ≤ _
    rw [List.length_append]
    have : (if S (Sp.argN n) = true then Sp.mvL (H (Sp.argN n : Nat)) (n : Nat) else []).length ≤ 1 := by
      split
      · exact mvL_len _ _
      · simp
    omega
theorem begTo_four (R : Nat → Nat → Bool) (H : Int → Int) {n : Nat} (hn : 0 < n) : begTo (R 0) H 4 = Sp.begL H (Sp.lvX R n 0) := by
  have key : ∀ j, j < 4 → (if R 0 (Sp.argN j) = true then Sp.mvL (H (Sp.argN j : Nat)) (j : Nat) else []) = Sp.begA H (Sp.lvX R n 0) j := by
    intro j hj
    unfold Sp.begA
    have e : Sp.argS j = (Sp.argN j : Nat) := by
      unfold Sp.argS Sp.argN
      repeat' split
      all_goals rfl
    have h52 := Sp.argN_lt j
    rw [e]
    have e2 : (Sp.lvX R n 0 (Sp.argN j : Nat) = true) ↔ R 0 (Sp.argN j) = true := by
      rw [Sp.lvX_iff, Int.toNat_natCast]
      constructor
      · exact fun h => h.2.2
      · exact fun h => ⟨hn, by omega, h⟩
    by_cases h : R 0 (Sp.argN j) = true
    · rw [if_pos h, if_pos (e2.2 h)]
    · rw [if_neg h, if_neg (fun x => h (e2.1 x))]
  show [] ++ _ ++ _ ++ _ ++ _ = _
  rw [key 0 (by omega), key 1 (by omega), key 2 (by omega), key 3 (by omega)]
  unfold Sp.begL
  simp only [List.nil_append, List.append_assoc]

set_option maxRecDepth 20000 in
set_option maxHeartbeats 4000000 in
theorem mkBegin_any (B b p nb Bp : Nat) (H : Nat → Int) (k : Int) (D : List Sp.Ins) (v : Value) (C : List Sp.Ins) (L : List (Nat × Nat)) (w : World) (hM : MkV w B b H k D v) (hb : b < B) (hB : B ≤ w.heap.size) (hb0 : b ≠ 0) (hD : D.length ≤ 1900) (hP : ProgAt w Bp p C L) (hA : ArgsAt w) (hnb : L.length = nb) (hC1 : 1 ≤ C.length) (hC : C.length ≤ 1000) (hnb10 : nb ≤ 10) (hnb1 : 1 ≤ nb) (hr : ∀ i, i ∈ C → i.d < 52 ∧ i.x < 52 ∧ i.y < 52) :
    Calls Tryz.prog 30 #[.pointer (some ⟨b, 0, none⟩), .pointer (some ⟨p, 0, none⟩)] w fun e w' => e = .returned (.tuple #[]) ∧ MkP B b H k (D ++ begTo (Sp.rounds C L nb 0) (Sp.HX H) 4) v w w' := by
  obtain ⟨S, hS⟩ : ∃ S, Sp.rounds C L nb 0 = S := ⟨_, rfl⟩
  have HSE := hid hS
  rw [hS]
  have HA := hid hA
  have HM0 := hid hM
  have hvb := hM.2.lt
  have hbl := hM.1.lt
  have hb0' : 0 < w.heap.size := hA.lt
  clear hA hS hM
  have HSA := hid (atBeg_any p nb Bp C L w hP hnb hC1 hC hnb10 hnb1 hr)
  rw [HSE.out] at HSA
  clear hP hnb hC hr
  go_enter Tryz.func30, Tryz.ntmps30
  go_upto_region 2 with (first | (go_at_call 36; refine HSA.out.mono ?_; rintro e w1 ⟨rfl, hb1⟩; have HB1 := hid hb1; clear hb1) | (refine wpList_alloc_set rfl rfl ?_; intro w2 hs2 hb2 hz2; have HS2 := hid hs2; have HB2 := hid hb2; have HZ2 := hid hz2; clear hs2 hb2 hz2) | (refine wpList_store_set rfl (.tmp 4) (.tmp 9) rfl w1.heap.size 0 S _ (by rfl) (by rfl) HS2.out ?_; intro w3 hs3 hs3' ho3; have HS3 := hid hs3; have HO3 := hid ho3; clear hs3 hs3' ho3))
  obtain ⟨m1, hm1⟩ : ∃ m1, w1.heap.size = m1 := ⟨_, rfl⟩
  have hm0 : w.heap.size ≤ m1 := by rw [← hm1]; exact HB1.out.size
  rw [hm1] at HS3 HO3 HB2
  try rw [hm1]
  have HBW := hid ((HB1.out.trans (HB2.out.mono hm0)).trans (HO3.out.below (B := w.heap.size) hm0))
  clear hm1 HB1 HS2 HB2 HZ2 HO3 HSA
  go_wp2_with fail
  go_loopw [5] (fun nv wr => ∃ (n : Nat) (vr : Value), n ≤ 4 ∧ nv = .int .i64 (n : Nat) ∧ MkV wr B b H k (D ++ begTo S (Sp.HX H) n) vr ∧ MF b v vr w wr ∧ SetAt wr m1 0 S ∧ vr.ownBlock ≠ some m1) (fun nv _ => 4 - (intOf nv).toNat)
  case atStart => exact ⟨0, v, by omega, rfl, by rw [show begTo S (Sp.HX H) 0 = [] from rfl, List.append_nil]; exact HM0.out.below HBW.out, MF.of_below HBW.out, HS3.out, fun e => by have := (hvb m1 e).2; omega⟩
  case round =>
    clear HM0 HS3 HBW
    obtain ⟨n, vr, hn, rfl, hm, hf, hs, hv⟩ := hrel
    have HM := hid hm
    have HF := hid hf
    have HS := hid hs
    have HV := hid hv
    have hlen := begTo_len S (Sp.HX H) n
    have hDl : (D ++ begTo S (Sp.HX H) n).length ≤ 2000 := by rw [List.length_append]; omega
    by_cases hlt : n < 4
    · have hcn := (HA.out.of_block (hf.block 0 hb0' (Ne.symm hb0) (fun e => by have := (hvb 0 e).1; omega))).n hlt
      have hr52 := Sp.argN_lt n
      have HPL := hid (place_any' b H (Sp.argN n : Nat) wr hm.1.c)
      have HHS := hid (has_any m1 0 S (Sp.argN n) wr hs hr52)
      have HMV := hid (mkMove_any B b H k (D ++ begTo S (Sp.HX H) n) vr (Sp.HX H (Sp.argN n : Nat)) (n : Nat) wr hm hb (Nat.le_trans hB hf.size) hDl)
      have hsl := hs.lt
      cases hl : S (Sp.argN n)
      · have HE := hid (show begTo S (Sp.HX H) (n + 1) = begTo S (Sp.HX H) n by
          show _ ++ _ = _
          rw [if_neg (by rw [hl]; decide), List.append_nil])
        rw [hl] at HHS
        clear hm hf hs hv hl HMV
        generalize Sp.HX H (Sp.argN n : Nat) = P1 at *
        generalize Sp.argN n = r1 at *
        go_wp2_with (first | (go_at_call 44; refine HPL.out.mono ?_; rintro e w' ⟨rfl, rfl⟩) | (go_at_call 45; refine HHS.out.mono ?_; rintro e w' ⟨rfl, rfl⟩))
        go_roundw
        case rel => exact ⟨n + 1, vr, by omega, by go_num, by rw [HE.out]; exact HM.out, HF.out, HS.out, HV.out⟩
        case measure => simp [intOf]; omega
      · have HE := hid (show D ++ begTo S (Sp.HX H) (n + 1) = D ++ begTo S (Sp.HX H) n ++ Sp.mvL (Sp.HX H (Sp.argN n : Nat)) (n : Nat) by
          rw [List.append_assoc]
          show D ++ (_ ++ _) = _
          rw [if_pos hl])
        rw [hl] at HHS
        clear hm hf hs hv hl
        generalize Sp.HX H (Sp.argN n : Nat) = P1 at *
        generalize Sp.argN n = r1 at *
        go_wp2_with (first | (go_at_call 44; refine HPL.out.mono ?_; rintro e w' ⟨rfl, rfl⟩) | (go_at_call 45; refine HHS.out.mono ?_; rintro e w' ⟨rfl, rfl⟩) | (go_at_call 46; refine HMV.out.mono ?_; rintro e w7 ⟨rfl, v7, hm7, hf7⟩; have HM7 := hid hm7; have HF7 := hid hf7; clear hm7 hf7))
        go_roundw
        case rel =>
          refine ⟨n + 1, v7, by omega, by go_num, by rw [HE.out]; exact HM7.out, HF.out.trans HF7.out, HS.out.of_block (HF7.out.block m1 hsl (by omega) HV.out), fun e => ?_⟩
          rcases HF7.out.own m1 e with e | e
          · exact HV.out e
          · omega
        case measure => simp [intOf]; omega
    · have hn4 : n = 4 := by omega
      have HN := hid (show MkV wr B b H k (D ++ begTo S (Sp.HX H) 4) vr by rw [← hn4]; exact hm)
      clear hm hf hs hv hn4 HM
      go_wp2_with fail
      go_end0
      exact ⟨rfl, vr, HN.out, HF.out⟩
end Go.Proofs.YtccndnckceagfabGreatDoorR
