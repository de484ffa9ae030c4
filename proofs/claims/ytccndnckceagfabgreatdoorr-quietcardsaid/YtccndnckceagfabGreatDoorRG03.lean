/-
  The program's Check: what it answers.
  The program's readSource and Check.
-/
import Derived.Test.YtccndnckceagfabGreatDoorRHFlow2
import Derived.Test.YtccndnckceagfabGreatDoorRHLv
namespace Go.Proofs.YtccndnckceagfabGreatDoorR
open Go.RowKit

namespace Sp
theorem dok_of_progB {c : Nat → Int} {size : Nat} (h : progB c size 0 = true) : ∀ i, i < size / 4 → dokAt c i = true := fun i hi => by
  have := okIns_of_progB h i hi
  rw [okIns_eq, Bool.and_eq_true] at this
  exact this.1
theorem shw_eq {c : Nat → Int} {i : Nat} (h : dokAt c i = true) : showI (insAt c i) = shwAt c i := by
  unfold dokAt dokB at h
  simp only [Bool.and_eq_true, decide_eq_true_eq] at h
  obtain ⟨hz, ⟨h0, h1⟩, h2⟩ := h
  rw [show 4 * i + 0 + 1 = 4 * i + 1 from rfl] at h0
  rw [show 4 * i + 1 + 1 = 4 * i + 2 from rfl] at h1
  rw [show 4 * i + 2 + 1 = 4 * i + 3 from rfl] at h2
  have e : insAt c i = tkI (tkI (tkI ⟨c (4 * i), -1, -1, -1, 0, -1, -1⟩ (B (dshp (c (4 * i))) 0) (c (4 * i + 1))) (B (dshp (c (4 * i))) 1) (c (4 * i + 2))) (B (dshp (c (4 * i))) 2) (c (4 * i + 3)) := rfl
  unfold shwAt
  generalize c (4 * i) = o at *
  generalize c (4 * i + 1) = a at *
  generalize c (4 * i + 2) = b at *
  generalize c (4 * i + 3) = d at *
  have sec : ∀ x : Int, letB x = true → secB (rgO x) = uppB x ∧ (!(secB (rgO x))) = lowB x := fun x hx => by
    simp [letB, lowB, uppB] at hx
    have hr : (rgO x = x - 97 ∧ 97 ≤ x ∧ x ≤ 122) ∨ (rgO x = x - 65 + 26 ∧ 65 ≤ x ∧ x ≤ 90) := by
      simp only [rgO, lowB, uppB, decide_eq_true_eq]
      repeat' split
      all_goals omega
    rcases hr with ⟨hr, h1, h2⟩ | ⟨hr, h1, h2⟩
    · constructor
      · rw [hr, Bool.eq_iff_iff]; simp [secB, uppB]; omega
      · rw [hr, Bool.eq_iff_iff]; simp [secB, lowB]; omega
    · constructor
      · rw [hr, Bool.eq_iff_iff]; simp [secB, uppB]; omega
      · rw [hr, Bool.eq_iff_iff]; simp [secB, lowB]; omega
  have sm : secB (-1) = false := rfl
  by_cases g1 : arithB o = true
  · have s2 : dshp o = ⟨#[100, 120, 121]⟩ := by simp [dshp, g1]
    rw [s2] at h0 h1 h2 e
    have e' : insAt c i = ⟨o, rgO a, rgO b, rgO d, 0, -1, -1⟩ := e
    obtain ⟨_, a2⟩ := sec a (tkB_reg (p := 100) (by omega) h0)
    obtain ⟨b1, _⟩ := sec b (tkB_reg (p := 120) (by omega) h1)
    obtain ⟨d1, _⟩ := sec d (tkB_reg (p := 121) (by omega) h2)
    rw [e']
    simp only [showI, shwB, g1, true_or, if_true, a2, b1, d1]
  rw [Bool.not_eq_true] at g1
  by_cases g2 : o = 35
  · subst g2
    have s2 : dshp 35 = ⟨#[100, 116, 110]⟩ := by simp [dshp, arithB]
    rw [s2] at e
    have e' : insAt c i = ⟨35, rgO a, -1, -1, (0 * 10 + dgO b) * 10 + dgO d, -1, -1⟩ := e
    rw [e']
    simp [showI, shwB, arithB]
  by_cases g3 : o = 61 ∨ o = 108 ∨ o = 76
  · have s2 : dshp o = ⟨#[100, 120, 46]⟩ := by simp [dshp, g1, g2, g3]
    rw [s2] at h0 h1 h2 e
    have e' : insAt c i = ⟨o, rgO a, rgO b, -1, 0, -1, -1⟩ := e
    obtain ⟨_, a2⟩ := sec a (tkB_reg (p := 100) (by omega) h0)
    obtain ⟨b1, _⟩ := sec b (tkB_reg (p := 120) (by omega) h1)
    rw [e']
    rcases g3 with rfl | rfl | rfl <;> simp [showI, shwB, arithB, a2, b1, sm]
  by_cases g4 : o = 115 ∨ o = 83
  · have s2 : dshp o = ⟨#[120, 121, 46]⟩ := by simp [dshp, g1, g2, g3, g4]
    rw [s2] at h0 h1 h2 e
    have e' : insAt c i = ⟨o, -1, rgO a, rgO b, 0, -1, -1⟩ := e
    obtain ⟨a1, _⟩ := sec a (tkB_reg (p := 120) (by omega) h0)
    obtain ⟨b1, _⟩ := sec b (tkB_reg (p := 121) (by omega) h1)
    rw [e']
    rcases g4 with rfl | rfl <;> simp [showI, shwB, arithB, a1, b1]
  by_cases g5 : o = 106
  · subst g5
    have s2 : dshp 106 = ⟨#[107, 46, 46]⟩ := by simp [dshp, arithB]
    rw [s2] at e
    have e' : insAt c i = ⟨106, -1, -1, -1, 0, dgO a, -1⟩ := e
    rw [e']
    simp [showI, shwB, arithB]
  by_cases g6 : o = 63
  · subst g6
    have s2 : dshp 63 = ⟨#[120, 107, 109]⟩ := by simp [dshp, arithB]
    rw [s2] at h0 e
    have e' : insAt c i = ⟨63, -1, rgO a, -1, 0, dgO b, dgO d⟩ := e
    obtain ⟨a1, _⟩ := sec a (tkB_reg (p := 120) (by omega) h0)
    rw [e']
    simp [showI, shwB, arithB, a1]
  by_cases g7 : o = 114
  · subst g7
    have s2 : dshp 114 = ⟨#[120, 46, 46]⟩ := by simp [dshp, arithB]
    rw [s2] at e
    have e' : insAt c i = ⟨114, -1, rgO a, -1, 0, -1, -1⟩ := e
    rw [e']
    simp [showI, shwB, arithB]
  · have s2 : dshp o = ⟨#[]⟩ := by simp [dshp, g1, g2, g3, g4, g5, g6, g7]
    rw [s2] at hz
    cases hz
end Sp

theorem cut_iff (S : Nat → Bool) (x : Nat) (hx : x < 52) : cutTo S 4 x = true ↔ (Sp.argB (Sp.rv x) = false ∧ S x = true) := by
  have ha : Sp.argB (Sp.rv x) = true ↔ (x = 0 ∨ x = 1 ∨ x = 26 ∨ x = 27) := by
    simp only [Sp.argB, Sp.rv, Bool.or_eq_true, beq_iff_eq]
    split <;> omega
  have h3 : argR 3 = 27 := rfl
  have h2 : argR 2 = 26 := rfl
  have h1 : argR 1 = 1 := rfl
  have h0 : argR 0 = 0 := rfl
  simp only [cutTo, h0, h1, h2, h3]
  by_cases e : x = 0 ∨ x = 1 ∨ x = 26 ∨ x = 27
  · have := ha.2 e
    rw [this]
    constructor
    · intro h
      exfalso
      rcases e with rfl | rfl | rfl | rfl <;> simp at h
    · rintro ⟨h, _⟩; cases h
  · have hn : Sp.argB (Sp.rv x) = false := by
      cases h : Sp.argB (Sp.rv x)
      · rfl
      · exact absurd (ha.1 h) e
    rw [hn, if_neg (by omega), if_neg (by omega), if_neg (by omega), if_neg (by omega)]
    simp
theorem unset_iff {c : Nat → Int} {size : Nat} (h : Sp.progB c size 0 = true) :
    (∃ x, x < 52 ∧ cutTo (Sp.rounds (Sp.codeTo c (size / 4)) (Sp.blksTo c (size / 4)) (Sp.blocksTo c (size / 4)) 0) 4 x = true) ↔ Sp.Unset c (size / 4) := by
  obtain ⟨s1, s2, s3, s4⟩ := Sp.size_of_progB h
  have hpos := Sp.blocks_pos c (size / 4) (by omega) s4
  have hi : ∀ i, i < size / 4 → Sp.InsIs c i := fun i hi => Sp.insIs_of (Sp.dok_of_progB h i hi)
  have key : ∀ r, r < 52 → (Sp.rounds (Sp.codeTo c (size / 4)) (Sp.blksTo c (size / 4)) (Sp.blocksTo c (size / 4)) 0 r = true ↔ Sp.Want c (size / 4) (Sp.rv r) 0) := fun r hr => Sp.live_eq h hi (by omega) hr 0 (by omega)
  constructor
  · rintro ⟨x, hx, hc⟩
    obtain ⟨h1, h2⟩ := (cut_iff _ x hx).1 hc
    exact ⟨Sp.rv x, Sp.rv_let x hx, h1, (key x hx).1 h2⟩
  · rintro ⟨v, h1, h2, h3⟩
    obtain ⟨r, hr, rfl⟩ := Sp.let_rv h1
    exact ⟨r, hr, (cut_iff _ r hr).2 ⟨h2, (key r hr).2 h3⟩⟩
end Go.Proofs.YtccndnckceagfabGreatDoorR

namespace Go.Proofs.YtccndnckceagfabGreatDoorR
open Go.RowKit

/-- vC, vB are the slices of the program that the text s is, their rows from B on -/
def SrcAt (w : World) (B : Nat) (s : ByteArray) (vC vB : Value) : Prop :=
  w.ownsRow B 74 7 vC (s.size / 4) (insV (Sp.codeTo (Sp.B s) (s.size / 4))) ∧ w.ownsRow B 117 2 vB (Sp.blocksTo (Sp.B s) (s.size / 4)) (blkV (Sp.blksTo (Sp.B s) (s.size / 4))) ∧ (Sp.blksTo (Sp.B s) (s.size / 4) = [] → vB = .slice none 0 0)
theorem SrcAt.move {w w' : World} {B : Nat} {s : ByteArray} {vC vB : Value} (h : SrcAt w B s vC vB) (hb : Below w.heap.size w w') : SrcAt w' B s vC vB := ⟨own_below h.1 hb, own_below h.2.1 hb, h.2.2⟩
theorem SrcAt.prog {w : World} {B p : Nat} {s : ByteArray} {vC vB : Value} (h : SrcAt w B s vC vB) (hr : w.rowIs p 47 2 (fun j => if j = 0 then vC else vB)) : ProgAt w B p (Sp.codeTo (Sp.B s) (s.size / 4)) (Sp.blksTo (Sp.B s) (s.size / 4)) :=
  ⟨vC, vB, hr, by rw [Sp.codeTo_len]; exact h.1, by rw [Sp.blksTo_len]; exact h.2.1, h.2.2⟩
def SrcPost (s : ByteArray) (w : World) (e : Ending) (w' : World) : Prop :=
  ∃ vC vB f, e = .returned (.tuple #[.agg #[vC, vB], .int .i64 f]) ∧ Sp.FormedR s f ∧ (f = 0 → SrcAt w' w.heap.size s vC vB) ∧ Below w.heap.size w w' ∧ (∃ a n c, vC = .slice a n c) ∧ (∃ a n c, vB = .slice a n c)
theorem srcPost_no {s : ByteArray} {w : World} {e : Ending} {w' : World} (f : Int) (he : e = .returned (.tuple #[.agg #[.slice none 0 0, .slice none 0 0], .int .i64 f])) (h : Sp.FormedR s f) (h0 : f ≠ 0) (hb : Below w.heap.size w w') : SrcPost s w e w' :=
  ⟨_, _, f, he, h, fun h => absurd h h0, hb, ⟨_, _, _, rfl⟩, ⟨_, _, _, rfl⟩⟩

set_option maxHeartbeats 1000000 in
theorem readSource_any (s : ByteArray) (w : World) (_hs : s.size ≤ maxLen) (hA : ArgsAt w) :
    Calls Tryz.prog 14 #[.string s] w fun e w' => SrcPost s w e w' := by
  by_cases h256 : 256 < s.size
  · have h' : (256 : Int) < s.size := by omega
    go_enter Tryz.func14, Tryz.ntmps14
    go_wp2_with fail
    refine bodyPost_ret (v := .tuple #[.agg #[.slice none 0 0, .slice none 0 0], .int .i64 1]) (by simp [results, Tryz.results14, go_sem]) rfl (srcPost_no 1 rfl (Or.inl ⟨h256, rfl⟩) (by omega) ?_)
    exact (Below.refl _ _).alloc (Nat.le_refl _) _
  · have h' : s.size ≤ 256 := by omega
    have HA := hid hA
    clear h256 hA
    go_enter Tryz.func14, Tryz.ntmps14
    go_wp2_with fail
    refine (read_any s _ h').mono ?_
    rintro e w1 ⟨vC, vB, ok, rfl, hok, hsrc, hb1, ⟨aC, nC, cC, rfl⟩, ⟨aB, nB, cB, rfl⟩⟩
    have hb0 := (Below.refl w.heap.size w).alloc (Nat.le_refl _) (.cells #[.slice none 0 0, .slice none 0 0] 47)
    have hsz0 : (w.alloc (.cells #[.slice none 0 0, .slice none 0 0] 47)).heap.size = w.heap.size + 1 := by simp
    rw [hsz0] at hb1
    have r1 := (row_two w (.slice none 0 0) (.slice none 0 0)).of_block (hb1.block _ (by omega))
    have HB1 := hid (hb0.trans (hb1.mono (by omega)))
    have hs1 : w.heap.size + 1 ≤ w1.heap.size := by have := hb1.size; rw [hsz0] at this; exact this
    have d0 := r1.cell (i := 0) (by omega)
    have d1 := r1.cell (i := 1) (by omega)
    have z0 := r1.frozen 0
    have z1 := r1.frozen 1
    have HR1 := hid r1
    have HOK := hid hok
    have HSRC := hid hsrc
    have hlt1 : w.heap.size < w1.heap.size := by omega
    have hne1 : w.heap.size ≠ w1.heap.size := by omega
    clear hok hsrc hb1 hb0 hsz0 r1
    cases ok
    · go_wp2_with fail
      refine bodyPost_ret (v := .tuple #[.agg #[.slice none 0 0, .slice none 0 0], .int .i64 3]) (by simp [results, Tryz.results14, go_sem, d0, d1, hlt1]) rfl (srcPost_no 3 rfl (Or.inr (Or.inl ⟨h', HOK.out.symm, rfl⟩)) (by omega) ?_)
      exact ((HB1.out.setCell (Nat.le_refl _) _).setCell (Nat.le_refl _) _).alloc (by simp [World.setCell]; omega) _
    · have hsrc := HSRC.out rfl
      have hsz0 : (w.alloc (.cells #[.slice none 0 0, .slice none 0 0] 47)).heap.size = w.heap.size + 1 := by simp
      rw [hsz0] at hsrc
      have hS1 : SrcAt w1 (w.heap.size + 1) s (.slice aC nC cC) (.slice aB nB cB) := hsrc
      have HS1 := hid hS1
      have HPB : Hid (Sp.progB (Sp.B s) s.size 0 = true) := hid HOK.out.symm
      clear hsrc hsz0 hS1
      have hbA := (Below.refl w1.heap.size w1).alloc (Nat.le_refl _) (.cells #[.slice aC nC cC, .slice aB nB cB] 47)
      have HBA := hid hbA
      clear hbA
      have hp4 := Sp.size_of_progB HPB.out
      go_wp2_with fail
      refine (mayReadUnset_any w1.heap.size (Sp.blocksTo (Sp.B s) (s.size / 4)) (w.heap.size + 1) (Sp.codeTo (Sp.B s) (s.size / 4)) (Sp.blksTo (Sp.B s) (s.size / 4)) _ ((HS1.out.move HBA.out).prog (row_two w1 _ _)) ((HA.out.move HB1.out).move HBA.out) (Sp.blksTo_len _ _) (by rw [Sp.codeTo_len]; omega) (by rw [Sp.codeTo_len]; omega) hp4.2.2.1 (Sp.blocks_pos _ _ (by omega) hp4.2.2.2) (fun i hi => ?_)).mono ?_
      · obtain ⟨j, hj, rfl⟩ := List.getElem_of_mem hi
        rw [Sp.codeTo_get]
        rw [Sp.codeTo_len] at hj
        exact (Sp.insIs_of (Sp.dok_of_progB HPB.out j hj)).bd
      rintro e w2 ⟨r, rfl, hr, hb2⟩
      rw [unset_iff HPB.out] at hr
      have HRR := hid hr
      have hsz2 : (w1.alloc (.cells #[.slice aC nC cC, .slice aB nB cB] 47)).heap.size = w1.heap.size + 1 := by simp
      rw [hsz2] at hb2
      have HB2 := hid hb2
      have hs2 := hb2.size
      rw [hsz2] at hs2
      have r2 := (HR1.out.alloc (.cells #[.slice aC nC cC, .slice aB nB cB] 47)).of_block (hb2.block _ (by omega))
      have r3 := (row_two w1 (.slice aC nC cC) (.slice aB nB cB)).of_block (hb2.block _ (by omega))
      clear hr hb2 hsz2 d0 d1 z0 z1 HR1
      have d0 := r2.cell (i := 0) (by omega)
      have d1 := r2.cell (i := 1) (by omega)
      have z0 := r2.frozen 0
      have z1 := r2.frozen 1
      have p0 := r3.cell (i := 0) (by omega)
      have p1 := r3.cell (i := 1) (by omega)
      have HBW := hid ((HB1.out.trans (HBA.out.mono HB1.out.size)).trans (HB2.out.mono (by omega)))
      have HS2 := hid ((HS1.out.move HBA.out).move (show Below (w1.alloc (.cells #[.slice aC nC cC, .slice aB nB cB] 47)).heap.size _ w2 by simpa using HB2.out))
      clear r2 r3
      cases r
      · go_wp2_with fail
        refine bodyPost_ret (v := .tuple #[.agg #[.slice aC nC cC, .slice aB nB cB], .int .i64 0]) (by simp [results, Tryz.results14, go_sem, d0, d1]) rfl ⟨_, _, 0, rfl, Or.inr (Or.inr (Or.inr ⟨h', HPB.out, (fun h => by have := HRR.out.2 h; cases this), rfl⟩)), (fun _ => ?_), (HBW.out.setCell (Nat.le_refl _) _).setCell (Nat.le_refl _) _, ⟨_, _, _, rfl⟩, ⟨_, _, _, rfl⟩⟩
        obtain ⟨o1, o2, o3⟩ := HS2.out
        refine ⟨own_base (own_move o1 (fun k hk => ?_)) (Nat.le_succ _), own_base (own_move o2 (fun k hk => ?_)) (Nat.le_succ _), o3⟩
        · have := (o1.lt k hk).1
          rw [set_other (by omega), set_other (by omega)]
        · have := (o2.lt k hk).1
          rw [set_other (by omega), set_other (by omega)]
      · go_wp2_with fail
        refine bodyPost_ret (v := .tuple #[.agg #[.slice none 0 0, .slice none 0 0], .int .i64 4]) (by simp [results, Tryz.results14, go_sem, d0, d1]) rfl (srcPost_no 4 rfl (Or.inr (Or.inr (Or.inl ⟨h', HPB.out, HRR.out.1 (by first | rfl | trivial), rfl⟩))) (by omega) ?_)
        exact (HBW.out.setCell (Nat.le_refl _) _).setCell (Nat.le_refl _) _

/-- what readSafe answers: the slices of a program that keeps its secrets, or none -/
def SafePost (s : ByteArray) (w : World) (e : Ending) (w' : World) : Prop :=
  ∃ (vC vB : Value) (n f : Int), e = .returned (.tuple #[.agg #[vC, vB], .int .i64 f]) ∧ Sp.CheckR s n f ∧ (f = 0 → SrcAt w' w.heap.size s vC vB ∧ Sp.FormedR s 0) ∧ Below w.heap.size w w' ∧ (∃ a c, vC = .slice a n.toNat c ∧ 0 ≤ n) ∧ (∃ a n c, vB = .slice a n c)

set_option maxHeartbeats 1000000 in
theorem readSafe_any (s : ByteArray) (w : World) (hs : s.size ≤ maxLen) (hA : ArgsAt w) :
    Calls Tryz.prog 13 #[.string s] w fun e w' => SafePost s w e w' := by
  have hb0 := (Below.refl w.heap.size w).alloc (Nat.le_refl _) (.cells #[.slice none 0 0, .slice none 0 0] 47)
  have hsz0 : (w.alloc (.cells #[.slice none 0 0, .slice none 0 0] 47)).heap.size = w.heap.size + 1 := by simp
  have HRS := hid (readSource_any s (w.alloc (.cells #[.slice none 0 0, .slice none 0 0] 47)) hs (hA.move hb0))
  go_enter Tryz.func13, Tryz.ntmps13
  go_wp2_with fail
  refine HRS.out.mono ?_
  rintro e w1 ⟨vC, vB, f, rfl, hf, hsrc, hb1, ⟨aC, nC, cC, rfl⟩, ⟨aB, nB, cB, rfl⟩⟩
  rw [hsz0] at hsrc hb1
  have HF := hid hf
  have HSRC := hid hsrc
  have hs1 := hb1.size
  rw [hsz0] at hs1
  have r1 := (row_two w (.slice none 0 0) (.slice none 0 0)).of_block (hb1.block _ (by omega))
  have d0 := r1.cell (i := 0) (by omega)
  have d1 := r1.cell (i := 1) (by omega)
  have z0 := r1.frozen 0
  have z1 := r1.frozen 1
  have HR1 := hid r1
  have HB1 := hid (hb0.trans (hb1.mono (by omega)))
  have hlt1 : w.heap.size < w1.heap.size := by omega
  have hne1 : w.heap.size ≠ w1.heap.size := by omega
  clear hf hsrc hb1 hA hb0 r1 HRS hsz0
  by_cases h0 : f = 0
  · subst h0
    have HS1 := hid (HSRC.out rfl)
    have hbA := (Below.refl w1.heap.size w1).alloc (Nat.le_refl _) (.cells #[.slice aC nC cC, .slice aB nB cB] 47)
    have HBA := hid hbA
    obtain ⟨z256, zp, zu⟩ := HF.out.zero
    have HPB := hid zp
    clear hbA zp zu
    go_wp2_with fail
    refine (mayShow_any (w.heap.size + 1) w1.heap.size (Sp.codeTo (Sp.B s) (s.size / 4)) (Sp.blksTo (Sp.B s) (s.size / 4)) _ ((HS1.out.move HBA.out).prog (row_two w1 _ _)) (by rw [Sp.codeTo_len]; omega)).mono ?_
    rintro e w2 ⟨rfl, hb2⟩
    have hsz2 : (w1.alloc (.cells #[.slice aC nC cC, .slice aB nB cB] 47)).heap.size = w1.heap.size + 1 := by simp
    rw [hsz2] at hb2
    have hs2 := hb2.size
    rw [hsz2] at hs2
    have r2 := (HR1.out.alloc (.cells #[.slice aC nC cC, .slice aB nB cB] 47)).of_block (hb2.block _ (by omega))
    have r3 := (row_two w1 (.slice aC nC cC) (.slice aB nB cB)).of_block (hb2.block _ (by omega))
    clear d0 d1 z0 z1
    have d0 := r2.cell (i := 0) (by omega)
    have d1 := r2.cell (i := 1) (by omega)
    have z0 := r2.frozen 0
    have z1 := r2.frozen 1
    have p0 := r3.cell (i := 0) (by omega)
    have p1 := r3.cell (i := 1) (by omega)
    have HBW := hid ((HB1.out.trans (HBA.out.mono HB1.out.size)).trans (hb2.mono (by omega)))
    have HS2 := hid ((HS1.out.move HBA.out).move (show Below (w1.alloc (.cells #[.slice aC nC cC, .slice aB nB cB] 47)).heap.size _ w2 by simpa using hb2))
    have hnC : nC = s.size / 4 := by
      have h := HS1.out.1
      rcases Joins.ownsRow_forms h with ⟨e, h9⟩ | ⟨g, cap, e⟩
      · cases e; exact h9.symm
      · cases e; rfl
    have HNC := hid hnC
    clear hnC hb2 r2 r3 hsz2
    have hsh : ∀ i, i < s.size / 4 → Sp.showI (Sp.insAt (Sp.B s) i) = Sp.shwAt (Sp.B s) i := fun i hi => Sp.shw_eq (Sp.dok_of_progB HPB.out i hi)
    have HSH := hid hsh
    clear hsh
    cases hany : (Sp.codeTo (Sp.B s) (s.size / 4)).any Sp.showI
    · have HANY := hid hany
      clear hany
      go_wp2_with fail
      refine bodyPost_ret (v := .tuple #[.agg #[.slice aC nC cC, .slice aB nB cB], .int .i64 0]) (by simp [results, Tryz.results13, go_sem, d0, d1]) rfl ⟨_, _, (nC : Int), 0, rfl, Or.inr (Or.inr ⟨HF.out, (fun i hi => ?_), by rw [HNC.out], rfl⟩), (fun _ => ⟨?_, HF.out⟩), (HBW.out.setCell (Nat.le_refl _) _).setCell (Nat.le_refl _) _, ⟨aC, cC, by rw [Int.toNat_natCast], by omega⟩, ⟨_, _, _, rfl⟩⟩
      · rw [← HSH.out i hi]
        have := List.any_eq_false.1 HANY.out (Sp.insAt (Sp.B s) i) (by rw [← Sp.codeTo_get (Sp.B s) (s.size / 4) i (by rw [Sp.codeTo_len]; exact hi)]; exact List.getElem_mem _)
        simpa using this
      · obtain ⟨o1, o2, o3⟩ := HS2.out
        refine ⟨own_base (own_move o1 (fun k hk => ?_)) (Nat.le_succ _), own_base (own_move o2 (fun k hk => ?_)) (Nat.le_succ _), o3⟩
        · have := (o1.lt k hk).1
          rw [set_other (by omega), set_other (by omega)]
        · have := (o2.lt k hk).1
          rw [set_other (by omega), set_other (by omega)]
    · have HANY := hid hany
      clear hany
      go_wp2_with fail
      refine bodyPost_ret (v := .tuple #[.agg #[.slice none 0 0, .slice none 0 0], .int .i64 5]) (by simp [results, Tryz.results13, go_sem, d0, d1]) rfl ⟨_, _, 0, 5, rfl, Or.inr (Or.inl ⟨HF.out, ?_, rfl, rfl⟩), (fun h => absurd h (by decide)), (HBW.out.setCell (Nat.le_refl _) _).setCell (Nat.le_refl _) _, ⟨none, 0, rfl, by omega⟩, ⟨_, _, _, rfl⟩⟩
      obtain ⟨x, hx, hsx⟩ := List.any_eq_true.1 HANY.out
      obtain ⟨j, hj, rfl⟩ := List.getElem_of_mem hx
      rw [Sp.codeTo_get] at hsx
      rw [Sp.codeTo_len] at hj
      exact ⟨j, hj, by rw [← HSH.out j hj]; exact hsx⟩
  · have HN := hid h0
    go_wp2_with fail
    refine bodyPost_ret (v := .tuple #[.agg #[.slice none 0 0, .slice none 0 0], .int .i64 f]) (by simp [results, Tryz.results13, go_sem, d0, d1, hlt1]) rfl ⟨_, _, 0, f, rfl, Or.inl ⟨HN.out, HF.out, rfl⟩, (fun h => absurd h HN.out), ?_, ⟨none, 0, rfl, by omega⟩, ⟨_, _, _, rfl⟩⟩
    exact ((HB1.out.setCell (Nat.le_refl _) _).setCell (Nat.le_refl _) _).alloc (by simp [World.setCell]; omega) _

set_option maxHeartbeats 1000000 in
theorem check_any (s : ByteArray) (w : World) (hs : s.size ≤ maxLen) (hA : ArgsAt w) :
    Calls Tryz.prog 8 #[.string s] w fun e w' => ∃ n f : Int, e = .returned (.tuple #[.int .i64 n, .int .i64 f]) ∧ Sp.CheckR s n f ∧ Below w.heap.size w w' := by
  go_enter Tryz.func8, Tryz.ntmps8
  go_wp2_with fail
  refine (readSafe_any s w hs hA).mono ?_
  rintro e w1 ⟨vC, vB, n, f, rfl, hc, _, hb1, ⟨aC, cC, rfl, hn0⟩, ⟨aB, nB, cB, rfl⟩⟩
  have HC := hid hc
  have HB1 := hid hb1
  have hs1 := hb1.size
  clear hc hb1 hA
  go_wp2_with fail
  go_ret2
  exact ⟨_, _, rfl, by (first | rw [show ((n.toNat : Nat) : Int) = n by omega] | rw [show max n 0 = n by omega]); exact HC.out, HB1.out.alloc hs1 _⟩

end Go.Proofs.YtccndnckceagfabGreatDoorR
