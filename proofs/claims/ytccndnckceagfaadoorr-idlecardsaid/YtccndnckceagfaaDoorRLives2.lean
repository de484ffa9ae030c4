/-
  Live: the document's and the program's; the statement on Live, walked.
-/
import Derived.Test.YtccndnckceagfaaDoorRLives1
namespace Go.Proofs.YtccndnckceagfaaDoorR
open Go.RowKit
namespace Sp
/-- whether a register is live ahead of instruction i, as the document says -/
noncomputable def wantB (c : Nat → Int) (n : Nat) (v : Int) (i : Nat) : Bool := @decide (Want c n v i) (Classical.propDecidable _)
theorem wantB_iff (c : Nat → Int) (n : Nat) (v : Int) (i : Nat) : wantB c n v i = true ↔ Want c n v i := by simp [wantB]
theorem wantB_eq {c : Nat → Int} {n : Nat} {v : Int} {i : Nat} {b : Bool} (h : b = true ↔ Want c n v i) : wantB c n v i = b := by
  rw [Bool.eq_iff_iff, wantB_iff]
  exact h.symm
/-- the letters of the registers that are live ahead of instruction i -/
noncomputable def liveT (s : ByteArray) (i : Nat) : ByteArray := letT (fun k => wantB (B s) (s.size / 4) (reg k) i) 52
def LiveR (s : ByteArray) (i : Int) (t : ByteArray) (e : Int) : Prop :=
  (e ≠ 0 ∧ FormedR s e ∧ t = ⟨#[]⟩) ∨ (FormedR s 0 ∧ ¬ (0 ≤ i ∧ i < (s.size / 4 : Nat)) ∧ e = 2 ∧ t = ⟨#[]⟩) ∨ (FormedR s 0 ∧ (0 ≤ i ∧ i < (s.size / 4 : Nat)) ∧ e = 0 ∧ t = liveT s i.toNat)
theorem LiveR.det {s : ByteArray} {i : Int} {t t' : ByteArray} {e e' : Int} (h : LiveR s i t e) (k : LiveR s i t' e') : t = t' ∧ e = e' := by
  rcases h with ⟨a, b, c⟩ | ⟨a, b, c, d⟩ | ⟨a, b, c, d⟩ <;> rcases k with ⟨a', b', c'⟩ | ⟨a', b', c', d'⟩ | ⟨a', b', c', d'⟩
  · exact ⟨c.trans c'.symm, b.eq b'⟩
  · exact absurd (b.eq a') a
  · exact absurd (b.eq a') a
  · exact absurd (b'.eq a) a'
  · exact ⟨d.trans d'.symm, c.trans c'.symm⟩
  · exact absurd b' b
  · exact absurd (b'.eq a) a'
  · exact absurd b b'
  · exact ⟨d.trans d'.symm, c.trans c'.symm⟩
end Sp
theorem regs_cut (k : Nat) (hk : k < 52) : (⟨#[65, 66, 67, 68, 69, 70, 71, 72, 73, 74, 75, 76, 77, 78, 79, 80, 81, 82, 83, 84, 85, 86, 87, 88, 89, 90, 97, 98, 99, 100, 101, 102, 103, 104, 105, 106, 107, 108, 109, 110, 111, 112, 113, 114, 115, 116, 117, 118, 119, 120, 121, 122]⟩ : ByteArray).extract k (k + 1) = ⟨#[UInt8.ofNat (Sp.reg k).toNat]⟩ := by
  have : ∀ i : Fin 52, (⟨#[65, 66, 67, 68, 69, 70, 71, 72, 73, 74, 75, 76, 77, 78, 79, 80, 81, 82, 83, 84, 85, 86, 87, 88, 89, 90, 97, 98, 99, 100, 101, 102, 103, 104, 105, 106, 107, 108, 109, 110, 111, 112, 113, 114, 115, 116, 117, 118, 119, 120, 121, 122]⟩ : ByteArray).extract i.val (i.val + 1) = ⟨#[UInt8.ofNat (Sp.reg i.val).toNat]⟩ := by decide +kernel
  exact this ⟨k, hk⟩

set_option maxRecDepth 20000 in
set_option maxHeartbeats 2000000 in
theorem live_any (s : ByteArray) (i : Nat) (w : World) (hs : s.size ≤ 4096) (G : Sp.Good (Sp.B s) (s.size / 4)) (hi : i < s.size / 4) :
    Calls Tryd.prog 54 #[.string s, .int .i64 i] w fun e w' => e = .returned (.string (Sp.liveT s i)) ∧ Below w.heap.size w w' := by
  obtain ⟨T, hT⟩ : ∃ T : Nat → Bool, (fun k => Sp.wantB (Sp.B s) (s.size / 4) (Sp.reg k) i) = T := ⟨_, rfl⟩
  have HTT := hid (show ∀ k, T k = Sp.wantB (Sp.B s) (s.size / 4) (Sp.reg k) i from fun k => by rw [← hT])
  rw [show Sp.liveT s i = Sp.letT T 52 from by rw [← hT]; rfl]
  clear hT
  go_enter Tryd.func54, Tryd.ntmps54
  go_wp2_with fail
  go_loopw [5, 6] (fun tv kv wr => ∃ k : Nat, k ≤ 52 ∧ kv = .int .i64 k ∧ tv = .string (Sp.letT T k) ∧ Below w.heap.size w wr) (fun _ kv _ => 52 - (intOf kv).toNat)
  case atStart => exact ⟨0, by omega, rfl, rfl, Below.refl _ _⟩
  case round =>
    obtain ⟨k, hk, rfl, rfl, hb⟩ := hrel
    have HB := hid hb
    have hsz := Sp.letT_size T k
    clear hb
    by_cases hlt : k < 52
    · have hix := regs_index k hlt
      have HCUT := hid (regs_cut k hlt)
      have HTK := hid (HTT.out k)
      have HYES := hid (fun h => Sp.letT_yes (S := T) (n := k) h)
      have HNO := hid (fun h => Sp.letT_no (S := T) (n := k) h)
      generalize Sp.reg k = v at *
      go_wp2_with fail
      refine (wanted_any s i v _ hs G hi).mono ?_
      rintro e w1 ⟨b, rfl, hb, hbel⟩
      have HB1 := hid (HB.out.trans (hbel.mono HB.out.size))
      have HTB := hid (show T k = b from HTK.out.trans (Sp.wantB_eq hb))
      clear hb hbel
      cases b
      · go_wp2_with fail
        go_roundw
        case rel => exact ⟨k + 1, by omega, by go_num, by rw [HNO.out HTB.out], HB1.out⟩
        case measure => simp [intOf]; omega
      · go_wp2_with fail
        go_roundw
        case rel => exact ⟨k + 1, by omega, by go_num, by rw [HYES.out HTB.out, ← HCUT.out], HB1.out⟩
        case measure => simp [intOf]; omega
    · have HK := hid (show k = 52 by omega)
      go_wp2_with fail
      go_ret
      exact ⟨ret_str (by rw [HK.out]), HB.out⟩

def LivePost (s : ByteArray) (i : Int) (w : World) (e : Ending) (w' : World) : Prop :=
  ∃ t f, e = .returned (.tuple #[.string t, .int .i64 f]) ∧ Sp.LiveR s i t f ∧ Below w.heap.size w w'

set_option maxRecDepth 20000 in
set_option maxHeartbeats 2000000 in
theorem refLive_any (s : ByteArray) (i : Int) (w : World) (hs : s.size ≤ maxLen) :
    Calls Tryd.prog 27 #[.string s, .int .i64 i] w fun e w' => LivePost s i w e w' := by
  go_enter Tryd.func27, Tryd.ntmps27
  go_wp2_with fail
  refine (formed_any s _ hs).mono ?_
  rintro e w2 ⟨f, rfl, hf, hb2⟩
  have HF := hid hf
  have HB2 := hid hb2
  clear hf hb2
  by_cases h0 : f = 0
  · subst h0
    obtain ⟨z256, zp, _⟩ := HF.out.zero
    have HG := hid (Sp.good_of_progB zp)
    clear zp
    have hct := fun w => count_any s w hs
    by_cases hin : 0 ≤ i ∧ i < (s.size / 4 : Nat)
    · obtain ⟨h1, h2⟩ := hin
      obtain ⟨j, rfl⟩ := Int.eq_ofNat_of_zero_le h1
      have hj : j < s.size / 4 := by omega
      have HLV := hid (fun w => live_any s j w (by omega) HG.out hj)
      go_wp2_with (first | (go_at_call 33; refine (hct _).mono ?_; rintro e w' ⟨rfl, rfl⟩) | (go_at_call 54; refine (HLV.out _).mono ?_; rintro e w4 ⟨rfl, hb4⟩; have HB4 := hid hb4; clear hb4))
      go_ret2
      exact ⟨_, 0, rfl, Or.inr (Or.inr ⟨HF.out, ⟨h1, h2⟩, rfl, by rw [Int.toNat_natCast]⟩), HB2.out.trans (HB4.out.mono HB2.out.size)⟩
    · by_cases h1 : i < 0
      · go_wp2_with (go_at_call 33; refine (hct _).mono ?_; rintro e w' ⟨rfl, rfl⟩)
        go_ret2
        exact ⟨_, 2, rfl, Or.inr (Or.inl ⟨HF.out, by omega, rfl, rfl⟩), HB2.out⟩
      · have h2 : ((s.size / 4 : Nat) : Int) ≤ i := by omega
        go_wp2_with (go_at_call 33; refine (hct _).mono ?_; rintro e w' ⟨rfl, rfl⟩)
        go_ret2
        exact ⟨_, 2, rfl, Or.inr (Or.inl ⟨HF.out, by omega, rfl, rfl⟩), HB2.out⟩
  · have HF0 := hid h0
    go_wp2_with fail
    go_ret2
    exact ⟨_, f, rfl, Or.inl ⟨HF0.out, HF.out, rfl⟩, HB2.out⟩

set_option maxRecDepth 20000 in
set_option maxHeartbeats 2000000 in
theorem plive_any (s : ByteArray) (i : Int) (w : World) (hs : s.size ≤ maxLen) (hA : ArgsAt w) :
    Calls Tryd.prog 26 #[.string s, .int .i64 i] w fun e w' => LivePost s i w e w' := by
  have HRS := hid (readSource_any s w hs hA)
  clear hA
  go_enter Tryd.func26, Tryd.ntmps26
  go_wp2_with fail
  refine HRS.out.mono ?_
  rintro e w2 ⟨vC, vB, f, rfl, hf, hsrc, hb2, ⟨aC, nC, cC, rfl⟩, ⟨aB, nB, cB, rfl⟩⟩
  have HF := hid hf
  have HSRC := hid hsrc
  have HB2 := hid hb2
  have hsz2 := hb2.size
  clear hf hsrc hb2 HRS
  have HB3 := hid (show Below w2.heap.size w2 (w2.alloc (.cells #[.slice aC nC cC, .slice aB nB cB] 58)) from (Below.refl _ _).alloc (Nat.le_refl _) _)
  have HBW3 := hid (HB2.out.trans (HB3.out.mono hsz2))
  have HRP := hid (row_two w2 (.slice aC nC cC) (.slice aB nB cB))
  by_cases h0 : f = 0
  · subst h0
    obtain ⟨z256, zp, _⟩ := HF.out.zero
    have hp4 := Sp.size_of_progB zp
    have HZP := hid zp
    have HLA : Hid (Calls Tryd.prog 52 #[.pointer (some ⟨w2.heap.size, 0, none⟩)] (w2.alloc (.cells #[.slice aC nC cC, .slice aB nB cB] 58)) fun e w' => e = .returned (.slice (some ⟨w2.heap.size + 1, 0, none⟩) (s.size / 4) (s.size / 4)) ∧ (∀ k, k < s.size / 4 → SetAt w' (w2.heap.size + 1) (k * 52) (Sp.rounds (Sp.codeTo (Sp.B s) (s.size / 4)) (Sp.blksTo (Sp.B s) (s.size / 4)) (Sp.blocksTo (Sp.B s) (s.size / 4)) k)) ∧ Below (w2.heap.size + 1) (w2.alloc (.cells #[.slice aC nC cC, .slice aB nB cB] 58)) w') := by
      have h := liveAheads_any w2.heap.size (Sp.blocksTo (Sp.B s) (s.size / 4)) w.heap.size (Sp.codeTo (Sp.B s) (s.size / 4)) (Sp.blksTo (Sp.B s) (s.size / 4)) _ (((HSRC.out rfl).move HB3.out).prog HRP.out) (Sp.blksTo_len _ _) (by rw [Sp.codeTo_len]; omega) (by rw [Sp.codeTo_len]; omega) hp4.2.2.1 (Sp.blocks_pos _ _ (by omega) hp4.2.2.2) (fun i hi => by
        obtain ⟨j, hj, rfl⟩ := List.getElem_of_mem hi
        rw [Sp.codeTo_get]
        rw [Sp.codeTo_len] at hj
        exact (Sp.insIs_of (Sp.dok_of_progB HZP.out j hj)).bd)
      rw [Sp.codeTo_len] at h
      simp only [World.size_alloc] at h
      exact hid h
    have HLE := hid (fun r (hr : r < 52) k (hk : k < s.size / 4) => Sp.live_eq zp (fun i hi => Sp.insIs_of (Sp.dok_of_progB zp i hi)) (Sp.blocks_pos _ _ (by omega) hp4.2.2.2) hr k hk)
    clear zp
    generalize hR : Sp.rounds (Sp.codeTo (Sp.B s) (s.size / 4)) (Sp.blksTo (Sp.B s) (s.size / 4)) (Sp.blocksTo (Sp.B s) (s.size / 4)) = R at *
    clear hR
    have hlen : s.size / 4 ≤ 64 := by omega
    generalize hn : s.size / 4 = n at *
    by_cases hin : 0 ≤ i ∧ i < (n : Nat)
    · obtain ⟨h1, h2⟩ := hin
      obtain ⟨j, rfl⟩ := Int.eq_ofNat_of_zero_le h1
      have hj : j < n := by omega
      go_wp2_with (first | (go_at_call 52; refine HLA.out.mono ?_; rintro e w4 ⟨rfl, hs4, hb4⟩; have HTX := hid (text_any (w2.heap.size + 1) (j * 52) (R j) w4 (hs4 j hj)); have HB4 := hid (HBW3.out.trans (hb4.mono (by omega))); clear hs4 hb4) | (go_at_call 53; refine HTX.out.mono ?_; rintro e w5 ⟨rfl, hb5⟩; have HB5 := hid (HB4.out.trans (hb5.mono HB4.out.size)); clear hb5))
      go_ret2
      refine ⟨_, 0, rfl, Or.inr (Or.inr ⟨HF.out, ⟨h1, by rw [hn]; exact h2⟩, rfl, ?_⟩), HB5.out⟩
      rw [Int.toNat_natCast]
      unfold Sp.liveT
      refine Sp.letT_congr 52 (fun k hk => ?_)
      have := HLE.out (Sp.ord k) (Nat.mod_lt _ (by omega)) j hj
      rw [Sp.rv_ord k hk] at this
      rw [hn]
      exact (Sp.wantB_eq this).symm
    · by_cases h1 : i < 0
      · go_wp2_with (go_at_call 52; refine HLA.out.mono ?_; rintro e w4 ⟨rfl, hs4, hb4⟩; have HB4 := hid (HBW3.out.trans (hb4.mono (by omega))); clear hs4 hb4)
        go_ret2
        exact ⟨_, 2, rfl, Or.inr (Or.inl ⟨HF.out, by omega, rfl, rfl⟩), HB4.out⟩
      · have h2 : (n : Int) ≤ i := by omega
        go_wp2_with (first | (go_at_call 52; refine HLA.out.mono ?_; rintro e w4 ⟨rfl, hs4, hb4⟩; have HB4 := hid (HBW3.out.trans (hb4.mono (by omega))); clear hs4 hb4))
        go_ret2
        exact ⟨_, 2, rfl, Or.inr (Or.inl ⟨HF.out, by rw [hn]; omega, rfl, rfl⟩), HB4.out⟩
  · have HF0 := hid h0
    go_wp2_with fail
    go_ret2
    exact ⟨_, f, rfl, Or.inl ⟨HF0.out, HF.out, rfl⟩, HBW3.out⟩

set_option maxRecDepth 20000 in
set_option maxHeartbeats 2000000 in
theorem lives_any (s : ByteArray) (i : Int) (w : World) (hs : s.size ≤ maxLen) (hA : ArgsAt w) :
    Calls Tryd.prog 8 #[.string s, .int .i64 i] w fun e w' => e = .returned (.bool true) ∧ Below w.heap.size w w' := by
  have HPL := hid (plive_any s i w hs hA)
  clear hA
  go_enter Tryd.func8, Tryd.ntmps8
  go_wp2_with fail
  refine HPL.out.mono ?_
  rintro e w1 ⟨t, f, rfl, hr1, hb1⟩
  have HR1 := hid hr1
  have HB1 := hid hb1
  clear hr1 hb1
  go_wp2_with fail
  refine (refLive_any s i w1 hs).mono ?_
  rintro e w2 ⟨t', f', rfl, hr2, hb2⟩
  obtain ⟨e1, e2⟩ := HR1.out.det hr2
  subst e1 e2
  have HB2 := hid (HB1.out.trans (hb2.mono HB1.out.size))
  clear hr2 hb2
  go_wp2_with fail
  go_ret
  exact ⟨by simp, HB2.out⟩
end Go.Proofs.YtccndnckceagfaaDoorR
