/-
  The statement on arguments that are not live, walked.
-/
import Derived.Test.YtccndnckceagfaaDoorRIdleM
namespace Go.Proofs.YtccndnckceagfaaDoorR
open Go.RowKit
namespace Sp
def MemTo (l : ByteArray) (v : Int) (m : Nat) : Prop := ∃ j, j < m ∧ ∃ h : j < l.size, ((l[j]).toNat : Int) = v
theorem memTo_zero (l : ByteArray) (v : Int) : ¬ MemTo l v 0 := by rintro ⟨j, hj, _⟩; omega
theorem memTo_succ {l : ByteArray} {v : Int} {m : Nat} (hm : m < l.size) : MemTo l v (m + 1) ↔ (MemTo l v m ∨ ((l[m]).toNat : Int) = v) := by
  constructor
  · rintro ⟨j, hj, h, e⟩
    by_cases c : j = m
    · subst c; exact Or.inr e
    · exact Or.inl ⟨j, by omega, h, e⟩
  · rintro (⟨j, hj, h, e⟩ | e)
    · exact ⟨j, by omega, h, e⟩
    · exact ⟨m, by omega, hm, e⟩
/-- an input whose first i arguments are another's where L does not hold them -/
def mixI (I J : Inp) (L : Nat → Bool) (i : Nat) : Inp := ⟨fun k => if k < i ∧ L k = false then J.args k else I.args k, I.pub, I.sec⟩
theorem mix_zero (I J : Inp) (L : Nat → Bool) : mixI I J L 0 = I := by
  unfold mixI
  simp
theorem mix_no (I J : Inp) (L : Nat → Bool) (i : Nat) (h : L i = true) : mixI I J L (i + 1) = mixI I J L i := by
  unfold mixI
  congr 1
  funext k
  by_cases e : k = i
  · rw [if_neg (by rw [e, h]; simp), if_neg (by rw [e, h]; simp)]
  · by_cases c : k < i ∧ L k = false
    · rw [if_pos c, if_pos ⟨by omega, c.2⟩]
    · rw [if_neg c, if_neg (fun c' => c ⟨by omega, c'.2⟩)]
theorem mix_yes (I J : Inp) (L : Nat → Bool) (i : Nat) (hi : i < 4) (h : L i = false) (m : Nat) : (mixI I J L (i + 1)).at' m = if m = i then J.args i else (mixI I J L i).at' m := by
  unfold Inp.at' mixI
  simp only
  by_cases e : m = i
  · subst e
    rw [if_pos hi, if_pos rfl, if_pos ⟨by omega, h⟩]
  · rw [if_neg e]
    by_cases c : m < 4
    · rw [if_pos c, if_pos c]
      by_cases c2 : m < i ∧ L m = false
      · rw [if_pos c2, if_pos ⟨by omega, c2.2⟩]
      · rw [if_neg c2, if_neg (fun c' => c2 ⟨by omega, c'.2⟩)]
    · rw [if_neg c, if_neg c]
theorem may_of {I : Inp} {f : Int} (h : ∀ j, j < 20 → 0 ≤ I.at' j ∧ I.at' j ≤ 65535) (h0 : 0 ≤ f) (h1 : f ≤ 20000) : mayB I f = true := by
  unfold mayB
  rw [Bool.and_eq_true]
  exact ⟨List.all_eq_true.2 fun j hj => decide_eq_true (h j (List.mem_range.1 hj)), decide_eq_true ⟨h0, h1⟩⟩
theorem mix_may (I J : Inp) (L : Nat → Bool) (f : Int) (h1 : mayB I f = true) (h2 : mayB J f = true) : mayB (mixI I J L 4) f = true := by
  have hf := may_fuel h1
  refine may_of (fun j hj => ?_) hf.1 hf.2
  have a1 := may_at h1 j hj
  have a2 := may_at h2 j hj
  unfold Inp.at' at a1 a2 ⊢
  by_cases c : j < 4
  · rw [if_pos c] at a1 a2 ⊢
    show 0 ≤ (if j < 4 ∧ L j = false then J.args j else I.args j) ∧ (if j < 4 ∧ L j = false then J.args j else I.args j) ≤ 65535
    split
    · exact a2
    · exact a1
  · rw [if_neg c] at a1 a2 ⊢
    exact a1
theorem liveT_mem {s : ByteArray} (i : Nat) (v : Int) (hv : letB v = true) : MemTo (liveT s i) v (liveT s i).size ↔ Want (B s) (s.size / 4) v i := by
  obtain ⟨k, hk, rfl⟩ := let_reg hv
  obtain ⟨h1, h2⟩ := letT_get (fun k => wantB (B s) (s.size / 4) (reg k) i) 52 (Nat.le_refl _)
  constructor
  · rintro ⟨j, _, h, e⟩
    obtain ⟨k', _, hw, e'⟩ := h1 j h
    rw [← wantB_iff]
    have : reg k = reg k' := e.symm.trans e'
    rw [this]
    exact hw
  · intro hw
    obtain ⟨j, h, e⟩ := h2 k hk ((wantB_iff _ _ _ _).2 hw)
    exact ⟨j, h, h, e⟩
theorem pS_let (j : Nat) : letB (pS j : Nat) = true := by
  unfold pS
  repeat' split
  all_goals decide
/-- what Run tells does not hang on arguments that are not live -/
theorem idle_run {s : ByteArray} (hf : FormedR s 0) (I J : Inp) (L : Nat → Bool) (hL : ∀ k, k < 4 → (L k = true ↔ Want (B s) (s.size / 4) (pS k : Nat) 0)) (F : Nat) :
    ∃ h', runG (stepT s) F (start pS (mixI I J L 4).cut 4) = { runG (stepT s) F (start pS I.cut 4) with hold := h' } := by
  obtain ⟨_, hp, _⟩ := hf.zero
  have hz := size_of_progB hp
  have := twin_run hp F (start pS I.cut 4) (hold0 pS (mixI I J L 4).cut 4) 0 rfl (by omega) (fun v hv hw => ?_)
  · exact this
  · show hold0 pS I.cut 4 v.toNat = hold0 pS (mixI I J L 4).cut 4 v.toNat
    have key : ∀ k, k < 4 → v.toNat = pS k → I.cut.args k = (mixI I J L 4).cut.args k := fun k hk e => by
      have ev : v = (pS k : Nat) := by
        have := let_nat (v := v) (x := (pS k : Nat)) hv (pS_let k) (by rw [Int.toNat_natCast]; exact e)
        exact this
      have hl : L k = true := (hL k hk).2 (by rw [← ev]; exact hw)
      show (if k < 4 then I.args k else 0) = (if k < 4 then (if k < 4 ∧ L k = false then J.args k else I.args k) else 0)
      rw [if_pos hk, if_pos hk, if_neg (by rw [hl]; simp)]
    simp only [hold0, upd]
    have k0 := key 0 (by omega)
    have k1 := key 1 (by omega)
    have k2 := key 2 (by omega)
    have k3 := key 3 (by omega)
    by_cases e3 : v.toNat = pS 3
    · rw [if_pos e3, if_pos e3]; exact k3 e3
    rw [if_neg e3, if_neg e3]
    by_cases e2 : v.toNat = pS 2
    · rw [if_pos e2, if_pos e2]; exact k2 e2
    rw [if_neg e2, if_neg e2]
    by_cases e1 : v.toNat = pS 1
    · rw [if_pos e1, if_pos e1]; exact k1 e1
    rw [if_neg e1, if_neg e1]
    by_cases e0 : v.toNat = pS 0
    · rw [if_pos e0, if_pos e0]; exact k0 e0
    rw [if_neg e0, if_neg e0]
theorem small_liveT : liveT small 0 = ⟨#[97]⟩ := by
  have h : liveT small 0 = letT (fun k => k == 26) 52 := by
    unfold liveT
    refine letT_congr 52 (fun k hk => ?_)
    refine wantB_eq ?_
    have hz : small.size / 4 = 1 := rfl
    rw [hz]
    constructor
    · intro e
      have e' : k = 26 := by simpa using e
      subst e'
      exact ⟨0, by decide⟩
    · rintro ⟨m, hm⟩
      have := small_want _ _ hm
      unfold reg at this
      have : k = 26 := by split at this <;> omega
      simp [this]
  rw [h]
  decide +kernel
theorem LiveR.good {s : ByteArray} {t : ByteArray} {e : Int} (h : LiveR s 0 t e) (hf : FormedR s 0) : e = 0 ∧ t = liveT s 0 := by
  obtain ⟨_, hp, _⟩ := hf.zero
  have hz := size_of_progB hp
  rcases h with ⟨a, b, c⟩ | ⟨a, b, c, d⟩ | ⟨a, b, c, d⟩
  · exact absurd (b.eq hf) a
  · exact absurd ⟨Int.le_refl 0, by omega⟩ b
  · exact ⟨c, d⟩
theorem LiveR.formed {s : ByteArray} {i : Int} {t : ByteArray} {e : Int} (h : LiveR s i t e) (he : e = 0) : FormedR s 0 := by
  rcases h with ⟨a, b, c⟩ | ⟨a, b, c, d⟩ | ⟨a, b, c, d⟩
  · exact absurd he a
  · exact a
  · exact a
end Sp
theorem abAB_ix (i : Nat) (h : i < 4) (W : World) : (Instr.index 9 (.string ⟨#[97, 98, 65, 66]⟩) (.int .i64 (i : Int))).run Tryd.prog W = .ok (.int .u8 ((Sp.pS i : Nat) : Int)) W := by
  have hz : i < (⟨#[97, 98, 65, 66]⟩ : ByteArray).size := h
  rw [run_index_string W 9 ⟨#[97, 98, 65, 66]⟩ .i64 _ Tryd.underlying9, dif_pos (by exact ⟨by omega, by omega⟩)]
  have hj' : i = 0 ∨ i = 1 ∨ i = 2 ∨ i = 3 := by omega
  rcases hj' with rfl | rfl | rfl | rfl <;> rfl
theorem str_ix (l : ByteArray) (j : Nat) (h : j < l.size) (W : World) : (Instr.index 9 (.string l) (.int .i64 (j : Int))).run Tryd.prog W = .ok (.int .u8 ((l[j]).toNat : Int)) W := by
  rw [run_index_string W 9 l .i64 _ Tryd.underlying9, dif_pos (by omega)]
  rfl

set_option maxRecDepth 20000 in
set_option maxHeartbeats 8000000 in
theorem idle_any (s : ByteArray) (I J : Sp.Inp) (n : Int) (w : World) (hs : s.size ≤ maxLen) (hI : I.wide) (hJ : J.wide) (hn : -9223372036854775808 ≤ n ∧ n ≤ 9223372036854775807) (hA : ArgsAt w) (hT : Tab w) :
    Calls Tryd.prog 10 #[.string s, .agg (inA I), .agg (inA J), .int .i64 n] w fun e w' => e = .returned (.bool true) ∧ Below w.heap.size w w' := by
  have hsz := inA_size I
  have hszJ := inA_size J
  have hlt1 := hT.lt
  have HA := hid hA
  have HT := hid hT
  have HRI := hid ((in_row w I 29).of_block (w' := (w.alloc (.cells (inA I) 29)).alloc (.cells (inA J) 29)) (((Below.refl _ _).alloc (Nat.le_refl _) _).block _ (by simp)))
  have HRJ := hid (in_row (w.alloc (.cells (inA I) 29)) J 29)
  have HBB := hid (((Below.refl w.heap.size w).alloc (Nat.le_refl _) (.cells (inA I) 29)).alloc (by simp) (.cells (inA J) 29))
  have hz0 : ((w.alloc (.cells (inA I) 29)).alloc (.cells (inA J) 29)).heap.size = w.heap.size + 2 := by simp
  have HTI := hid (fun W => tame_any I W hI)
  have HTJ := hid (fun W => tame_any J W hJ)
  have HP1 := hid (fun W => pick_any n 20001 W hn (by omega))
  have hp1 := Sp.pk_bd n 20001 (by omega)
  generalize hn1 : Sp.pk n 20001 = n1 at *
  have HRUN : Hid (∀ (S : ByteArray) (X : Sp.Inp) (f : Int) (W : World), S.size ≤ maxLen → Below w.heap.size w W → Calls Tryd.prog 14 #[.string S, .agg (inA X), .int .i64 f] W fun e w' => RunPost S X f W e w') := hid (fun S X f W hS hW => prun_any S X f W hS (HA.out.of_block (hW.block 0 (by omega))) (HT.out.of_block (hW.block 1 (by omega))))
  have HLIV : Hid (∀ (S : ByteArray) (W : World), S.size ≤ maxLen → Below w.heap.size w W → Calls Tryd.prog 26 #[.string S, .int .i64 0] W fun e w' => LivePost S 0 W e w') := hid (fun S W hS hW => plive_any S 0 W hS (HA.out.of_block (hW.block 0 (by omega))))
  clear hA hT hI hJ hn hn1
  simp only [World.size_alloc] at HRJ
  generalize hN : w.heap.size = N at *
  obtain ⟨F, rfl⟩ := Int.eq_ofNat_of_zero_le hp1.1
  go_enter Tryd.func10, Tryd.ntmps10
  go_upto_region 2 with (first | (refine wpList_load_in rfl (.tmp 5) rfl N I (by first | rfl | simp [Act.eval]) HRI.out ?_) | (go_at_call 17; refine (HTI.out _).mono ?_; rintro e w1 ⟨rfl, hb1⟩; rw [hz0] at hb1; have HR1 := hid (HRI.out.of_block (hb1.block N (by omega))); have HRJ1 := hid (HRJ.out.of_block (hb1.block (N + 1) (by omega))); have HB1 := hid (HBB.out.trans (hb1.mono (by omega))); have hs1 := hb1.size; rw [hz0] at hs1; clear hb1) | (refine wpList_store_in rfl (.tmp 5) (.tmp 22) rfl N (Sp.tm I) I (by first | rfl | simp [Act.eval]) (by rfl) HR1.out ?_; intro w2 ho2 ho2'; have HJ2 := hid ho2; have HRJ2 := hid (HRJ1.out.of_block (ho2'.block (N + 1) (by omega))); have HB2 := hid (HB1.out.trans (ho2'.below (Nat.le_refl N))); have hs2 : N + 2 ≤ w2.heap.size := (by rw [ho2'.size]; exact hs1); clear ho2 ho2'))
  clear HR1 HRJ1 HB1 HRI HRJ HBB HTI hs1 hz0
  go_upto_region 4 with (first | (refine wpList_load_in rfl (.tmp 6) rfl (N + 1) J (by first | rfl | simp [Act.eval]) HRJ2.out ?_) | (go_at_call 17; refine (HTJ.out _).mono ?_; rintro e w3 ⟨rfl, hb3⟩; have HI3 := hid (HJ2.out.of_block (hb3.block N (by omega))); have HRJ3 := hid (HRJ2.out.of_block (hb3.block (N + 1) (by omega))); have HB3 := hid (HB2.out.trans (hb3.mono (by omega))); have hs3 := hb3.size; clear hb3) | (refine wpList_store_in rfl (.tmp 6) (.tmp 24) rfl (N + 1) (Sp.tm J) J (by first | rfl | simp [Act.eval]) (by rfl) HRJ3.out ?_; intro w4 ho4 ho4'; have HJ4 := hid ho4; have HI4 := hid (HI3.out.of_block (ho4'.block N (by omega))); have HB4 := hid (HB3.out.trans (ho4'.below (by omega))); have hs4 : N + 2 ≤ w4.heap.size := (by rw [ho4'.size]; omega); clear ho4 ho4') | (go_at_call 18; refine (HP1.out _).mono ?_; rintro e w' ⟨rfl, rfl⟩))
  clear HJ2 HRJ2 HB2 HI3 HRJ3 HB3 HTJ HP1 hs2 hs3
  have hsm : Sp.small.size ≤ maxLen := by decide
  have HLS := hid (HLIV.out Sp.small w4 hsm HB4.out)
  go_upto_region 7 with (go_at_call 26; refine HLS.out.mono ?_; rintro e w5 ⟨t5, f5, rfl, hr5, hb5⟩; obtain ⟨e1, e2⟩ := hr5.good Sp.small_formed; rw [Sp.small_liveT] at e2; subst e1 e2; have HI5 := hid (HI4.out.of_block (hb5.block N (by omega))); have HJ5 := hid (HJ4.out.of_block (hb5.block (N + 1) (by omega))); have HB5 := hid (HB4.out.trans (hb5.mono (by omega))); have hs5 : N + 2 ≤ w5.heap.size := Nat.le_trans hs4 hb5.size; clear hr5 hb5)
  clear HLS HI4 HJ4 HB4 hs4
  have HLS := hid (HLIV.out s w5 hs HB5.out)
  go_upto_region 8 with (go_at_call 26; refine HLS.out.mono ?_; rintro e w6 ⟨t6, f6, rfl, hr6, hb6⟩; have HR6 := hid hr6; have HI6 := hid (HI5.out.of_block (hb6.block N (by omega))); have HJ6 := hid (HJ5.out.of_block (hb6.block (N + 1) (by omega))); have HB6 := hid (HB5.out.trans (hb6.mono (by omega))); have hs6 : N + 2 ≤ w6.heap.size := Nat.le_trans hs5 hb6.size; clear hr6 hb6)
  clear HLS HLIV HI5 HJ5 HB5 hs5
  by_cases h0 : f6 = 0
  · subst h0
    have HFS := hid (HR6.out.formed rfl)
    have hlt6 := (HR6.out.good HFS.out).2
    have HLL := hid hlt6
    have hS : s.size ≤ maxLen := hs
    clear HR6 hlt6
    go_upto_region 11 with fail
    have hl52 : t6.size ≤ 52 := by rw [HLL.out]; exact Sp.letT_size _ 52
    have HMEM := hid (show ∀ k, k < 4 → (Sp.MemTo t6 (Sp.pS k : Nat) t6.size ↔ Sp.Want (Sp.B s) (s.size / 4) (Sp.pS k : Nat) 0) from fun k _ => by rw [HLL.out]; exact Sp.liveT_mem 0 _ (Sp.pS_let k))
    clear HLL
    obtain ⟨Lq, hLq⟩ : ∃ Q : Nat → Bool, ∀ k, (Q k = true ↔ Sp.MemTo t6 (Sp.pS k : Nat) t6.size) := ⟨fun k => @decide (Sp.MemTo t6 (Sp.pS k : Nat) t6.size) (Classical.propDecidable _), fun k => by simp⟩
    have HLQ := hid hLq
    clear hLq
    go_upto_region 13 with (first | (refine wpList_load_in rfl (.tmp 5) rfl N (Sp.tm I) (by rfl) HI6.out ?_) | (refine wpList_alloc_in rfl rfl ?_; intro w7 ho7 hb7 hz7; have HO7 := hid ho7; have HB7 := hid hb7; clear ho7 hb7) | (refine wpList_store_in rfl (.tmp 11) (.tmp 44) rfl w6.heap.size (Sp.tm I) in0 (by rfl) (by rfl) HO7.out ?_; intro w8 ho8 ho8'; have HQ8 := hid ho8; have HY8 := hid ho8'; clear ho8 ho8'))
    have hs8 : w8.heap.size = w6.heap.size + 1 := by rw [HY8.out.size, hz7]
    have HI8 := hid ((HI6.out.of_block (HB7.out.block N (by omega))).of_block (HY8.out.block N (by omega)))
    have HJ8 := hid ((HJ6.out.of_block (HB7.out.block (N + 1) (by omega))).of_block (HY8.out.block (N + 1) (by omega)))
    have HB8 := hid ((HB6.out.trans (HB7.out.mono (by omega))).trans (HY8.out.below (by omega)))
    clear HI6 HJ6 HB6 HO7 HB7 HY8 hz7
    generalize w6.heap.size = q at *
    go_loopw [12] (fun iv wr => ∃ i : Nat, i ≤ 4 ∧ iv = .int .i64 i ∧ wr.rowIs q 29 20 (inF (Sp.mixI (Sp.tm I) (Sp.tm J) Lq i)) ∧ Only q w8 wr) (fun iv _ => 4 - (intOf iv).toNat)
    case atStart => exact ⟨0, by omega, rfl, by rw [Sp.mix_zero]; exact HQ8.out, Only.refl _ _⟩
    case round =>
      obtain ⟨i, hi, rfl, hQ, hon⟩ := hrel
      have HQ := hid hQ
      have HON := hid hon
      clear HQ8
      by_cases hlt : i < 4
      · have HLI := hid (HLQ.out i)
        have HMY := hid (fun h => Sp.mix_yes (Sp.tm I) (Sp.tm J) Lq i hlt h)
        have HMN := hid (fun h => Sp.mix_no (Sp.tm I) (Sp.tm J) Lq i h)
        have hix2 := abAB_ix i hlt
        have HJA := hid (in_args (HJ8.out.of_block (hon.block (N + 1) (by omega))) i hlt)
        have hcq := hQ.cell (i := i) (by omega)
        have HCQ := hid hcq
        have HFQ := hid (hQ.frozen i)
        clear hQ hon hcq
        generalize ((Sp.pS i : Nat) : Int) = v2 at *
        obtain ⟨w0, hw0⟩ : ∃ w0, wr = w0 := ⟨_, rfl⟩
        rw [hw0] at HQ HJA HCQ HFQ HON ⊢
        go_wp2_with fail
        go_loopw [13, 14] (fun lv jv wq => ∃ (j : Nat) (b : Bool), j ≤ t6.size ∧ jv = .int .i64 j ∧ lv = .bool b ∧ (b = true ↔ Sp.MemTo t6 v2 j) ∧ wq.heap = w0.heap ∧ Only q w8 wq) (fun _ jv _ => t6.size - (intOf jv).toNat)
        case atStart => exact ⟨0, false, by omega, rfl, rfl, ⟨fun h => (by cases h), fun h => absurd h (Sp.memTo_zero _ _)⟩, rfl, HON.out⟩
        case round =>
          obtain ⟨j, b, hj, rfl, rfl, hb, hh, hon'⟩ := hrel
          have HB := hid hb
          have HH := hid hh
          have HON' := hid hon'
          clear hb hh hon'
          by_cases hjl : j < t6.size
          · have hix1 := str_ix t6 j hjl
            have HMS := hid (Sp.memTo_succ (l := t6) (v := v2) hjl)
            generalize ((t6[j]).toNat : Int) = v1 at *
            cases b
            · go_wp2_with fail
              go_quiet (fail)
              go_wp2_with fail
              go_roundw
              case rel => exact ⟨j + 1, _, by omega, by go_num, rfl, by
                rw [HMS.out, beq_iff_eq]
                constructor
                · exact fun e => Or.inr e
                · rintro (e | e)
                  · exact absurd (HB.out.2 e) (by simp)
                  · exact e, HH.out, ⟨HON'.out.os, HON'.out.tape, HON'.out.output, HON'.out.size, HON'.out.block⟩⟩
              case measure => simp [intOf]; omega
            · go_wp2_with fail
              go_quiet (fail)
              go_wp2_with fail
              go_roundw
              case rel =>
                simp only [show decide ((i : Int) < 4) = true from decide_eq_true (by omega)]
                repeat apply Exists.intro
                refine ⟨?_, rfl⟩
                exact ⟨j + 1, true, by omega, by go_num, rfl, ⟨fun _ => HMS.out.2 (Or.inl (HB.out.1 (by first | rfl | trivial))), fun _ => rfl⟩, HH.out, ⟨HON'.out.os, HON'.out.tape, HON'.out.output, HON'.out.size, HON'.out.block⟩⟩
              case measure => simp [intOf]; omega
          · have ej : j = t6.size := by omega
            subst ej
            have HLB := hid (show Lq i = b by rw [Bool.eq_iff_iff, HLI.out]; exact HB.out.symm)
            have HQ' := hid (HQ.out.of_block (w' := wr) (by rw [HH.out]))
            cases b
            · have c1 := (World.cell?_of_block (a := ⟨N + 1, i, none⟩) (show wr.heap[N + 1]? = w0.heap[N + 1]? by rw [HH.out])).trans HJA.out
              have c2 := (World.cell?_of_block (a := ⟨q, i, none⟩) (show wr.heap[q]? = w0.heap[q]? by rw [HH.out])).trans HCQ.out
              have c3 := HQ'.out.frozen i
              go_wp2_with fail
              go_roundw
              case rel => exact ⟨i + 1, by omega, by go_num, in_set HQ'.out i _ (HMY.out HLB.out), HON'.out.trans (Only.set _ _ _ _)⟩
              case measure => simp [intOf]; omega
            · go_wp2_with fail
              go_roundw
              case rel => exact ⟨i + 1, by omega, by go_num, by rw [HMN.out HLB.out]; exact HQ'.out, HON'.out⟩
              case measure => simp [intOf]; omega
      · obtain rfl : i = 4 := by omega
        have HI9 := hid (HI8.out.of_block (hon.block N (by omega)))
        have HB9 := hid (HB8.out.trans (hon.below (by omega)))
        have hs9 : wr.heap.size = q + 1 := by rw [hon.size, hs8]
        clear hQ hon HON HI8 HJ8 HB8
        have HMX := hid (Sp.tm_may I (F : Int) (by omega) (by omega))
        have HMZ := hid (Sp.mix_may (Sp.tm I) (Sp.tm J) Lq (F : Int) HMX.out (Sp.tm_may J (F : Int) (by omega) (by omega)))
        have HIR := hid (Sp.idle_run HFS.out (Sp.tm I) (Sp.tm J) Lq (fun k hk => (HLQ.out k).trans (HMEM.out k hk)) F)
        have HR1 := hid (HRUN.out s (Sp.tm I) (F : Int) wr hS HB9.out)
        go_upto_region 23 with (first | (refine wpList_load_in rfl (.tmp 5) rfl N (Sp.tm I) (by rfl) HI9.out ?_) | (go_at_call 14; refine HR1.out.mono ?_; rintro e w10 ⟨st10, f10, rfl, hr10, hb10⟩; obtain ⟨e1, e2⟩ := hr10.good HFS.out HMX.out; rw [Int.toNat_natCast] at e2; subst e1 e2; have HB10 := hid hb10; clear hr10 hb10) | (refine wpList_alloc_out rfl rfl ?_; intro w11 ho11 hb11 hz11; have HO11 := hid ho11; have HB11 := hid hb11; clear ho11 hb11) | (refine wpList_store_out rfl (.tmp 15) (.tmp 78) rfl w10.heap.size 0 _ st0 (by rfl) (by rfl) HO11.out ?_; intro w12 ho12 ho12'; have HX12 := hid ho12; have HY12 := hid ho12'; clear ho12 ho12'))
        have hs10 := HB10.out.size
        have hs12 : w12.heap.size = w10.heap.size + 1 := by rw [HY12.out.size, hz11]
        have HW12 := hid (((HB9.out.trans (HB10.out.mono (by omega))).trans (HB11.out.mono (by omega))).trans (HY12.out.below (by omega)))
        have HQ12 := hid (((HQ.out.of_block (HB10.out.block q (by omega))).of_block (HB11.out.block q (by omega))).of_block (HY12.out.block q (by omega)))
        clear HQ HB10 HB11 HY12 HO11 hz11 HB9 HI9 HR1
        generalize w10.heap.size = bx at *
        have HR2 := hid (HRUN.out s (Sp.mixI (Sp.tm I) (Sp.tm J) Lq 4) (F : Int) w12 hS HW12.out)
        go_upto_region 24 with (first | (refine wpList_load_in rfl (.tmp 11) rfl q (Sp.mixI (Sp.tm I) (Sp.tm J) Lq 4) (by rfl) HQ12.out ?_) | (go_at_call 14; refine HR2.out.mono ?_; rintro e w13 ⟨st13, f13, rfl, hr13, hb13⟩; obtain ⟨e1, e2⟩ := hr13.good HFS.out HMZ.out; rw [Int.toNat_natCast] at e2; subst e1 e2; have HB13 := hid hb13; clear hr13 hb13) | (refine wpList_alloc_out rfl rfl ?_; intro w14 ho14 hb14 hz14; have HO14 := hid ho14; have HB14 := hid hb14; clear ho14 hb14) | (refine wpList_store_out rfl (.tmp 17) (.tmp 85) rfl w13.heap.size 0 _ st0 (by rfl) (by rfl) HO14.out ?_; intro w15 ho15 ho15'; have HV15 := hid ho15; have HY15 := hid ho15'; clear ho15 ho15'))
        have hs13 := HB13.out.size
        have hs15 : w15.heap.size = w13.heap.size + 1 := by rw [HY15.out.size, hz14]
        have HW15 := hid (((HW12.out.trans (HB13.out.mono (by omega))).trans (HB14.out.mono (by omega))).trans (HY15.out.below (by omega)))
        have HX15 := hid (((HX12.out.of_block (HB13.out.block bx (by omega))).of_block (HB14.out.block bx (by omega))).of_block (HY15.out.block bx (by omega)))
        clear HX12 HB13 HB14 HY15 HO14 hz14 HW12 HQ12 HR2
        generalize w13.heap.size = bv at *
        obtain ⟨h', he'⟩ := HIR.out
        rw [he'] at HV15
        clear he' HIR
        generalize Sp.runG (Sp.stepT s) F (Sp.start Sp.pS (Sp.tm I).cut 4) = Y at *
        have hs15' : N ≤ w15.heap.size := by have := HW15.out.size; omega
        have HK1 := hid (kwords_same Y.pub w15)
        go_wp2_with (first | (refine wpList_load8 rfl (.tmp 87) rfl bx 2 Y.pub (by rfl) (fun j hj => HX15.out.pub j hj) ?_) | (refine wpList_load8 rfl (.tmp 89) rfl bv 2 Y.pub (by rfl) (fun j hj => HV15.out.pub j hj) ?_) | (go_at_call 19; refine HK1.out.mono ?_; rintro e w17 ⟨rfl, hb17⟩; have HX18 := hid (HX15.out.of_block (hb17.block bx (by omega))); have HV18 := hid (HV15.out.of_block (hb17.block bv (by omega))); have HK2 := hid (kwords_same Y.sec w17); have HW17 := hid (HW15.out.trans (hb17.mono hs15')); have hs17 := hb17.size; clear HK1 hb17) | (refine wpList_load8 rfl (.tmp 92) rfl bx 10 Y.sec (by rfl) (fun j hj => HX18.out.sec j hj) ?_) | (refine wpList_load8 rfl (.tmp 94) rfl bv 10 Y.sec (by rfl) (fun j hj => HV18.out.sec j hj) ?_) | (go_at_call 19; refine HK2.out.mono ?_; rintro e w18 ⟨rfl, hb18⟩; have HX19 := hid (HX18.out.of_block (hb18.block bx (by omega))); have HV19 := hid (HV18.out.of_block (hb18.block bv (by omega))); have HW18 := hid (HW17.out.trans (hb18.mono (by omega))); clear hb18; have dx0 := HX19.out.status; have dx1 := HX19.out.value; have dx4 := HX19.out.trace; have dy0 := HV19.out.status; have dy1 := HV19.out.value; have dy4 := HV19.out.trace))
        go_ret
        exact ⟨by simp, HW18.out⟩
  · have HFS := hid Sp.small_formed
    have HF0 := hid h0
    have hS := hsm
    clear HR6
    go_upto_region 11 with fail
    obtain ⟨l6, hl6⟩ : ∃ l : ByteArray, (⟨#[97]⟩ : ByteArray) = l := ⟨_, rfl⟩
    rw [hl6]
    have HLL := hid (show l6 = Sp.liveT Sp.small 0 by rw [Sp.small_liveT, hl6])
    clear hl6
    have hl52 : l6.size ≤ 52 := by rw [HLL.out]; exact Sp.letT_size _ 52
    have HMEM := hid (show ∀ k, k < 4 → (Sp.MemTo l6 (Sp.pS k : Nat) l6.size ↔ Sp.Want (Sp.B Sp.small) (Sp.small.size / 4) (Sp.pS k : Nat) 0) from fun k _ => by rw [HLL.out]; exact Sp.liveT_mem 0 _ (Sp.pS_let k))
    clear HLL
    obtain ⟨Lq, hLq⟩ : ∃ Q : Nat → Bool, ∀ k, (Q k = true ↔ Sp.MemTo l6 (Sp.pS k : Nat) l6.size) := ⟨fun k => @decide (Sp.MemTo l6 (Sp.pS k : Nat) l6.size) (Classical.propDecidable _), fun k => by simp⟩
    have HLQ := hid hLq
    clear hLq
    go_upto_region 13 with (first | (refine wpList_load_in rfl (.tmp 5) rfl N (Sp.tm I) (by rfl) HI6.out ?_) | (refine wpList_alloc_in rfl rfl ?_; intro w7 ho7 hb7 hz7; have HO7 := hid ho7; have HB7 := hid hb7; clear ho7 hb7) | (refine wpList_store_in rfl (.tmp 11) (.tmp 44) rfl w6.heap.size (Sp.tm I) in0 (by rfl) (by rfl) HO7.out ?_; intro w8 ho8 ho8'; have HQ8 := hid ho8; have HY8 := hid ho8'; clear ho8 ho8'))
    have hs8 : w8.heap.size = w6.heap.size + 1 := by rw [HY8.out.size, hz7]
    have HI8 := hid ((HI6.out.of_block (HB7.out.block N (by omega))).of_block (HY8.out.block N (by omega)))
    have HJ8 := hid ((HJ6.out.of_block (HB7.out.block (N + 1) (by omega))).of_block (HY8.out.block (N + 1) (by omega)))
    have HB8 := hid ((HB6.out.trans (HB7.out.mono (by omega))).trans (HY8.out.below (by omega)))
    clear HI6 HJ6 HB6 HO7 HB7 HY8 hz7
    generalize w6.heap.size = q at *
    go_loopw [12] (fun iv wr => ∃ i : Nat, i ≤ 4 ∧ iv = .int .i64 i ∧ wr.rowIs q 29 20 (inF (Sp.mixI (Sp.tm I) (Sp.tm J) Lq i)) ∧ Only q w8 wr) (fun iv _ => 4 - (intOf iv).toNat)
    case atStart => exact ⟨0, by omega, rfl, by rw [Sp.mix_zero]; exact HQ8.out, Only.refl _ _⟩
    case round =>
      obtain ⟨i, hi, rfl, hQ, hon⟩ := hrel
      have HQ := hid hQ
      have HON := hid hon
      clear HQ8
      by_cases hlt : i < 4
      · have HLI := hid (HLQ.out i)
        have HMY := hid (fun h => Sp.mix_yes (Sp.tm I) (Sp.tm J) Lq i hlt h)
        have HMN := hid (fun h => Sp.mix_no (Sp.tm I) (Sp.tm J) Lq i h)
        have hix2 := abAB_ix i hlt
        have HJA := hid (in_args (HJ8.out.of_block (hon.block (N + 1) (by omega))) i hlt)
        have hcq := hQ.cell (i := i) (by omega)
        have HCQ := hid hcq
        have HFQ := hid (hQ.frozen i)
        clear hQ hon hcq
        generalize ((Sp.pS i : Nat) : Int) = v2 at *
        obtain ⟨w0, hw0⟩ : ∃ w0, wr = w0 := ⟨_, rfl⟩
        rw [hw0] at HQ HJA HCQ HFQ HON ⊢
        go_wp2_with fail
        go_loopw [13, 14] (fun lv jv wq => ∃ (j : Nat) (b : Bool), j ≤ l6.size ∧ jv = .int .i64 j ∧ lv = .bool b ∧ (b = true ↔ Sp.MemTo l6 v2 j) ∧ wq.heap = w0.heap ∧ Only q w8 wq) (fun _ jv _ => l6.size - (intOf jv).toNat)
        case atStart => exact ⟨0, false, by omega, rfl, rfl, ⟨fun h => (by cases h), fun h => absurd h (Sp.memTo_zero _ _)⟩, rfl, HON.out⟩
        case round =>
          obtain ⟨j, b, hj, rfl, rfl, hb, hh, hon'⟩ := hrel
          have HB := hid hb
          have HH := hid hh
          have HON' := hid hon'
          clear hb hh hon'
          by_cases hjl : j < l6.size
          · have hix1 := str_ix l6 j hjl
            have HMS := hid (Sp.memTo_succ (l := l6) (v := v2) hjl)
            generalize ((l6[j]).toNat : Int) = v1 at *
            cases b
            · go_wp2_with fail
              go_quiet (fail)
              go_wp2_with fail
              go_roundw
              case rel => exact ⟨j + 1, _, by omega, by go_num, rfl, by
                rw [HMS.out, beq_iff_eq]
                constructor
                · exact fun e => Or.inr e
                · rintro (e | e)
                  · exact absurd (HB.out.2 e) (by simp)
                  · exact e, HH.out, ⟨HON'.out.os, HON'.out.tape, HON'.out.output, HON'.out.size, HON'.out.block⟩⟩
              case measure => simp [intOf]; omega
            · go_wp2_with fail
              go_quiet (fail)
              go_wp2_with fail
              go_roundw
              case rel =>
                simp only [show decide ((i : Int) < 4) = true from decide_eq_true (by omega)]
                repeat apply Exists.intro
                refine ⟨?_, rfl⟩
                exact ⟨j + 1, true, by omega, by go_num, rfl, ⟨fun _ => HMS.out.2 (Or.inl (HB.out.1 (by first | rfl | trivial))), fun _ => rfl⟩, HH.out, ⟨HON'.out.os, HON'.out.tape, HON'.out.output, HON'.out.size, HON'.out.block⟩⟩
              case measure => simp [intOf]; omega
          · have ej : j = l6.size := by omega
            subst ej
            have HLB := hid (show Lq i = b by rw [Bool.eq_iff_iff, HLI.out]; exact HB.out.symm)
            have HQ' := hid (HQ.out.of_block (w' := wr) (by rw [HH.out]))
            cases b
            · have c1 := (World.cell?_of_block (a := ⟨N + 1, i, none⟩) (show wr.heap[N + 1]? = w0.heap[N + 1]? by rw [HH.out])).trans HJA.out
              have c2 := (World.cell?_of_block (a := ⟨q, i, none⟩) (show wr.heap[q]? = w0.heap[q]? by rw [HH.out])).trans HCQ.out
              have c3 := HQ'.out.frozen i
              go_wp2_with fail
              go_roundw
              case rel => exact ⟨i + 1, by omega, by go_num, in_set HQ'.out i _ (HMY.out HLB.out), HON'.out.trans (Only.set _ _ _ _)⟩
              case measure => simp [intOf]; omega
            · go_wp2_with fail
              go_roundw
              case rel => exact ⟨i + 1, by omega, by go_num, by rw [HMN.out HLB.out]; exact HQ'.out, HON'.out⟩
              case measure => simp [intOf]; omega
      · obtain rfl : i = 4 := by omega
        have HI9 := hid (HI8.out.of_block (hon.block N (by omega)))
        have HB9 := hid (HB8.out.trans (hon.below (by omega)))
        have hs9 : wr.heap.size = q + 1 := by rw [hon.size, hs8]
        clear hQ hon HON HI8 HJ8 HB8
        have HMX := hid (Sp.tm_may I (F : Int) (by omega) (by omega))
        have HMZ := hid (Sp.mix_may (Sp.tm I) (Sp.tm J) Lq (F : Int) HMX.out (Sp.tm_may J (F : Int) (by omega) (by omega)))
        have HIR := hid (Sp.idle_run HFS.out (Sp.tm I) (Sp.tm J) Lq (fun k hk => (HLQ.out k).trans (HMEM.out k hk)) F)
        have HR1 := hid (HRUN.out Sp.small (Sp.tm I) (F : Int) wr hS HB9.out)
        go_upto_region 23 with (first | (refine wpList_load_in rfl (.tmp 5) rfl N (Sp.tm I) (by rfl) HI9.out ?_) | (go_at_call 14; refine HR1.out.mono ?_; rintro e w10 ⟨st10, f10, rfl, hr10, hb10⟩; obtain ⟨e1, e2⟩ := hr10.good HFS.out HMX.out; rw [Int.toNat_natCast] at e2; subst e1 e2; have HB10 := hid hb10; clear hr10 hb10) | (refine wpList_alloc_out rfl rfl ?_; intro w11 ho11 hb11 hz11; have HO11 := hid ho11; have HB11 := hid hb11; clear ho11 hb11) | (refine wpList_store_out rfl (.tmp 15) (.tmp 78) rfl w10.heap.size 0 _ st0 (by rfl) (by rfl) HO11.out ?_; intro w12 ho12 ho12'; have HX12 := hid ho12; have HY12 := hid ho12'; clear ho12 ho12'))
        have hs10 := HB10.out.size
        have hs12 : w12.heap.size = w10.heap.size + 1 := by rw [HY12.out.size, hz11]
        have HW12 := hid (((HB9.out.trans (HB10.out.mono (by omega))).trans (HB11.out.mono (by omega))).trans (HY12.out.below (by omega)))
        have HQ12 := hid (((HQ.out.of_block (HB10.out.block q (by omega))).of_block (HB11.out.block q (by omega))).of_block (HY12.out.block q (by omega)))
        clear HQ HB10 HB11 HY12 HO11 hz11 HB9 HI9 HR1
        generalize w10.heap.size = bx at *
        have HR2 := hid (HRUN.out Sp.small (Sp.mixI (Sp.tm I) (Sp.tm J) Lq 4) (F : Int) w12 hS HW12.out)
        go_upto_region 24 with (first | (refine wpList_load_in rfl (.tmp 11) rfl q (Sp.mixI (Sp.tm I) (Sp.tm J) Lq 4) (by rfl) HQ12.out ?_) | (go_at_call 14; refine HR2.out.mono ?_; rintro e w13 ⟨st13, f13, rfl, hr13, hb13⟩; obtain ⟨e1, e2⟩ := hr13.good HFS.out HMZ.out; rw [Int.toNat_natCast] at e2; subst e1 e2; have HB13 := hid hb13; clear hr13 hb13) | (refine wpList_alloc_out rfl rfl ?_; intro w14 ho14 hb14 hz14; have HO14 := hid ho14; have HB14 := hid hb14; clear ho14 hb14) | (refine wpList_store_out rfl (.tmp 17) (.tmp 85) rfl w13.heap.size 0 _ st0 (by rfl) (by rfl) HO14.out ?_; intro w15 ho15 ho15'; have HV15 := hid ho15; have HY15 := hid ho15'; clear ho15 ho15'))
        have hs13 := HB13.out.size
        have hs15 : w15.heap.size = w13.heap.size + 1 := by rw [HY15.out.size, hz14]
        have HW15 := hid (((HW12.out.trans (HB13.out.mono (by omega))).trans (HB14.out.mono (by omega))).trans (HY15.out.below (by omega)))
        have HX15 := hid (((HX12.out.of_block (HB13.out.block bx (by omega))).of_block (HB14.out.block bx (by omega))).of_block (HY15.out.block bx (by omega)))
        clear HX12 HB13 HB14 HY15 HO14 hz14 HW12 HQ12 HR2
        generalize w13.heap.size = bv at *
        obtain ⟨h', he'⟩ := HIR.out
        rw [he'] at HV15
        clear he' HIR
        generalize Sp.runG (Sp.stepT Sp.small) F (Sp.start Sp.pS (Sp.tm I).cut 4) = Y at *
        have hs15' : N ≤ w15.heap.size := by have := HW15.out.size; omega
        have HK1 := hid (kwords_same Y.pub w15)
        go_wp2_with (first | (refine wpList_load8 rfl (.tmp 87) rfl bx 2 Y.pub (by rfl) (fun j hj => HX15.out.pub j hj) ?_) | (refine wpList_load8 rfl (.tmp 89) rfl bv 2 Y.pub (by rfl) (fun j hj => HV15.out.pub j hj) ?_) | (go_at_call 19; refine HK1.out.mono ?_; rintro e w17 ⟨rfl, hb17⟩; have HX18 := hid (HX15.out.of_block (hb17.block bx (by omega))); have HV18 := hid (HV15.out.of_block (hb17.block bv (by omega))); have HK2 := hid (kwords_same Y.sec w17); have HW17 := hid (HW15.out.trans (hb17.mono hs15')); have hs17 := hb17.size; clear HK1 hb17) | (refine wpList_load8 rfl (.tmp 92) rfl bx 10 Y.sec (by rfl) (fun j hj => HX18.out.sec j hj) ?_) | (refine wpList_load8 rfl (.tmp 94) rfl bv 10 Y.sec (by rfl) (fun j hj => HV18.out.sec j hj) ?_) | (go_at_call 19; refine HK2.out.mono ?_; rintro e w18 ⟨rfl, hb18⟩; have HX19 := hid (HX18.out.of_block (hb18.block bx (by omega))); have HV19 := hid (HV18.out.of_block (hb18.block bv (by omega))); have HW18 := hid (HW17.out.trans (hb18.mono (by omega))); clear hb18; have dx0 := HX19.out.status; have dx1 := HX19.out.value; have dx4 := HX19.out.trace; have dy0 := HV19.out.status; have dy1 := HV19.out.value; have dy4 := HV19.out.trace))
        go_ret
        exact ⟨by simp, HW18.out⟩
end Go.Proofs.YtccndnckceagfaaDoorR
