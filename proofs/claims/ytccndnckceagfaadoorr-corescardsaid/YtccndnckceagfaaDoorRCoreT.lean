/-
  Which registers meet, as the document finds it: the whole matrix.
-/
import Derived.Test.YtccndnckceagfaaDoorRCoreS
namespace Go.Proofs.YtccndnckceagfaaDoorR
open Go.RowKit
namespace Sp
/-- the letters of a set rise -/
theorem letT_rise (P : Nat → Bool) (n : Nat) (hn : n ≤ 52) : (∀ j, j < (letT P n).size → ∃ k, k < n ∧ P k = true ∧ B (letT P n) j = reg k) ∧ ∀ i j, i < j → j < (letT P n).size → B (letT P n) i < B (letT P n) j := by
  induction n with
  | zero => exact ⟨fun j h => absurd h (Nat.not_lt_zero _), fun i j _ h => absurd h (Nat.not_lt_zero _)⟩
  | succ n ih =>
    obtain ⟨h1, h2⟩ := ih (by omega)
    by_cases hP : P n = true
    · have hs1 : (⟨#[UInt8.ofNat (reg n).toNat]⟩ : ByteArray).size = 1 := rfl
      have hsz : (letT P n ++ (⟨#[UInt8.ofNat (reg n).toNat]⟩ : ByteArray)).size = (letT P n).size + 1 := by rw [ByteArray.size_append, hs1]
      have old : ∀ j, j < (letT P n).size → B (letT P n ++ (⟨#[UInt8.ofNat (reg n).toNat]⟩ : ByteArray)) j = B (letT P n) j := fun j hj => by
        rw [← B_get _ j (by rw [hsz]; omega), ← B_get _ j hj, ByteArray.getElem_append_left hj]
      have new : B (letT P n ++ (⟨#[UInt8.ofNat (reg n).toNat]⟩ : ByteArray)) (letT P n).size = reg n := by
        rw [← B_get _ _ (by rw [hsz]; omega), ByteArray.getElem_append_right (Nat.le_refl _)]
        simp only [Nat.sub_self]
        exact reg_back n (by omega)
      rw [letT_yes hP, hsz]
      refine ⟨fun j hj => ?_, fun i j hij hj => ?_⟩
      · by_cases e : j < (letT P n).size
        · obtain ⟨k, a, b, c⟩ := h1 j e
          exact ⟨k, by omega, b, by rw [old j e]; exact c⟩
        · have ej : j = (letT P n).size := by omega
          rw [ej, new]
          exact ⟨n, by omega, hP, rfl⟩
      · by_cases e : j < (letT P n).size
        · rw [old j e, old i (by omega)]
          exact h2 i j hij e
        · have ej : j = (letT P n).size := by omega
          rw [ej, new, old i (by omega)]
          obtain ⟨k, a, _, c⟩ := h1 i (by omega)
          rw [c]
          unfold reg
          repeat' split
          all_goals omega
    · have hP' : P n = false := by simpa using hP
      rw [letT_no hP']
      exact ⟨fun j hj => by
        obtain ⟨k, a, b, c⟩ := h1 j hj
        exact ⟨k, by omega, b, c⟩, h2⟩
/-- what stands among the live letters -/
theorem liveT_at {s : ByteArray} {i j : Nat} (hj : j < (liveT s i).size) : letB (B (liveT s i) j) = true ∧ Want (B s) (s.size / 4) (B (liveT s i) j) i := by
  obtain ⟨k, hk, h, e⟩ := (letT_rise (fun k => wantB (B s) (s.size / 4) (reg k) i) 52 (Nat.le_refl _)).1 j hj
  have e' : B (liveT s i) j = reg k := e
  rw [e']
  exact ⟨reg_let k hk, (wantB_iff _ _ _ _).1 h⟩
theorem liveT_inj {s : ByteArray} {i a b : Nat} (ha : a < (liveT s i).size) (hb : b < (liveT s i).size) (h : B (liveT s i) a = B (liveT s i) b) : a = b := by
  have r := (letT_rise (fun k => wantB (B s) (s.size / 4) (reg k) i) 52 (Nat.le_refl _)).2
  rcases Nat.lt_trichotomy a b with h1 | h1 | h1
  · have : B (liveT s i) a < B (liveT s i) b := r a b h1 hb
    omega
  · exact h1
  · have : B (liveT s i) b < B (liveT s i) a := r b a h1 ha
    omega
theorem liveT_has {s : ByteArray} {i : Nat} {v : Int} (hv : letB v = true) (h : Want (B s) (s.size / 4) v i) : ∃ j, j < (liveT s i).size ∧ B (liveT s i) j = v := by
  obtain ⟨k, hk, rfl⟩ := let_reg hv
  have aux : ∀ (P : Nat → Bool) n, n ≤ 52 → ∀ k, k < n → P k = true → ∃ j, j < (letT P n).size ∧ B (letT P n) j = reg k := by
    intro P n
    induction n with
    | zero => intro _ k hk; omega
    | succ n ih =>
      intro hn k hk hPk
      by_cases hP : P n = true
      · have hs1 : (⟨#[UInt8.ofNat (reg n).toNat]⟩ : ByteArray).size = 1 := rfl
        have hsz : (letT P n ++ (⟨#[UInt8.ofNat (reg n).toNat]⟩ : ByteArray)).size = (letT P n).size + 1 := by rw [ByteArray.size_append, hs1]
        rw [letT_yes hP, hsz]
        by_cases e : k = n
        · subst e
          refine ⟨(letT P k).size, by omega, ?_⟩
          rw [← B_get _ _ (by rw [hsz]; omega), ByteArray.getElem_append_right (Nat.le_refl _)]
          simp only [Nat.sub_self]
          exact reg_back k (by omega)
        · obtain ⟨j, hj, ej⟩ := ih (by omega) k (by omega) hPk
          refine ⟨j, by omega, ?_⟩
          rw [← B_get _ j (by rw [hsz]; omega), ByteArray.getElem_append_left hj, B_get _ j hj]
          exact ej
      · have hP' : P n = false := by simpa using hP
        rw [letT_no hP']
        by_cases e : k = n
        · subst e; exact absurd hPk hP
        · exact ih (by omega) k (by omega) hPk
  exact aux _ 52 (Nat.le_refl _) k hk ((wantB_iff _ _ _ _).2 h)
/-- the cell of two bytes -/
def cel (a b : Int) : Nat := a.toNat * 128 + b.toNat
theorem let_bounds {a : Int} (h : letB a = true) : 0 ≤ a ∧ a < 128 := by
  simp [letB, lowB, uppB] at h
  omega
theorem cel_inj {a b c d : Int} (ha : letB a = true) (hb : letB b = true) (hc : letB c = true) (hd : letB d = true) (h : cel a b = cel c d) : a = c ∧ b = d := by
  have p := let_bounds ha
  have q := let_bounds hb
  have r := let_bounds hc
  have t := let_bounds hd
  unfold cel at h
  omega
/-- the cells that the arguments which are live at the beginning set, up to place i and k -/
def P0 (s : ByteArray) (i k : Nat) (x : Nat) : Prop := ∃ a b, (a < i ∨ (a = i ∧ b < k)) ∧ a < (liveT s 0).size ∧ b < (liveT s 0).size ∧ a ≠ b ∧ x = cel (B (liveT s 0) a) (B (liveT s 0) b)
theorem P0_zero (s : ByteArray) (x : Nat) : ¬ P0 s 0 0 x := by
  rintro ⟨a, b, h, _⟩
  omega
theorem P0_skip (s : ByteArray) (i x : Nat) : P0 s i (i + 1) x ↔ P0 s i i x := by
  constructor
  · rintro ⟨a, b, h, h1, h2, h3, h4⟩
    exact ⟨a, b, by omega, h1, h2, h3, h4⟩
  · rintro ⟨a, b, h, h1, h2, h3, h4⟩
    exact ⟨a, b, by omega, h1, h2, h3, h4⟩
theorem P0_put {s : ByteArray} {i k : Nat} (hi : i < (liveT s 0).size) (hk : k < (liveT s 0).size) (hne : i ≠ k) (x : Nat) : P0 s i (k + 1) x ↔ (x = cel (B (liveT s 0) i) (B (liveT s 0) k) ∨ P0 s i k x) := by
  constructor
  · rintro ⟨a, b, h, h1, h2, h3, h4⟩
    by_cases e : a = i ∧ b = k
    · obtain ⟨rfl, rfl⟩ := e
      exact Or.inl h4
    · exact Or.inr ⟨a, b, by omega, h1, h2, h3, h4⟩
  · rintro (e | ⟨a, b, h, h1, h2, h3, h4⟩)
    · exact ⟨i, k, by omega, hi, hk, hne, e⟩
    · exact ⟨a, b, by omega, h1, h2, h3, h4⟩
theorem P0_next (s : ByteArray) (i x : Nat) : P0 s i (liveT s 0).size x ↔ P0 s (i + 1) 0 x := by
  constructor
  · rintro ⟨a, b, h, h1, h2, h3, h4⟩
    exact ⟨a, b, by omega, h1, h2, h3, h4⟩
  · rintro ⟨a, b, h, h1, h2, h3, h4⟩
    exact ⟨a, b, by omega, h1, h2, h3, h4⟩
/-- the cells that instruction i sets, up to place k -/
def P1 (s : ByteArray) (i k : Nat) (x : Nat) : Prop := wrAt (B s) (B s (4 * i + 1)) i = true ∧ ∃ b, b < k ∧ b < (liveT s (i + 1)).size ∧ B (liveT s (i + 1)) b ≠ B s (4 * i + 1) ∧ (x = cel (B s (4 * i + 1)) (B (liveT s (i + 1)) b) ∨ x = cel (B (liveT s (i + 1)) b) (B s (4 * i + 1)))
theorem P1_zero (s : ByteArray) (i x : Nat) : ¬ P1 s i 0 x := by
  rintro ⟨_, b, h, _⟩
  omega
theorem P1_skip {s : ByteArray} {i k : Nat} (h : B (liveT s (i + 1)) k = B s (4 * i + 1)) (x : Nat) : P1 s i (k + 1) x ↔ P1 s i k x := by
  constructor
  · rintro ⟨hw, b, h1, h2, h3, h4⟩
    by_cases e : b = k
    · subst e; exact absurd h h3
    · exact ⟨hw, b, by omega, h2, h3, h4⟩
  · rintro ⟨hw, b, h1, h2, h3, h4⟩
    exact ⟨hw, b, by omega, h2, h3, h4⟩
theorem P1_put {s : ByteArray} {i k : Nat} (hw : wrAt (B s) (B s (4 * i + 1)) i = true) (hk : k < (liveT s (i + 1)).size) (h : B (liveT s (i + 1)) k ≠ B s (4 * i + 1)) (x : Nat) : P1 s i (k + 1) x ↔ (x = cel (B (liveT s (i + 1)) k) (B s (4 * i + 1)) ∨ x = cel (B s (4 * i + 1)) (B (liveT s (i + 1)) k) ∨ P1 s i k x) := by
  constructor
  · rintro ⟨_, b, h1, h2, h3, h4⟩
    by_cases e : b = k
    · subst e
      rcases h4 with e | e
      · exact Or.inr (Or.inl e)
      · exact Or.inl e
    · exact Or.inr (Or.inr ⟨hw, b, by omega, h2, h3, h4⟩)
  · rintro (e | e | ⟨_, b, h1, h2, h3, h4⟩)
    · exact ⟨hw, k, by omega, hk, h, Or.inr e⟩
    · exact ⟨hw, k, by omega, hk, h, Or.inl e⟩
    · exact ⟨hw, b, by omega, h2, h3, h4⟩
/-- up to instruction i -/
def P2 (s : ByteArray) (i x : Nat) : Prop := P0 s (liveT s 0).size 0 x ∨ ∃ m, m < i ∧ P1 s m (liveT s (m + 1)).size x
theorem P2_next (s : ByteArray) (i x : Nat) : P2 s (i + 1) x ↔ (P2 s i x ∨ P1 s i (liveT s (i + 1)).size x) := by
  constructor
  · rintro (h | ⟨m, hm, h⟩)
    · exact Or.inl (Or.inl h)
    · by_cases e : m = i
      · subst e; exact Or.inr h
      · exact Or.inl (Or.inr ⟨m, by omega, h⟩)
  · rintro ((h | ⟨m, hm, h⟩) | h)
    · exact Or.inl h
    · exact Or.inr ⟨m, by omega, h⟩
    · exact Or.inr ⟨i, by omega, h⟩
end Sp
theorem put_iff {b : Bool} {y x : Nat} : (if x = y then true else b) = true ↔ (x = y ∨ b = true) := by
  by_cases e : x = y
  · simp [e]
  · simp [e]
theorem sl_ix (l : ByteArray) (j : Nat) (h : j < l.size) (W : World) : (Instr.index 9 (.string l) (.int .i64 (j : Int))).run Tryd.prog W = .ok (.int .u8 (Sp.B l j)) W := by
  rw [run_index_string W 9 l .i64 _ Tryd.underlying9, dif_pos (by omega)]
  exact congrArg (fun z => Result.ok (Value.int .u8 z) W) (Sp.B_get l j h)

set_option maxRecDepth 20000 in
set_option maxHeartbeats 4000000 in
theorem meets_any (s : ByteArray) (w : World) (hs : s.size ≤ 256) (hp : Sp.progB (Sp.B s) s.size 0 = true) :
    Calls Tryd.prog 57 #[.string s] w fun e w' => ∃ M, e = .returned (.agg (mtL M).toArray) ∧ (∀ x, M x = true ↔ Sp.P2 s (s.size / 4) x) ∧ Below w.heap.size w w' := by
  have hs' : s.size ≤ maxLen := by unfold maxLen; omega
  have hz := Sp.size_of_progB hp
  have HG := hid (Sp.good_of_progB hp)
  have HP := hid hp
  have hct := fun w => count_any s w hs'
  have HLV := hid (fun i (hi : i < s.size / 4) w => live_any s i w (by omega) HG.out hi)
  have HL0 := hid (HLV.out 0 (by omega))
  have hl0 : (Sp.liveT s 0).size ≤ 52 := Sp.letT_size _ 52
  have HA0 := hid (fun j (hj : j < (Sp.liveT s 0).size) => (Sp.liveT_at (s := s) (i := 0) hj).1)
  clear hp
  generalize hN : w.heap.size = N at *
  go_enter Tryd.func57, Tryd.ntmps57
  go_upto_region 2 with (refine wpList_alloc_mt rfl rfl ?_; first | (intro w1 hs1 hb1 hz1; rw [hN] at hs1 hb1 hz1; have HS1 := hid hs1; have HB1 := hid hb1; clear hs1 hb1) | (intro w2 hs2 hb2 hz2; rw [hz1] at hs2 hb2 hz2; have HS2 := hid hs2; have HB2 := hid hb2; clear hs2 hb2))
  have HSR := hid (HS1.out.of_block (HB2.out.block N (by omega)))
  have HBW := hid (HB1.out.trans (HB2.out.mono (by omega)))
  clear HS1 HB1 HB2
  obtain ⟨l0, hl0e⟩ : ∃ l, Sp.liveT s 0 = l := ⟨_, rfl⟩
  have HLE := hid hl0e
  rw [hl0e] at HL0 HA0 hl0
  have HPP := hid (show ∀ i k : Nat, i < l0.size → k < l0.size → i ≠ k → ∀ x, (Sp.P0 s i (k + 1) x ↔ (x = Sp.cel (Sp.B l0 i) (Sp.B l0 k) ∨ Sp.P0 s i k x)) from fun i k hi hk hne x => by
    subst hl0e
    exact Sp.P0_put hi hk hne x)
  have HPN := hid (fun i x => show Sp.P0 s i l0.size x ↔ Sp.P0 s (i + 1) 0 x by
    subst hl0e
    exact Sp.P0_next s i x)
  have HP2 := hid (show ∀ x, Sp.P2 s 0 x ↔ Sp.P0 s l0.size 0 x from fun x => by
    subst hl0e
    constructor
    · rintro (h | ⟨m, hm, _⟩)
      · exact h
      · omega
    · exact fun h => Or.inl h)
  clear hl0e
  go_upto_region 4 with (go_at_call 54; refine (HL0.out _).mono ?_; rintro e w3 ⟨rfl, hb3⟩; have HM3 := hid (HS2.out.of_block (hb3.block (N + 1) (by omega))); have HZ3 := hid (HSR.out.of_block (hb3.block N (by omega))); have HB3 := hid (HBW.out.trans (hb3.mono (by omega))); clear hb3)
  clear HS2 HSR HBW HL0
  go_loopw [5] (fun iv wr => ∃ (i : Nat) (M : Nat → Bool), i ≤ l0.size ∧ iv = .int .i64 i ∧ MtAt wr (N + 1) M ∧ (∀ x, M x = true ↔ Sp.P0 s i 0 x) ∧ MtAt wr N (fun _ => false) ∧ Below N w wr) (fun iv _ => l0.size - (intOf iv).toNat)
  case atStart => exact ⟨0, _, by omega, rfl, HM3.out, fun x => ⟨fun h => (by cases h), fun h => absurd h (Sp.P0_zero s x)⟩, HZ3.out, HB3.out⟩
  case round =>
    clear HM3 HZ3 HB3
    obtain ⟨i, M, hi, rfl, hM, hMx, hZ, hB⟩ := hrel
    have HM := hid hM
    have HMX := hid hMx
    have HZ := hid hZ
    have HB := hid hB
    clear hM hMx hZ hB
    by_cases hlt : i < l0.size
    · have hixi := sl_ix l0 i hlt
      have hli := Sp.let_bounds (HA0.out i hlt)
      obtain ⟨vi, hvi⟩ := Int.eq_ofNat_of_zero_le hli.1
      rw [hvi] at hixi hli
      have hvi128 : vi < 128 := by omega
      have HVI := hid hvi
      clear hvi hli
      go_wp2_with fail
      go_loopw [6] (fun kv wq => ∃ (k : Nat) (M : Nat → Bool), k ≤ l0.size ∧ kv = .int .i64 k ∧ MtAt wq (N + 1) M ∧ (∀ x, M x = true ↔ Sp.P0 s i k x) ∧ MtAt wq N (fun _ => false) ∧ Below N w wq) (fun kv _ => l0.size - (intOf kv).toNat)
      case atStart => exact ⟨0, _, by omega, rfl, HM.out, HMX.out, HZ.out, HB.out⟩
      case round =>
        clear HM HMX HZ HB
        obtain ⟨k, M', hk, rfl, hM, hMx, hZ, hB⟩ := hrel
        have HM := hid hM
        have HMX := hid hMx
        have HZ := hid hZ
        have HB := hid hB
        have hbl := hM.lt
        clear hMx hZ hB
        by_cases hkl : k < l0.size
        · by_cases hik : i = k
          · subst hik
            have he : ((i : Int) != (i : Int)) = false := by simp
            clear hM
            go_wp2_with fail
            go_roundw
            case rel => exact ⟨i + 1, M', by omega, by go_num, HM.out, fun x => (HMX.out x).trans (Sp.P0_skip s i x).symm, HZ.out, HB.out⟩
            case measure => simp [intOf]; omega
          · have he : ((i : Int) != (k : Int)) = true := by simp; omega
            have hixk := sl_ix l0 k hkl
            have hlk := Sp.let_bounds (HA0.out k hkl)
            obtain ⟨vk, hvk⟩ := Int.eq_ofNat_of_zero_le hlk.1
            rw [hvk] at hixk hlk
            have hvk128 : vk < 128 := by omega
            have HCE := hid (show Sp.cel (Sp.B l0 i) (Sp.B l0 k) = vi * 128 + vk by unfold Sp.cel; rw [HVI.out, hvk, Int.toNat_natCast, Int.toNat_natCast])
            have cc := World.rowIs.cell hM (i := vi * 128 + vk) (by omega)
            have fc := World.rowIs.frozen hM (vi * 128 + vk)
            clear hM hvk hlk
            go_wp2_with fail
            go_region
            all_goals
              go_wp2_with fail
              go_roundw
              case rel => exact ⟨k + 1, _, by omega, by go_num, (HM.out.put (vi * 128 + vk)).of_block rfl, fun x => by
                rw [put_iff, HPP.out i k hlt hkl hik x, HCE.out, HMX.out x], HZ.out.of_block (by rw [heap_drew, set_other (by omega)]), (HB.out.setCell (show N ≤ N + 1 by omega) _).drew⟩
              case measure => simp [intOf]; omega
        · have HK := hid (show k = l0.size by omega)
          clear hM
          go_wp2_with fail
          go_roundw
          case rel => exact ⟨i + 1, M', by omega, by go_num, HM.out, fun x => by rw [HMX.out x, HK.out]; exact HPN.out i x, HZ.out, HB.out⟩
          case measure => simp [intOf]; omega
    · have HI := hid (show i = l0.size by omega)
      have HMX0 := hid (show ∀ x, M x = true ↔ Sp.P2 s 0 x from fun x => by rw [HMX.out x, HI.out]; exact (HP2.out x).symm)
      clear HMX HPP HPN HP2 HA0
      go_upto_region 12 with fail
      go_loopw [7] (fun iv wr => ∃ (i : Nat) (M : Nat → Bool), i ≤ s.size / 4 ∧ iv = .int .i64 i ∧ MtAt wr (N + 1) M ∧ (∀ x, M x = true ↔ Sp.P2 s i x) ∧ MtAt wr N (fun _ => false) ∧ Below N w wr) (fun iv _ => s.size / 4 - (intOf iv).toNat)
      case atStart => exact ⟨0, M, by omega, rfl, HM.out, HMX0.out, HZ.out, HB.out⟩
      case round =>
        clear HM HMX0 HZ HB hi
        obtain ⟨i, M, hi, rfl, hM, hMx, hZ, hB⟩ := hrel
        have HM := hid hM
        have HMX := hid hMx
        have HZ := hid hZ
        have HB := hid hB
        clear hM hMx hZ hB
        by_cases hlt : i < s.size / 4
        · obtain ⟨x, hxe⟩ : ∃ x, s.extract (4 * i) (4 * i + 4) = x := ⟨_, rfl⟩
          have HX := Sp.insAt_ext s i (by omega)
          rw [hxe] at HX
          have hxs := HX.size
          have g1 := HX.get 1 (by omega)
          have HWR := hid (fun v w => writes_any x v w hxs)
          rw [HX.B0, HX.B1] at HWR
          have hix1 := sl_ix x 1 (by omega)
          rw [HX.B1] at hix1
          have hat := fun w => at_any s (i : Int) w hs' (by omega) (by omega)
          simp only [Int.toNat_natCast, hxe] at hat
          have HIB := Sp.ins_bytes (Sp.okIns_of_progB HP.out i hlt)
          have hdb := Sp.B_bd s (4 * i + 1)
          have HWE := hid (show Sp.wrB (Sp.B s (4 * i)) (Sp.B s (4 * i + 1)) (Sp.B s (4 * i + 1)) = Sp.wrAt (Sp.B s) (Sp.B s (4 * i + 1)) i from rfl)
          have hd128 : Sp.wrAt (Sp.B s) (Sp.B s (4 * i + 1)) i = true → Sp.B s (4 * i + 1) < 128 ∧ i + 1 < s.size / 4 := fun hw => by
            unfold Sp.wrAt Sp.wrB at hw
            simp only [Bool.and_eq_true, Bool.or_eq_true, beq_iff_eq] at hw
            have hw1 := hw.1
            have inner : i + 1 < s.size / 4 := by
              by_cases e : i = s.size / 4 - 1
              · have := HG.out.last
                rw [← e] at this
                simp only [Sp.endB, Bool.or_eq_true, beq_iff_eq] at this
                simp only [Sp.arithB, Bool.or_eq_true, beq_iff_eq] at hw1
                omega
              · omega
            refine ⟨?_, inner⟩
            rcases HIB with ⟨_, h, _⟩ | ⟨_, h, _⟩ | ⟨_, h, _⟩ | ⟨h, _⟩ | ⟨h, _⟩ | ⟨h, _⟩
            · exact h
            · exact h
            · exact h
            · simp only [Sp.arithB, Bool.or_eq_true, beq_iff_eq] at hw1; omega
            · simp only [Sp.arithB, Bool.or_eq_true, beq_iff_eq] at hw1; omega
            · simp only [Sp.arithB, Bool.or_eq_true, beq_iff_eq] at hw1; omega
          have HD128 := hid hd128
          clear HX HIB hd128 hxe
          cases hw : Sp.wrAt (Sp.B s) (Sp.B s (4 * i + 1)) i
          · have HWV := hid (fun w => HWR.out (Sp.B s (4 * i + 1)) w)
            rw [HWE.out, hw] at HWV
            have HN := hid (show ∀ y, Sp.P2 s (i + 1) y ↔ Sp.P2 s i y from fun y => by
              rw [Sp.P2_next]
              exact ⟨fun h => h.elim id (fun ⟨h1, _⟩ => by rw [hw] at h1; cases h1), Or.inl⟩)
            clear hw HWE HWR HD128
            generalize Sp.B s (4 * i + 1) = d at *
            go_wp2_with (first | (go_at_call 33; refine (hct _).mono ?_; rintro e w' ⟨rfl, rfl⟩) | (go_at_call 35; refine (hat _).mono ?_; rintro e w' ⟨rfl, rfl⟩) | (go_at_call 90; refine (HWV.out _).mono ?_; rintro e w' ⟨rfl, rfl⟩))
            go_roundw
            case rel => exact ⟨i + 1, M, by omega, by go_num, HM.out, fun y => (HMX.out y).trans (HN.out y).symm, HZ.out, HB.out⟩
            case measure => simp [intOf]; omega
          · have HWV := hid (fun w => HWR.out (Sp.B s (4 * i + 1)) w)
            rw [HWE.out, hw] at HWV
            obtain ⟨hdl, hi1⟩ := HD128.out hw
            have HLI := hid (HLV.out (i + 1) hi1)
            have hl1 : (Sp.liveT s (i + 1)).size ≤ 52 := Sp.letT_size _ 52
            have HLB := hid (fun j (hj : j < (Sp.liveT s (i + 1)).size) => (Sp.liveT_at (s := s) (i := i + 1) hj).1)
            have HSK := hid (fun k (h : Sp.B (Sp.liveT s (i + 1)) k = Sp.B s (4 * i + 1)) y => Sp.P1_skip (s := s) (i := i) (k := k) h y)
            have HPT := hid (fun k (hk : k < (Sp.liveT s (i + 1)).size) (h : Sp.B (Sp.liveT s (i + 1)) k ≠ Sp.B s (4 * i + 1)) y => Sp.P1_put (s := s) (i := i) (k := k) hw hk h y)
            have HNX := hid (fun y => Sp.P2_next s i y)
            clear hw HWE HWR HD128
            obtain ⟨d, hd⟩ := Int.eq_ofNat_of_zero_le hdb.1
            rw [hd] at HSK HPT hix1 HWV hdl g1
            clear hd hdb
            generalize Sp.liveT s (i + 1) = l1 at *
            have hwrap : IntKind.i64.wrap ((i : Int) + 1) = (i : Int) + 1 := IntWalk.i64_in _ (by omega)
            go_upto_region 18 with (first | (go_at_call 33; refine (hct _).mono ?_; rintro e w' ⟨rfl, rfl⟩) | (go_at_call 35; refine (hat _).mono ?_; rintro e w' ⟨rfl, rfl⟩) | (go_at_call 90; refine (HWV.out _).mono ?_; rintro e w' ⟨rfl, rfl⟩) | (go_at_call 54; refine (HLI.out _).mono ?_; rintro e w5 ⟨rfl, hb5⟩; have HM5 := hid (HM.out.of_block (hb5.block (N + 1) HM.out.lt)); have HZ5 := hid (HZ.out.of_block (hb5.block N HZ.out.lt)); have HB5 := hid (HB.out.trans (hb5.mono (by have := HB.out.size; omega))); clear hb5))
            clear HM HZ HB HLI
            go_loopw [9] (fun kv wq => ∃ (k : Nat) (M' : Nat → Bool), k ≤ l1.size ∧ kv = .int .i64 k ∧ MtAt wq (N + 1) M' ∧ (∀ y, M' y = true ↔ (Sp.P2 s i y ∨ Sp.P1 s i k y)) ∧ MtAt wq N (fun _ => false) ∧ Below N w wq) (fun kv _ => l1.size - (intOf kv).toNat)
            case atStart => exact ⟨0, M, by omega, rfl, HM5.out, fun y => ⟨fun h => Or.inl ((HMX.out y).1 h), fun h => h.elim (HMX.out y).2 (fun h => absurd h (Sp.P1_zero s i y))⟩, HZ5.out, HB5.out⟩
            case round =>
              clear HM5 HZ5 HB5
              obtain ⟨k, M', hk, rfl, hM, hMx, hZ, hB⟩ := hrel
              have HM := hid hM
              have HMK := hid hMx
              have HZ := hid hZ
              have HB := hid hB
              have hbl := hM.lt
              clear hMx hZ hB
              by_cases hkl : k < l1.size
              · have hixk := sl_ix l1 k hkl
                have hlk := Sp.let_bounds (HLB.out k hkl)
                obtain ⟨u, hu⟩ := Int.eq_ofNat_of_zero_le hlk.1
                have HSK' := hid (HSK.out k)
                have HPT' := hid (HPT.out k hkl)
                rw [hu] at hixk hlk HSK' HPT'
                have hu128 : u < 128 := by omega
                have hd128 : d < 128 := by omega
                by_cases hud : u = d
                · subst hud
                  have he : ((u : Int) != (u : Int)) = false := by simp
                  have HSY := hid (HSK'.out rfl)
                  clear hM hu hlk HSK' HPT'
                  go_wp2_with fail
                  go_quiet (fail)
                  go_wp2_with fail
                  go_roundw
                  case rel => exact ⟨k + 1, M', by omega, by go_num, HM.out.of_block rfl, fun y => by rw [HMK.out y, HSY.out y], HZ.out.of_block rfl, ⟨HB.out.os, HB.out.tape, HB.out.output, HB.out.size, HB.out.block⟩⟩
                  case measure => simp [intOf]; omega
                · have he : ((u : Int) != (d : Int)) = true := by simp; omega
                  have HPY := hid (HPT'.out (by omega))
                  have HC1 := hid (show Sp.cel (d : Int) (u : Int) = d * 128 + u by unfold Sp.cel; rw [Int.toNat_natCast, Int.toNat_natCast])
                  have HC2 := hid (show Sp.cel (u : Int) (d : Int) = u * 128 + d by unfold Sp.cel; rw [Int.toNat_natCast, Int.toNat_natCast])
                  have cc := World.rowIs.cell hM (i := d * 128 + u) (by omega)
                  have fc := World.rowIs.frozen hM (d * 128 + u)
                  clear hM hu hlk HSK' HPT'
                  go_wp2_with fail
                  go_quiet (fail)
                  go_wp2_with fail
                  go_region
                  all_goals
                    have HM1 := hid ((show MtAt (wr.drewN (nq + 1)) (N + 1) M' from HM.out).put (d * 128 + u))
                    have HZ1 := hid (HZ.out.of_block (w' := (wr.drewN (nq + 1)).setCell ⟨N + 1, d * 128 + u, none⟩ (.bool true)) (by rw [set_other (by omega)]; rfl))
                    have HB1 := hid ((show Below N w (wr.drewN (nq + 1)) from ⟨HB.out.os, HB.out.tape, HB.out.output, HB.out.size, HB.out.block⟩).setCell (p := ⟨N + 1, d * 128 + u, none⟩) (show N ≤ N + 1 by omega) (.bool true))
                    generalize (wr.drewN (nq + 1)).setCell ⟨N + 1, d * 128 + u, none⟩ (.bool true) = W1 at *
                    clear cc fc
                    have cc := World.rowIs.cell HM1.out (i := u * 128 + d) (by omega)
                    have fc := World.rowIs.frozen HM1.out (u * 128 + d)
                    have hbl1 := HM1.out.lt
                    go_wp2_with fail
                    go_region
                    all_goals
                      go_wp2_with fail
                      go_roundw
                      case rel => exact ⟨k + 1, _, by omega, by go_num, (HM1.out.put (u * 128 + d)).of_block rfl, fun y => by
                        rw [put_iff, put_iff, HMK.out y, HPY.out y, HC1.out, HC2.out]
                        constructor
                        · rintro (e | e | e | e)
                          · exact Or.inr (Or.inl e)
                          · exact Or.inr (Or.inr (Or.inl e))
                          · exact Or.inl e
                          · exact Or.inr (Or.inr (Or.inr e))
                        · rintro (e | e | e | e)
                          · exact Or.inr (Or.inr (Or.inl e))
                          · exact Or.inl e
                          · exact Or.inr (Or.inl e)
                          · exact Or.inr (Or.inr (Or.inr e)), HZ1.out.of_block (by rw [heap_drew, set_other (by omega)]), (HB1.out.setCell (show N ≤ N + 1 by omega) _).drew⟩
                      case measure => simp [intOf]; omega
              · have HK := hid (show k = l1.size by omega)
                clear hM
                go_wp2_with fail
                go_roundw
                case rel => exact ⟨i + 1, M', by omega, by go_num, HM.out, fun y => by rw [HMK.out y, HNX.out y, HK.out], HZ.out, HB.out⟩
                case measure => simp [intOf]; omega
        · have HI' := hid (show i = s.size / 4 by omega)
          go_wp2_with (first | (go_at_call 33; refine (hct _).mono ?_; rintro e w' ⟨rfl, rfl⟩) | (refine wpList_load_mt rfl (.tmp 3) rfl (N + 1) M (by rfl) HM.out ?_) | (refine wpList_store_mt rfl (.tmp 2) (.tmp 78) rfl N M _ (by rfl) (by rfl) HZ.out ?_; intro w12 hs12 ho12; have HS12 := hid hs12; have HO12 := hid ho12; clear hs12 ho12))
          refine bodyPost_ret (v := .agg (mtL M).toArray) (results_cell_one (q := 2) (a := ⟨N, 0, none⟩) rfl _ _ (by rfl) (run_loadVar_mt HS12.out)) (by rfl) ⟨M, rfl, fun y => by rw [HMX.out y, HI'.out], ?_⟩
          exact HB.out.trans (HO12.out.below (Nat.le_refl _))
end Go.Proofs.YtccndnckceagfaaDoorR
