/-
  The letters of a set of registers, the program's and the document's.
-/
import Derived.Test.YtccndnckceagfaaDoorRDev10
import Derived.Test.YtccndnckceagfaaDoorRRunA
namespace Go.Proofs.YtccndnckceagfaaDoorR
open Go.RowKit
namespace Sp
/-- the letters of a set of registers, in the order of their bytes; the first n looked at -/
def letT (S : Nat → Bool) : Nat → ByteArray
  | 0 => ⟨#[]⟩
  | n + 1 => if S n = true then letT S n ++ ⟨#[UInt8.ofNat (reg n).toNat]⟩ else letT S n
theorem letT_size (S : Nat → Bool) (n : Nat) : (letT S n).size ≤ n := by
  induction n with
  | zero => exact Nat.le_refl _
  | succ n ih =>
    simp only [letT]
    split
    · rw [ByteArray.size_append]
      have : (⟨#[UInt8.ofNat (reg n).toNat]⟩ : ByteArray).size = 1 := rfl
      omega
    · omega
theorem letT_congr {S T : Nat → Bool} (n : Nat) (h : ∀ k, k < n → S k = T k) : letT S n = letT T n := by
  induction n with
  | zero => rfl
  | succ n ih =>
    simp only [letT]
    rw [ih (fun k hk => h k (by omega)), h n (by omega)]
theorem letT_yes {S : Nat → Bool} {n : Nat} (h : S n = true) : letT S (n + 1) = letT S n ++ ⟨#[UInt8.ofNat (reg n).toNat]⟩ := by simp only [letT]; rw [if_pos h]
theorem letT_no {S : Nat → Bool} {n : Nat} (h : S n = false) : letT S (n + 1) = letT S n := by simp only [letT]; rw [if_neg (by rw [h]; simp)]
/-- the place of a register in the order of the bytes -/
def ord (n : Nat) : Nat := (26 + n) % 52
theorem letP_ord (n : Nat) (h : n < 52) : letP ((ord n : Nat) : Int) = reg n := by
  have : ∀ i : _root_.Fin 52, letP ((ord i.val : Nat) : Int) = reg i.val := by decide
  exact this ⟨n, h⟩
theorem rv_ord (n : Nat) (h : n < 52) : rv (ord n) = reg n := by
  have : ∀ i : _root_.Fin 52, rv (ord i.val) = reg i.val := by decide
  exact this ⟨n, h⟩
theorem reg_bd (n : Nat) (h : n < 52) : 0 ≤ reg n ∧ reg n ≤ 255 := by
  have : ∀ i : _root_.Fin 52, 0 ≤ reg i.val ∧ reg i.val ≤ 255 := by decide
  exact this ⟨n, h⟩
end Sp
theorem one_cell (v : Int) (h0 : 0 ≤ v) (h1 : v ≤ 255) : Lib.strCells ⟨#[UInt8.ofNat v.toNat]⟩ = [.int .u8 v] := by
  unfold Lib.strCells
  simp only [List.map_cons, List.map_nil]
  rw [u8_of v h0 h1]
theorem own_empty (w : World) : (w.alloc (.cells #[] 5)).ownsRow w.heap.size 5 1 (.slice (some ⟨w.heap.size, 0, none⟩) 0 0) 0 [] :=
  ⟨rfl, Or.inr ⟨w.heap.size, 0, #[], rfl, Nat.le_refl _, heap_alloc_new w _, Nat.le_refl _, by unfold maxLen; omega, rfl, rfl⟩⟩

set_option maxRecDepth 20000 in
set_option maxHeartbeats 2000000 in
theorem text_any (b o : Nat) (S : Nat → Bool) (w : World) (h : SetAt w b o S) :
    Calls Tryd.prog 53 #[.pointer (some ⟨b, o, none⟩)] w fun e w' => e = .returned (.string (Sp.letT (fun n => S (Sp.ord n)) 52)) ∧ Below w.heap.size w w' := by
  have hbl := h.lt
  have HS := hid h
  obtain ⟨i8, i1, i2, i3, i4⟩ := info_u8
  have HI := hid (And.intro i1 (And.intro i2 (And.intro i3 i4)))
  have HOE := hid (own_empty w)
  have HB0 := hid ((Below.refl w.heap.size w).alloc (Nat.le_refl _) (.cells #[] 5))
  clear h i1 i2 i3 i4
  obtain ⟨T, hT⟩ : ∃ T : Nat → Bool, (fun n => S (Sp.ord n)) = T := ⟨_, rfl⟩
  have HTT := hid (show ∀ n, T n = S (Sp.ord n) from fun n => by rw [← hT])
  rw [hT]
  clear hT
  generalize hN : w.heap.size = N at *
  go_enter Tryd.func53, Tryd.ntmps53
  go_wp2_with fail
  go_loopw [3, 4] (fun tv nv wr => ∃ n : Nat, n ≤ 52 ∧ nv = .int .i64 n ∧ wr.ownsRow N 5 1 tv (Sp.letT T n).size (Lib.strCells (Sp.letT T n)) ∧ Below N w wr) (fun _ nv _ => 52 - (intOf nv).toNat)
  case atStart => exact ⟨0, by omega, rfl, HOE.out, HB0.out⟩
  case round =>
    clear HOE HB0
    obtain ⟨n, hn, rfl, hown, hbel⟩ := hrel
    have HB := hid hbel
    have HO := hid hown
    have hsn : N ≤ wr.heap.size := by have := hbel.size; omega
    have htn := Sp.letT_size T n
    by_cases hlt : n < 52
    · have hmod : ((26 : Int) + (n : Int)).tmod 52 = ((Sp.ord n : Nat) : Int) := by
        rw [Int.tmod_eq_emod_of_nonneg (by omega)]
        unfold Sp.ord
        omega
      have HTN := hid (HTT.out n)
      have hr52 : Sp.ord n < 52 := Nat.mod_lt _ (by omega)
      have HLP := hid (Sp.letP_ord n hlt)
      generalize Sp.ord n = r at *
      have HHAS := hid (has_any b o S r wr (HS.out.of_block (hbel.block b (by omega))) hr52)
      cases hS : S r
      · have HN := hid (show T n = false by rw [HTN.out, hS])
        rw [hS] at HHAS
        clear hown hbel hS
        go_wp2_with (go_at_call 84; refine HHAS.out.mono ?_; rintro e w' ⟨rfl, rfl⟩)
        go_roundw
        case rel => exact ⟨n + 1, by omega, by go_num, by rw [Sp.letT_no HN.out]; exact HO.out, HB.out⟩
        case measure => simp [intOf]; omega
      · have HN := hid (show T n = true by rw [HTN.out, hS])
        rw [hS] at HHAS
        have HL := hid (lettr_any (r : Int) wr)
        rw [HLP.out] at HL
        have hreg := Sp.reg_bd n hlt
        have HOC := hid (one_cell (Sp.reg n) hreg.1 hreg.2)
        have HYS := hid (Sp.letT_yes HN.out)
        clear hown hbel hS
        generalize Sp.reg n = q at *
        have HB2 := hid (show Below wr.heap.size wr (wr.alloc (.cells #[.int .u8 q] 5)) from (Below.refl _ _).alloc (Nat.le_refl _) _)
        go_wp2_with (first | (go_at_call 84; refine HHAS.out.mono ?_; rintro e w' ⟨rfl, rfl⟩) | (go_at_call 85; refine HL.out.mono ?_; rintro e w' ⟨rfl, rfl⟩) | (at_builtin; refine wpList_append_own _ rfl (.tmp 17) (.tmp 20) 95 rfl N 5 i8 (.int .u8 0) 1 1 Tryd.underlying95 HI.out.1 HI.out.2.1 HI.out.2.2.1 HI.out.2.2.2 rfl (by decide) u3 (Sp.letT T n).size (Lib.strCells (Sp.letT T n)) (by simp [Act.eval]) (by exact own_below HO.out HB2.out) ⟨wr.heap.size, 0, none⟩ 1 1 [.int .u8 q] (by simp [Act.eval]) rfl (by exact alloc_at wr #[.int .u8 q] 5) (by intro u hu; rw [List.mem_singleton.1 hu]; rfl) (by unfold maxLen; omega) (by omega) (by simp; omega) ?_; intro v' w' hown hgrow _; have HO2 := hid hown; have HG2 := hid hgrow; clear hown hgrow))
        go_roundw
        case rel => exact ⟨n + 1, by omega, by go_num, by
          rw [HYS.out, ByteArray.size_append, strCells_append, HOC.out]
          exact HO2.out, (HB.out.trans (HB2.out.mono hsn)).trans ⟨HG2.out.os, HG2.out.tape, HG2.out.output, HG2.out.size, fun k hk => grown_old HO.out HG2.out (Or.inl hk) (by simp; omega)⟩⟩
        case measure => simp [intOf]; omega
    · have HN := hid (show n = 52 by omega)
      have hcv := conv_trace rfl hown
      clear hown hbel
      go_wp2_with fail
      go_ret
      exact ⟨ret_str (by rw [HN.out]), HB.out⟩
end Go.Proofs.YtccndnckceagfaaDoorR
