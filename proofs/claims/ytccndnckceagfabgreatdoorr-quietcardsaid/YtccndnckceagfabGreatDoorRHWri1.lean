/-
  The text of a machine program: the program's WriteMachine.
-/
import Derived.Test.YtccndnckceagfabGreatDoorRHWrt1
import Derived.Test.YtccndnckceagfabGreatDoorRG09
namespace Go.Proofs.YtccndnckceagfabGreatDoorR.Sp

/-- the bytes of one instruction -/
def wrI (i : Ins) : ByteArray := ⟨#[UInt8.ofNat i.o.toNat, UInt8.ofNat (giv i (B (shpK 1 i.o) 0)).toNat, UInt8.ofNat (giv i (B (shpK 1 i.o) 1)).toNat, UInt8.ofNat (giv i (B (shpK 1 i.o) 2)).toNat]⟩
def wrD : List Ins → ByteArray
  | [] => ⟨#[]⟩
  | i :: D => wrI i ++ wrD D
theorem wrD_app (D E : List Ins) : wrD (D ++ E) = wrD D ++ wrD E := by
  induction D with
  | nil => exact (ByteArray.empty_append).symm
  | cons i D ih =>
    show wrI i ++ wrD (D ++ E) = wrI i ++ wrD D ++ wrD E
    rw [ih, ByteArray.append_assoc]
theorem wrD_one (i : Ins) : wrD [i] = wrI i := ByteArray.append_empty
theorem wrI_size (i : Ins) : (wrI i).size = 4 := rfl
theorem wrD_size (D : List Ins) : (wrD D).size = 4 * D.length := by
  induction D with
  | nil => rfl
  | cons i D ih =>
    show (wrI i ++ wrD D).size = _
    rw [ByteArray.size_append, wrI_size, ih, List.length_cons]
    omega
theorem B_app_l (a b : ByteArray) (j : Nat) (h : j < a.size) : B (a ++ b) j = B a j := by
  unfold B
  have h' : j < a.data.size := h
  rw [ByteArray.data_append, Array.getD_eq_getD_getElem?, Array.getD_eq_getD_getElem?, Array.getElem?_append_left h']
theorem B_app_r (a b : ByteArray) (j : Nat) : B (a ++ b) (a.size + j) = B b j := by
  unfold B
  rw [ByteArray.data_append, Array.getD_eq_getD_getElem?, Array.getD_eq_getD_getElem?, show a.size + j = a.data.size + j from rfl, Array.getElem?_append_right (by omega), show a.data.size + j - a.data.size = j by omega]
/-- an instruction whose bytes are bytes -/
structure WOk (i : Ins) : Prop where
  o : 0 ≤ i.o ∧ i.o ≤ 255
  sh : (shpK 1 i.o).size = 3
  g : ∀ q, q < 3 → 0 ≤ giv i (B (shpK 1 i.o) q) ∧ giv i (B (shpK 1 i.o) q) ≤ 255
  n : 0 ≤ i.n ∧ i.n ≤ 99
theorem u8_back (v : Int) (h : 0 ≤ v ∧ v ≤ 255) : ((UInt8.ofNat v.toNat).toNat : Int) = v := by
  rw [UInt8.toNat_ofNat']
  omega
theorem wrI_B {i : Ins} (h : WOk i) : B (wrI i) 0 = i.o ∧ ∀ q, q < 3 → B (wrI i) (q + 1) = giv i (B (shpK 1 i.o) q) := by
  refine ⟨u8_back _ h.o, fun q hq => ?_⟩
  have : q = 0 ∨ q = 1 ∨ q = 2 := by omega
  rcases this with rfl | rfl | rfl
  · exact u8_back _ (h.g 0 (by omega))
  · exact u8_back _ (h.g 1 (by omega))
  · exact u8_back _ (h.g 2 (by omega))
theorem wrD_B : ∀ (D : List Ins) (j : Nat) (h : j < D.length), (∀ i ∈ D, WOk i) → B (wrD D) (4 * j) = D[j].o ∧ ∀ q, q < 3 → B (wrD D) (4 * j + q + 1) = giv D[j] (B (shpK 1 D[j].o) q)
  | [], j, h, _ => by cases h
  | i :: D, 0, _, hW => by
    obtain ⟨h1, h2⟩ := wrI_B (hW i (by simp))
    refine ⟨?_, fun q hq => ?_⟩
    · show B (wrI i ++ wrD D) 0 = i.o
      rw [B_app_l _ _ _ (by rw [wrI_size]; omega)]
      exact h1
    · show B (wrI i ++ wrD D) (4 * 0 + q + 1) = _
      rw [B_app_l _ _ _ (by rw [wrI_size]; omega), show 4 * 0 + q + 1 = q + 1 by omega]
      exact h2 q hq
  | i :: D, j + 1, h, hW => by
    have hj : j < D.length := by simpa using h
    obtain ⟨h1, h2⟩ := wrD_B D j hj (fun x hx => hW x (by simp [hx]))
    refine ⟨?_, fun q hq => ?_⟩
    · show B (wrI i ++ wrD D) (4 * (j + 1)) = D[j].o
      rw [show 4 * (j + 1) = (wrI i).size + 4 * j by rw [wrI_size]; omega, B_app_r]
      exact h1
    · show B (wrI i ++ wrD D) (4 * (j + 1) + q + 1) = _
      rw [show 4 * (j + 1) + q + 1 = (wrI i).size + (4 * j + q + 1) by rw [wrI_size]; omega, B_app_r]
      exact h2 q hq
theorem shp_same {k : Int} (hk : k ≠ 0) (o : Int) : shpK k o = shpK 1 o := by
  simp [shpK, hk]
theorem dgB_bd (n : Int) : 0 ≤ dgB n ∧ dgB n ≤ 255 := by
  unfold dgB
  split <;> omega
theorem plB_bd (p : Int) : 0 ≤ plB p ∧ plB p ≤ 255 := by
  unfold plB
  split
  · unfold letP
    split
    · exact B_bd _ _
    · omega
  · exact dgB_bd p
theorem giv_bd (i : Ins) {p : Int} (hp : 0 ≤ p ∧ p ≤ 255) : 0 ≤ giv i p ∧ giv i p ≤ 255 := by
  unfold giv
  repeat' split
  all_goals first | exact plB_bd _ | exact dgB_bd _ | exact hp
theorem MI.wok {k : Int} (_hk : 6 ≤ k ∧ k ≤ 10) {nb : Nat} {i : Ins} (h : MI k nb i) : WOk i := by
  have hb : ∀ i : Ins, ∀ q, q < 3 → 0 ≤ giv i (B (shpK 1 i.o) q) ∧ giv i (B (shpK 1 i.o) q) ≤ 255 := fun i q _ => giv_bd i (B_bd _ _)
  have hsh : ∀ o : Int, (arithB o = true ∨ o = 35 ∨ o = 61 ∨ o = 108 ∨ o = 76 ∨ o = 115 ∨ o = 83 ∨ o = 106 ∨ o = 63 ∨ o = 114 ∨ o = 62 ∨ o = 60 ∨ o = 126) → (0 ≤ o ∧ o ≤ 255) ∧ (shpK 1 o).size = 3 := by
    intro o ho
    rcases ho with ho | ho | ho | ho | ho | ho | ho | ho | ho | ho | ho | ho | ho
    · have := arith_ops ho
      refine ⟨by omega, ?_⟩
      rw [shp_ar ho]
      rfl
    all_goals (subst ho; exact ⟨by omega, by decide⟩)
  cases h with
  | ar o d x y ha hd hx hy => exact ⟨(hsh o (Or.inl ha)).1, (hsh o (Or.inl ha)).2, hb _, (show (0 : Int) ≤ 0 ∧ (0 : Int) ≤ 99 by decide)⟩
  | num d n hd hn => exact ⟨(hsh 35 (by simp)).1, (hsh 35 (by simp)).2, hb _, hn⟩
  | two o d x ho hd hx => exact ⟨(hsh o (by rcases ho with h | h | h <;> simp [h])).1, (hsh o (by rcases ho with h | h | h <;> simp [h])).2, hb _, (show (0 : Int) ≤ 0 ∧ (0 : Int) ≤ 99 by decide)⟩
  | sto o x y ho hx hy => exact ⟨(hsh o (by rcases ho with h | h <;> simp [h])).1, (hsh o (by rcases ho with h | h <;> simp [h])).2, hb _, (show (0 : Int) ≤ 0 ∧ (0 : Int) ≤ 99 by decide)⟩
  | jmp t ht => exact ⟨(hsh 106 (by simp)).1, (hsh 106 (by simp)).2, hb _, (show (0 : Int) ≤ 0 ∧ (0 : Int) ≤ 99 by decide)⟩
  | cnd x t u hx ht hu => exact ⟨(hsh 63 (by simp)).1, (hsh 63 (by simp)).2, hb _, (show (0 : Int) ≤ 0 ∧ (0 : Int) ≤ 99 by decide)⟩
  | ret => exact ⟨(hsh 114 (by simp)).1, (hsh 114 (by simp)).2, hb _, (show (0 : Int) ≤ 0 ∧ (0 : Int) ≤ 99 by decide)⟩
  | put d x hd hx => exact ⟨(hsh 62 (by simp)).1, (hsh 62 (by simp)).2, hb _, (show (0 : Int) ≤ 0 ∧ (0 : Int) ≤ 99 by decide)⟩
  | get d x hd hx => exact ⟨(hsh 60 (by simp)).1, (hsh 60 (by simp)).2, hb _, (show (0 : Int) ≤ 0 ∧ (0 : Int) ≤ 99 by decide)⟩
  | clr d hd => exact ⟨(hsh 126 (by simp)).1, (hsh 126 (by simp)).2, hb _, (show (0 : Int) ≤ 0 ∧ (0 : Int) ≤ 99 by decide)⟩
/-- what was written has the bytes -/
theorem wrD_bytes {k : Int} (hk : 6 ≤ k ∧ k ≤ 10) {nb : Nat} {D : List Ins} (h : ∀ i ∈ D, MI k nb i) : ∀ j (hj : j < D.length), Bytes (B (wrD D)) k j D[j] := by
  intro j hj
  obtain ⟨h1, h2⟩ := wrD_B D j hj (fun i hi => (h i hi).wok hk)
  exact ⟨h1, fun q hq => by rw [shp_same (show k ≠ 0 by omega)]; exact h2 q hq⟩
end Go.Proofs.YtccndnckceagfabGreatDoorR.Sp

namespace Go.Proofs.YtccndnckceagfabGreatDoorR
open Go.RowKit

set_option maxHeartbeats 400000 in
theorem digitByte_any (n : Int) (w : World) : Calls Tryz.prog 75 #[.int .i64 n] w fun e w' => e = .returned (.int .u8 (Sp.dgB n)) ∧ w = w' := by
  by_cases h0 : n < 0
  · have HE := hid (show Sp.dgB n = 46 by unfold Sp.dgB; rw [if_pos (Or.inl h0)])
    go_enter Tryz.func75, Tryz.ntmps75
    go_wp2_with fail
    go_ret
    exact ⟨by rw [HE.out]; rfl, rfl⟩
  by_cases h9 : 9 < n
  · have HE := hid (show Sp.dgB n = 46 by unfold Sp.dgB; rw [if_pos (Or.inr h9)])
    go_enter Tryz.func75, Tryz.ntmps75
    go_wp2_with fail
    go_ret
    exact ⟨by rw [HE.out]; rfl, rfl⟩
  · have HE := hid (show Sp.dgB n = 48 + n by unfold Sp.dgB; rw [if_neg (by omega)])
    have e3 : IntKind.u8.wrap (48 + n) = 48 + n := IntWalk.u8_in _ (by omega)
    go_enter Tryz.func75, Tryz.ntmps75
    go_wp2_with fail
    go_ret
    exact ⟨by rw [HE.out]; first | rfl | (rw [e3]) | (simp only [e3]), rfl⟩
set_option maxHeartbeats 400000 in
theorem placeByte_any (p : Int) (w : World) (hp : p ≤ 1000) : Calls Tryz.prog 74 #[.int .i64 p] w fun e w' => e = .returned (.int .u8 (Sp.plB p)) ∧ w = w' := by
  by_cases h : 10 ≤ p
  · have t1 : decide (10 ≤ p) = true := by simp [h]
    have HE := hid (show Sp.plB p = Sp.letP (p - 10) by unfold Sp.plB; rw [if_pos h])
    go_enter Tryz.func74, Tryz.ntmps74
    go_wp2_with (first | (go_at_call 67; refine (isSlot_any p _).mono ?_; rw [t1]; rintro e w2 ⟨rfl, rfl⟩) | (go_at_call 86; refine (lettr_any (p - 10) _).mono ?_; rintro e w2 ⟨rfl, rfl⟩))
    go_ret
    exact ⟨by rw [HE.out]; rfl, rfl⟩
  · have t1 : decide (10 ≤ p) = false := by simp; omega
    have HE := hid (show Sp.plB p = Sp.dgB p by unfold Sp.plB; rw [if_neg h])
    go_enter Tryz.func74, Tryz.ntmps74
    go_wp2_with (first | (go_at_call 67; refine (isSlot_any p _).mono ?_; rw [t1]; rintro e w2 ⟨rfl, rfl⟩) | (go_at_call 75; refine (digitByte_any p _).mono ?_; rintro e w2 ⟨rfl, rfl⟩))
    go_ret
    exact ⟨by rw [HE.out]; rfl, rfl⟩
end Go.Proofs.YtccndnckceagfabGreatDoorR
