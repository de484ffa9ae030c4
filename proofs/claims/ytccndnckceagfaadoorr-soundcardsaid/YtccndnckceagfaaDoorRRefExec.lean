/-
  A step of the document's own run of a machine program, whatever it is.
-/
import Derived.Test.YtccndnckceagfaaDoorRPSim
namespace Go.Proofs.YtccndnckceagfaaDoorR
open Go.RowKit

theorem two_str (t x : ByteArray) (o v : Int) (h : x = ⟨#[UInt8.ofNat o.toNat]⟩) : t ++ x ++ (⟨#[UInt8.ofNat v.toNat]⟩ : ByteArray) = t ++ ⟨#[UInt8.ofNat o.toNat, UInt8.ofNat v.toNat]⟩ := by
  subst h
  rw [ByteArray.append_assoc]
  rfl
theorem Sp.let_bd {a : Int} (h : Sp.letB a = true) : 0 ≤ a ∧ a < 128 := by
  simp [Sp.letB, Sp.lowB, Sp.uppB] at h
  omega
theorem Sp.reg_bd {k a : Int} (_hk : k ≤ 10) (h : Sp.regB a k = true) : 0 ≤ a ∧ a < 128 := by
  unfold Sp.regB at h
  split at h
  · exact Sp.let_bd h
  · simp only [Bool.and_eq_true, decide_eq_true_eq, Sp.digB] at h
    omega
theorem But.alloc {B p : Nat} {u v : World} (h : But B p u v) (hB : B ≤ v.heap.size) (X : Obj) : But B p u (v.alloc X) :=
  have hb := (Below.refl v.heap.size v).alloc (Nat.le_refl _) X
  ⟨hb.os.trans h.os, hb.tape.trans h.tape, hb.output.trans h.output, Nat.le_trans h.size hb.size, fun k hk hne => (hb.block k (by omega)).trans (h.block k hk hne)⟩

set_option maxRecDepth 20000 in
set_option maxHeartbeats 2000000 in
theorem frame_put (b : Nat) (s : ByteArray) (st : Sp.St) (x : ByteArray) (w : World) (hS : StAt w b s st) (hok : st.ok 100000000) (hx : x.size = 4) (ho : Sp.B x 0 = 62) (hx1 : x.extract 0 1 = ⟨#[UInt8.ofNat (62 : Int).toNat]⟩) (h1 : Sp.B x 1 < 128) (h2 : Sp.B x 2 < 128) (HL : Sp.letB (Sp.B x 1) = true) :
    Calls Tryd.prog 97 #[.pointer (some ⟨b, 0, none⟩), .string x] w fun e w' => e = .returned (.tuple #[]) ∧ StAt w' b s (Sp.frmS st 62 (Sp.B x 1) (Sp.B x 2)) ∧ But w.heap.size b w w' := by
  obtain ⟨p1, q1⟩ := Sp.B_bd x 1
  have g0 := Sp.B_get x 0 (by omega)
  have g1 := Sp.B_get x 1 (by omega)
  rw [ho] at g0
  obtain ⟨k1, e1⟩ := Int.eq_ofNat_of_zero_le p1
  rw [e1] at g1 h1 ⊢
  have hk1 : k1 < 128 := by omega
  have c1 := hS.hold k1 hk1
  have f1 := hS.free (1 + k1)
  obtain ⟨p2, q2⟩ := Sp.B_bd x 2
  have g2 := Sp.B_get x 2 (by omega)
  obtain ⟨k2, e2⟩ := Int.eq_ofNat_of_zero_le p2
  rw [e2] at g2 h2 ⊢
  have hk2 : k2 < 128 := by omega
  have c2 := hS.hold k2 hk2
  have htr := hok.trace
  have hbl := hS.lt
  have HX := hidd hx1
  have HS := hidd hS
  rw [e1] at HL
  have hcv := conv_at (k1 : Int) (by omega) (by omega)
  clear hS hok p1 q1 p2 q2 ho e1 e2 hx1
  go_enter Tryd.func97, Tryd.ntmps97
  go_wp2_with fail
  go_region
  all_goals
    go_wp2_with (go_at_call 103; refine (letter_any _ _).mono ?_; rintro e w' ⟨rfl, rfl⟩)
    have HS1 := hidd (show StAt ((w.setCell ⟨b, 1 + k1, none⟩ (.int .i64 (st.hold k2))).drew) b s { st with hold := Sp.upd st.hold k1 (st.hold k2) } from HS.out.setHold k1 hk1 _)
    have HB1 := hidd (show But w.heap.size b w ((w.setCell ⟨b, 1 + k1, none⟩ (.int .i64 (st.hold k2))).drew) from (But.set _ _).drew)
    have hz1 : ((w.setCell ⟨b, 1 + k1, none⟩ (.int .i64 (st.hold k2))).drew).heap.size = w.heap.size := by simp [World.setCell]
    generalize (w.setCell ⟨b, 1 + k1, none⟩ (.int .i64 (st.hold k2))).drew = W1 at *
    have ct := HS1.out.trace
    have ft := HS1.out.free 148
    have hbl1 : b < W1.heap.size := by rw [hz1]; exact hbl
    clear c1 f1
    go_region
    all_goals
      go_wp2_with fail
      go_end0
      refine ⟨rfl, ?_, ?_⟩
      · have e := two_str st.trace _ 62 (k1 : Int) HX.out
        simp only [Int.toNat_natCast] at e
        have e' : st.trace ++ (⟨#[62, UInt8.ofNat k1]⟩ : ByteArray) = st.trace ++ x.extract 0 1 ++ ⟨#[UInt8.ofNat k1]⟩ := e.symm
        have hT := HS1.out.setTrace (st.trace ++ x.extract 0 1 ++ ⟨#[UInt8.ofNat k1]⟩)
        have hS2 := hT.of_block (((Below.refl _ _).alloc (Nat.le_refl _) (.cells #[.int .u8 (k1 : Int)] 5)).block b (by simp [World.setCell]; omega))
        rw [Sp.frmS, if_pos rfl]
        simp only [Int.toNat_natCast]
        rw [e']
        exact hS2
      · exact ((HB1.out.trans (But.set _ _)).alloc (by simp [World.setCell]; omega) _).drew

set_option maxRecDepth 20000 in
set_option maxHeartbeats 2000000 in
theorem frame_get (b : Nat) (s : ByteArray) (st : Sp.St) (x : ByteArray) (w : World) (hS : StAt w b s st) (hok : st.ok 100000000) (hx : x.size = 4) (ho : Sp.B x 0 = 60) (hx1 : x.extract 0 1 = ⟨#[UInt8.ofNat (60 : Int).toNat]⟩) (h1 : Sp.B x 1 < 128) (h2 : Sp.B x 2 < 128) (HL : Sp.letB (Sp.B x 2) = true) :
    Calls Tryd.prog 97 #[.pointer (some ⟨b, 0, none⟩), .string x] w fun e w' => e = .returned (.tuple #[]) ∧ StAt w' b s (Sp.frmS st 60 (Sp.B x 1) (Sp.B x 2)) ∧ But w.heap.size b w w' := by
  obtain ⟨p1, q1⟩ := Sp.B_bd x 1
  have g0 := Sp.B_get x 0 (by omega)
  have g1 := Sp.B_get x 1 (by omega)
  rw [ho] at g0
  obtain ⟨k1, e1⟩ := Int.eq_ofNat_of_zero_le p1
  rw [e1] at g1 h1 ⊢
  have hk1 : k1 < 128 := by omega
  have c1 := hS.hold k1 hk1
  have f1 := hS.free (1 + k1)
  obtain ⟨p2, q2⟩ := Sp.B_bd x 2
  have g2 := Sp.B_get x 2 (by omega)
  obtain ⟨k2, e2⟩ := Int.eq_ofNat_of_zero_le p2
  rw [e2] at g2 h2 ⊢
  have hk2 : k2 < 128 := by omega
  have c2 := hS.hold k2 hk2
  have htr := hok.trace
  have hbl := hS.lt
  have HX := hidd hx1
  have HS := hidd hS
  rw [e2] at HL
  have hcv := conv_at (k2 : Int) (by omega) (by omega)
  clear hS hok p1 q1 p2 q2 ho e1 e2 hx1
  go_enter Tryd.func97, Tryd.ntmps97
  go_wp2_with fail
  go_region
  all_goals
    go_wp2_with (go_at_call 103; refine (letter_any _ _).mono ?_; rintro e w' ⟨rfl, rfl⟩)
    have HS1 := hidd (show StAt ((w.setCell ⟨b, 1 + k1, none⟩ (.int .i64 (st.hold k2))).drew) b s { st with hold := Sp.upd st.hold k1 (st.hold k2) } from HS.out.setHold k1 hk1 _)
    have HB1 := hidd (show But w.heap.size b w ((w.setCell ⟨b, 1 + k1, none⟩ (.int .i64 (st.hold k2))).drew) from (But.set _ _).drew)
    have hz1 : ((w.setCell ⟨b, 1 + k1, none⟩ (.int .i64 (st.hold k2))).drew).heap.size = w.heap.size := by simp [World.setCell]
    generalize (w.setCell ⟨b, 1 + k1, none⟩ (.int .i64 (st.hold k2))).drew = W1 at *
    have ct := HS1.out.trace
    have ft := HS1.out.free 148
    have hbl1 : b < W1.heap.size := by rw [hz1]; exact hbl
    clear c1 f1
    go_region
    all_goals
      go_wp2_with fail
      go_end0
      refine ⟨rfl, ?_, ?_⟩
      · have e := two_str st.trace _ 60 (k2 : Int) HX.out
        simp only [Int.toNat_natCast] at e
        have e' : st.trace ++ (⟨#[60, UInt8.ofNat k2]⟩ : ByteArray) = st.trace ++ x.extract 0 1 ++ ⟨#[UInt8.ofNat k2]⟩ := e.symm
        have hT := HS1.out.setTrace (st.trace ++ x.extract 0 1 ++ ⟨#[UInt8.ofNat k2]⟩)
        have hS2 := hT.of_block (((Below.refl _ _).alloc (Nat.le_refl _) (.cells #[.int .u8 (k2 : Int)] 5)).block b (by simp [World.setCell]; omega))
        rw [Sp.frmS, if_neg (by omega), if_pos rfl]
        simp only [Int.toNat_natCast]
        rw [e']
        exact hS2
      · exact ((HB1.out.trans (But.set _ _)).alloc (by simp [World.setCell]; omega) _).drew

set_option maxRecDepth 20000 in
set_option maxHeartbeats 2000000 in
theorem frame_clr (b : Nat) (s : ByteArray) (st : Sp.St) (x : ByteArray) (w : World) (hS : StAt w b s st) (hok : st.ok 100000000) (hx : x.size = 4) (ho : Sp.B x 0 = 126) (hx1 : x.extract 0 1 = ⟨#[UInt8.ofNat (126 : Int).toNat]⟩) (h1 : Sp.B x 1 < 128) :
    Calls Tryd.prog 97 #[.pointer (some ⟨b, 0, none⟩), .string x] w fun e w' => e = .returned (.tuple #[]) ∧ StAt w' b s (Sp.frmS st 126 (Sp.B x 1) (Sp.B x 2)) ∧ But w.heap.size b w w' := by
  obtain ⟨p1, q1⟩ := Sp.B_bd x 1
  have g0 := Sp.B_get x 0 (by omega)
  have g1 := Sp.B_get x 1 (by omega)
  rw [ho] at g0
  obtain ⟨k1, e1⟩ := Int.eq_ofNat_of_zero_le p1
  rw [e1] at g1 h1 ⊢
  have hk1 : k1 < 128 := by omega
  have c1 := hS.hold k1 hk1
  have f1 := hS.free (1 + k1)
  have htr := hok.trace
  have hbl := hS.lt
  have HX := hidd hx1
  have HS := hidd hS
  have hcv := conv_at (k1 : Int) (by omega) (by omega)
  clear hS hok p1 q1 ho e1 hx1
  cases HL : Sp.letB (k1 : Int)
  · have HLH := hid HL
    go_enter Tryd.func97, Tryd.ntmps97
    go_wp2_with (go_at_call 103; refine (letter_any _ _).mono ?_; rintro e w' ⟨rfl, rfl⟩)
    go_end0
    refine ⟨rfl, ?_, But.set _ _⟩
    rw [Sp.frmS, if_neg (by omega), if_neg (by omega), if_neg (by rw [HLH.out]; simp), Int.toNat_natCast]
    exact HS.out.setHold k1 hk1 0
  · have HLH := hid HL
    go_enter Tryd.func97, Tryd.ntmps97
    go_wp2_with (go_at_call 103; refine (letter_any _ _).mono ?_; rintro e w' ⟨rfl, rfl⟩)
    have HS1 := hidd (show StAt (w.setCell ⟨b, 1 + k1, none⟩ (.int .i64 0)) b s { st with hold := Sp.upd st.hold k1 (0) } from HS.out.setHold k1 hk1 _)
    have HB1 := hidd (show But w.heap.size b w (w.setCell ⟨b, 1 + k1, none⟩ (.int .i64 0)) from But.set _ _)
    have hz1 : (w.setCell ⟨b, 1 + k1, none⟩ (.int .i64 0)).heap.size = w.heap.size := by simp [World.setCell]
    generalize w.setCell ⟨b, 1 + k1, none⟩ (.int .i64 0) = W1 at *
    have ct := HS1.out.trace
    have ft := HS1.out.free 148
    have hbl1 : b < W1.heap.size := by rw [hz1]; exact hbl
    clear c1 f1
    go_region
    all_goals
      go_wp2_with fail
      go_end0
      refine ⟨rfl, ?_, ?_⟩
      · have e := two_str st.trace _ 126 (k1 : Int) HX.out
        simp only [Int.toNat_natCast] at e
        have e' : st.trace ++ (⟨#[126, UInt8.ofNat k1]⟩ : ByteArray) = st.trace ++ x.extract 0 1 ++ ⟨#[UInt8.ofNat k1]⟩ := e.symm
        have hT := HS1.out.setTrace (st.trace ++ x.extract 0 1 ++ ⟨#[UInt8.ofNat k1]⟩)
        have hS2 := hT.of_block (((Below.refl _ _).alloc (Nat.le_refl _) (.cells #[.int .u8 (k1 : Int)] 5)).block b (by simp [World.setCell]; omega))
        rw [Sp.frmS, if_neg (by omega), if_neg (by omega), if_pos HLH.out]
        simp only [Int.toNat_natCast]
        rw [e']
        exact hS2
      · exact ((HB1.out.trans (But.set _ _)).alloc (by simp [World.setCell]; omega) _).drew

set_option maxRecDepth 20000 in
set_option maxHeartbeats 2000000 in
theorem step_f (b : Nat) (s : ByteArray) (st : Sp.St) (i : Nat) (w : World) (hS : StAt w b s st) (hok : st.ok 100000000) (hs : s.size ≤ 4096) (hi : st.next = i) (hin : i < s.size / 4) (o : Int) (ho : Sp.B s (4 * i) = o) (hoo : o = 62 ∨ o = 60 ∨ o = 126)
    (hfr : ∀ (x : ByteArray) (w' : World), x.size = 4 → Sp.B x 0 = o → x.extract 0 1 = ⟨#[UInt8.ofNat o.toNat]⟩ → Sp.B x 1 = Sp.B s (4 * i + 1) → Sp.B x 2 = Sp.B s (4 * i + 2) → StAt w' b s { st with next := i + 1 } →
      Calls Tryd.prog 97 #[.pointer (some ⟨b, 0, none⟩), .string x] w' fun e w'' => e = .returned (.tuple #[]) ∧ StAt w'' b s (Sp.frmS { st with next := i + 1 } o (Sp.B s (4 * i + 1)) (Sp.B s (4 * i + 2))) ∧ But w'.heap.size b w' w'') :
    Calls Tryd.prog 70 #[.pointer (some ⟨b, 0, none⟩)] w fun e w' => e = .returned (.bool true) ∧ StAt w' b s (Sp.frmS { st with next := i + 1 } o (Sp.B s (4 * i + 1)) (Sp.B s (4 * i + 2))) ∧ But w.heap.size b w w' := by
  have hs' : s.size ≤ maxLen := by unfold maxLen; omega
  have cs := hS.s
  have cn := hS.next
  rw [hi] at cn
  have fn := hS.free 129
  have HS := hidd hS
  have HX := hidd (Sp.insAt_ext s i (by omega))
  have HXO := hidd (Sp.op_str s i (by omega))
  have HO := hidd ho
  have HFR := hidd hfr
  have hbl := hS.lt
  have htr := hok.trace
  clear hS hi ho hok hfr
  rcases hoo with rfl | rfl | rfl
  all_goals
    go_enter Tryd.func70, Tryd.ntmps70
    go_wp2_with fail
    go_quiet ((go_at_call 35; exact quiet_eq (at_any _ _ _ hs' (by omega) (by omega))))
    simp only [Int.toNat_natCast]
    obtain ⟨x, hxe⟩ : ∃ x, s.extract (4 * i) (4 * i + 4) = x := ⟨_, rfl⟩
    rw [hxe] at HXO ⊢
    have hx := HX.out
    rw [hxe] at hx
    have hxs := hx.size
    have g0 := hx.get0 (by omega)
    rw [HO.out] at g0
    have HSX := hidd hx
    have HXE := hidd hxe
    clear hxe hx HX
    go_wp2_with fail
    refine (HFR.out x _ hxs (by rw [HSX.out.B0, HO.out]) (by rw [HXO.out, HO.out]) HSX.out.B1 HSX.out.B2 ((HS.out.drewN nq).setNext _)).mono ?_
    rintro e w2 ⟨rfl, hS2, hb2⟩
    have HS2 := hidd hS2
    have hbs : ((w.drewN nq).setCell ⟨b, 129, none⟩ (.int .i64 ((i : Int) + 1))).heap.size = w.heap.size := by simp [World.setCell]
    rw [hbs] at hb2
    have HB2 := hidd ((((But.refl w.heap.size b w).drewN nq).trans (But.set _ _)).trans hb2)
    clear hS2 hb2 hbs
    go_wp2_with fail
    go_ret
    exact ⟨rfl, HS2.out, HB2.out⟩

theorem Sp.insB_of {k : Int} (hk0 : 0 ≤ k) (hk : k ≤ 10) {s : ByteArray} (hp : Sp.progB (Sp.B s) s.size k = true) {i : Nat} (hin : i < s.size / 4) (hne : ¬ (Sp.B s (4 * i) = 62 ∨ Sp.B s (4 * i) = 60 ∨ Sp.B s (4 * i) = 126)) : Sp.InsB (Sp.B s) (Sp.blocksTo (Sp.B s) (s.size / 4)) i := by
  have hok := Sp.okIns_of_progB hp i hin
  have fk := fun j hj => Sp.fit_of_okIns hok j hj
  have hdok : Sp.dokK k (Sp.B s) i = true := by
    have := hok
    rw [Sp.okK_eq _ _ k hk0, Bool.and_eq_true] at this
    exact this.1
  have hf := Sp.form_of hk0 hdok
  have dig : ∀ x : Int, Sp.digB x = true → 48 ≤ x ∧ x ≤ 57 := fun x h => by simpa [Sp.digB] using h
  unfold Sp.InsB
  generalize hI : Sp.insK k (Sp.B s) i = I at hf
  have h106 : Sp.B s (4 * i) = 106 → 49 ≤ Sp.B s (4 * i + 1) ∧ Sp.B s (4 * i + 1) ≤ 57 ∧ Sp.B s (4 * i + 1) - 48 < Sp.blocksTo (Sp.B s) (s.size / 4) := fun o => by
    have g := fk 0 (by omega)
    rw [o, Sp.shp_106, show Sp.B ⟨#[66, 46, 46]⟩ 0 = 66 from rfl] at g
    exact Sp.fit_B g
  have h63 : Sp.B s (4 * i) = 63 → (49 ≤ Sp.B s (4 * i + 2) ∧ Sp.B s (4 * i + 2) ≤ 57 ∧ Sp.B s (4 * i + 2) - 48 < Sp.blocksTo (Sp.B s) (s.size / 4)) ∧ (49 ≤ Sp.B s (4 * i + 3) ∧ Sp.B s (4 * i + 3) ≤ 57 ∧ Sp.B s (4 * i + 3) - 48 < Sp.blocksTo (Sp.B s) (s.size / 4)) := fun o => by
    have g1 := fk 1 (by omega)
    have g2 := fk 2 (by omega)
    rw [o, Sp.shp_63, show Sp.B ⟨#[82, 66, 66]⟩ 1 = 66 from rfl] at g1
    rw [o, Sp.shp_63, show Sp.B ⟨#[82, 66, 66]⟩ 2 = 66 from rfl] at g2
    exact ⟨Sp.fit_B g1, Sp.fit_B g2⟩
  generalize Sp.B s (4 * i) = o at *
  generalize Sp.B s (4 * i + 1) = a at *
  generalize Sp.B s (4 * i + 2) = b at *
  generalize Sp.B s (4 * i + 3) = d at *
  cases hf with
  | ar h ha hb hd => exact Or.inl ⟨h, (Sp.reg_bd hk ha).2, (Sp.reg_bd hk hb).2, (Sp.reg_bd hk hd).2⟩
  | num h ha hb hd => exact Or.inr (Or.inl ⟨h, (Sp.reg_bd hk ha).2, dig _ hb, dig _ hd⟩)
  | two h ha hb => exact Or.inr (Or.inr (Or.inl ⟨by omega, (Sp.reg_bd hk ha).2, (Sp.reg_bd hk hb).2⟩))
  | sto h ha hb => exact Or.inr (Or.inr (Or.inl ⟨by omega, (Sp.reg_bd hk ha).2, (Sp.reg_bd hk hb).2⟩))
  | jmp h ha => exact Or.inr (Or.inr (Or.inr (Or.inl ⟨h, h106 h⟩)))
  | cnd h ha hb hd => exact Or.inr (Or.inr (Or.inr (Or.inr (Or.inl ⟨h, (Sp.reg_bd hk ha).2, h63 h⟩))))
  | ret h ha _ => exact Or.inr (Or.inr (Or.inr (Or.inr (Or.inr ⟨h, (Sp.reg_bd hk ha).2⟩))))
  | put _ h => exact absurd (Or.inl h) hne
  | get _ h => exact absurd (Or.inr (Or.inl h)) hne
  | clrS _ h => exact absurd (Or.inr (Or.inr h)) hne
  | clrR _ h => exact absurd (Or.inr (Or.inr h)) hne

theorem Sp.frm_of {k : Int} (hk0 : 0 ≤ k) (hk : k ≤ 10) {s : ByteArray} (hp : Sp.progB (Sp.B s) s.size k = true) {i : Nat} (hin : i < s.size / 4) (hf : Sp.B s (4 * i) = 62 ∨ Sp.B s (4 * i) = 60 ∨ Sp.B s (4 * i) = 126) :
    Sp.B s (4 * i + 1) < 128 ∧ (Sp.B s (4 * i) ≠ 126 → Sp.B s (4 * i + 2) < 128) ∧ (Sp.B s (4 * i) = 62 → Sp.letB (Sp.B s (4 * i + 1)) = true) ∧ (Sp.B s (4 * i) = 60 → Sp.letB (Sp.B s (4 * i + 2)) = true) := by
  have hok := Sp.okIns_of_progB hp i hin
  have hdok : Sp.dokK k (Sp.B s) i = true := by
    have := hok
    rw [Sp.okK_eq _ _ k hk0, Bool.and_eq_true] at this
    exact this.1
  have hF := Sp.form_of hk0 hdok
  generalize Sp.insK k (Sp.B s) i = I at hF
  generalize Sp.B s (4 * i) = o at *
  generalize Sp.B s (4 * i + 1) = a at *
  generalize Sp.B s (4 * i + 2) = b at *
  generalize Sp.B s (4 * i + 3) = d at *
  cases hF with
  | ar h ha hb hd => simp only [Sp.arithB, Bool.or_eq_true, beq_iff_eq] at h; omega
  | num h => omega
  | two h => omega
  | sto h => omega
  | jmp h => omega
  | cnd h => omega
  | ret h => omega
  | put _ h ha hb => exact ⟨(Sp.let_bd ha).2, fun _ => (Sp.reg_bd hk hb).2, fun _ => ha, fun e => by omega⟩
  | get _ h ha hb => exact ⟨(Sp.reg_bd hk ha).2, fun _ => (Sp.let_bd hb).2, fun e => by omega, fun _ => hb⟩
  | clrS _ h ha => exact ⟨(Sp.let_bd ha).2, fun e => absurd h e, fun e => by omega, fun e => by omega⟩
  | clrR _ h ha => exact ⟨(Sp.reg_bd hk ha).2, fun e => absurd h e, fun e => by omega, fun e => by omega⟩

theorem step_anyU {k : Int} (hk0 : 0 ≤ k) (hk : k ≤ 10) (b : Nat) (s : ByteArray) (st : Sp.St) (i : Nat) (w : World) (hS : StAt w b s st) (hok : st.ok 100000000) (hs : s.size ≤ 4096) (hi : st.next = i) (hin : i < s.size / 4) (hp : Sp.progB (Sp.B s) s.size k = true) :
    Calls Tryd.prog 70 #[.pointer (some ⟨b, 0, none⟩)] w fun e w' => e = .returned (.bool (Sp.stepU s st i).2) ∧ StAt w' b s (Sp.stepU s st i).1 ∧ But w.heap.size b w w' := by
  by_cases hf : Sp.B s (4 * i) = 62 ∨ Sp.B s (4 * i) = 60 ∨ Sp.B s (4 * i) = 126
  · have e : Sp.stepU s st i = (Sp.frmS { st with next := i + 1 } (Sp.B s (4 * i)) (Sp.B s (4 * i + 1)) (Sp.B s (4 * i + 2)), true) := by
      unfold Sp.stepU
      rw [if_pos hf]
    rw [e]
    obtain ⟨f1, f2, f3, f4⟩ := Sp.frm_of hk0 hk hp hin hf
    refine step_f b s st i w hS hok hs hi hin (Sp.B s (4 * i)) rfl hf ?_
    intro x w' hx h0 h1 h2 h3 hS'
    have ok' : ({ st with next := (i : Int) + 1 } : Sp.St).ok 100000000 := ⟨hok.hold, hok.pub, hok.sec, hok.trace⟩
    rcases hf with e | e | e
    · rw [e] at h0 h1 f2 f3 ⊢
      rw [← h2, ← h3]
      exact frame_put b s _ x w' hS' ok' hx h0 h1 (by rw [h2]; exact f1) (by rw [h3]; exact f2 (by omega)) (by rw [h2]; exact f3 rfl)
    · rw [e] at h0 h1 f2 f4 ⊢
      rw [← h2, ← h3]
      exact frame_get b s _ x w' hS' ok' hx h0 h1 (by rw [h2]; exact f1) (by rw [h3]; exact f2 (by omega)) (by rw [h3]; exact f4 rfl)
    · rw [e] at h0 h1 ⊢
      rw [← h2, ← h3]
      exact frame_clr b s _ x w' hS' ok' hx h0 h1 (by rw [h2]; exact f1)
  · have e : Sp.stepU s st i = Sp.stepT s st i := by unfold Sp.stepU; rw [if_neg hf]
    rw [e]
    exact step_bytes b s st i w hS hok hs hi hin (Sp.insB_of hk0 hk hp hin hf)
namespace Sp
theorem frmS_ok {st : St} {m : Nat} (h : st.ok m) (o a b : Int) : (frmS st o a b).ok (m + 9) := by
  have two : ∀ x y : UInt8, (st.trace ++ (⟨#[x, y]⟩ : ByteArray)).size ≤ m + 9 := fun x y => by
    rw [ByteArray.size_append]
    have : (⟨#[x, y]⟩ : ByteArray).size = 2 := rfl
    have := h.trace
    omega
  have z : (0 : Int) ≤ 0 ∧ (0 : Int) ≤ 65535 := by omega
  unfold frmS
  split
  · exact ⟨upd_bd h.hold _ (h.hold _), h.pub, h.sec, two _ _⟩
  split
  · exact ⟨upd_bd h.hold _ (h.hold _), h.pub, h.sec, two _ _⟩
  split
  · exact ⟨upd_bd h.hold _ z, h.pub, h.sec, two _ _⟩
  · exact ⟨upd_bd h.hold _ z, h.pub, h.sec, Nat.le_trans h.trace (by omega)⟩
theorem stepU_ok {k : Int} (hk0 : 0 ≤ k) (hk : k ≤ 10) {s : ByteArray} {st : St} {i m : Nat} (h : st.ok m) (hp : progB (B s) s.size k = true) (hin : i < s.size / 4) : (stepU s st i).1.ok (m + 9) := by
  unfold stepU
  split
  · exact frmS_ok (st := { st with next := i + 1 }) ⟨h.hold, h.pub, h.sec, h.trace⟩ _ _ _
  · rename_i hf
    exact stepT_okB h (insB_of hk0 hk hp hin hf)
theorem stepU_next {k : Int} {s : ByteArray} {st : St} {i : Nat} (hp : progB (B s) s.size k = true) (hin : i < s.size / 4) (h : (stepU s st i).2 = true) : ∃ j, j < s.size / 4 ∧ (stepU s st i).1.next = (j : Int) := by
  unfold stepU at h ⊢
  split
  · rename_i hf
    refine ⟨i + 1, ?_, by rw [frmS_next]; rfl⟩
    have G := good_of_progB hp
    by_cases e : i = s.size / 4 - 1
    · have := G.last
      rw [← e] at this
      simp only [endB, Bool.or_eq_true, beq_iff_eq] at this
      omega
    · omega
  · rename_i hf
    rw [if_neg hf] at h
    exact stepT_next hp hin h
/-- the places of a machine program's arguments -/
def pM (j : Nat) : Nat := 48 + j
end Sp
theorem steps_mac {k : Int} (hk0 : 0 ≤ k) (hk : k ≤ 10) {s : ByteArray} (hs : s.size ≤ 4096) (hp : Sp.progB (Sp.B s) s.size k = true) : Steps s (Sp.stepU s) where
  call := fun b st i w hS hok hi hin => step_anyU hk0 hk b s st i w hS hok hs hi hin hp
  ok := fun _ _ _ h hi => Sp.stepU_ok hk0 hk h hp hi
  next := fun _ _ hi h => Sp.stepU_next hp hi h
theorem playedM (s : ByteArray) (I : Sp.Inp) (fuel : Int) (w : World) {k : Int} (hk0 : 0 ≤ k) (hk : k ≤ 10) (hs : s.size ≤ 4096) (hp : Sp.progB (Sp.B s) s.size k = true) (hm : Sp.mayB I fuel = true) :
    Calls Tryd.prog 40 #[.string s, .string ⟨#[48, 49, 50, 51]⟩, .agg (inA I), .int .i64 fuel] w fun e w' =>
      e = .returned (.pointer (some ⟨w.heap.size + 1, 0, none⟩)) ∧ StAt w' (w.heap.size + 1) s (Sp.runG (Sp.stepU s) fuel.toNat (Sp.start Sp.pM I.cut 4)) ∧ Below w.heap.size w w' := by
  have hfu := Sp.may_fuel hm
  have hz := Sp.size_of_progB hp
  have h := played_any s ⟨#[48, 49, 50, 51]⟩ Sp.pM I.cut fuel w (Sp.stepU s) (steps_mac hk0 hk hs hp) (by omega) rfl (fun j hj => by
    have hj' : j = 0 ∨ j = 1 ∨ j = 2 ∨ j = 3 := by have : j < 4 := hj; omega
    rcases hj' with rfl | rfl | rfl | rfl <;> rfl) (fun j hj => by unfold Sp.pM; omega) (cut_args I fuel hm) hfu.1 hfu.2
  rwa [inA_cut] at h
end Go.Proofs.YtccndnckceagfaaDoorR
