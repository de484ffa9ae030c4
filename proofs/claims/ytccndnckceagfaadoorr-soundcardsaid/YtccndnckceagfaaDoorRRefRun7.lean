/-
  One step of the document's own run, further.
-/
import Derived.Test.YtccndnckceagfaaDoorRRefRun5
namespace Go.Proofs.YtccndnckceagfaaDoorR
open Go.RowKit

/-- .. and how it ends where it traps -/
def Sp.memO (st : Sp.St) (o a b n : Int) (T : ByteArray) : Sp.St := if n < 8 then Sp.memS st o a b n T else { Sp.memS st o a b n T with status := 1 }

set_option maxRecDepth 20000 in
set_option maxHeartbeats 2000000 in
theorem step_l (b : Nat) (s : ByteArray) (st : Sp.St) (i : Nat) (w : World) (hS : StAt w b s st) (hok : st.ok 100000000) (hs : s.size ≤ 4096) (hi : st.next = i) (hin : i < s.size / 4) (ho : Sp.B s (4 * i) = 108) (h1 : Sp.B s (4 * i + 1) < 128) (h2 : Sp.B s (4 * i + 2) < 128) :
    Calls Tryd.prog 70 #[.pointer (some ⟨b, 0, none⟩)] w fun e w' => e = .returned (.bool (decide (st.hold (Sp.B s (4 * i + 2)).toNat < 8))) ∧ StAt w' b s (Sp.memO { st with next := i + 1 } 108 (Sp.B s (4 * i + 1)) (Sp.B s (4 * i + 2)) (st.hold (Sp.B s (4 * i + 2)).toNat) (st.trace ++ (s.extract (4 * i) (4 * i + 4)).extract 0 1 ++ ⟨(Lib.decDigits (st.hold (Sp.B s (4 * i + 2)).toNat).toNat).toArray⟩)) ∧ But w.heap.size b w w' := by
  have hs' : s.size ≤ maxLen := by unfold maxLen; omega
  have cs := hS.s
  have cn := hS.next
  rw [hi] at cn
  have fn := hS.free 129
  have HS := hidd hS
  have HX := hidd (Sp.insAt_ext s i (by omega))
  have HO := hidd ho
  have HOK := hidd hok
  have hbl := hS.lt
  have htr := hok.trace
  clear hS hi ho hok
  go_enter Tryd.func70, Tryd.ntmps70
  go_wp2_with fail
  go_quiet ((go_at_call 35; exact quiet_eq (at_any _ _ _ hs' (by omega) (by omega))))
  simp only [Int.toNat_natCast]
  obtain ⟨x, hxe⟩ : ∃ x, s.extract (4 * i) (4 * i + 4) = x := ⟨_, rfl⟩
  rw [hxe]
  have hx := HX.out
  rw [hxe] at hx
  have hxs := hx.size
  have g0 := hx.get0 (by omega)
  have g1 := hx.get 1 (by omega)
  have g2 := hx.get 2 (by omega)
  have g3 := hx.get 3 (by omega)
  rw [HO.out] at g0
  have HSX := hidd hx
  have HXE := hidd hxe
  clear hxe hx HX g1 g2 g3
  go_wp2_with fail
  refine (memory_l b s { st with next := i + 1 } x _ ((HS.out.drewN nq).setNext _) ⟨HOK.out.hold, HOK.out.pub, HOK.out.sec, HOK.out.trace⟩ hxs (by rw [HSX.out.B0, HO.out]) (by rw [HSX.out.B1]; exact h1) (by rw [HSX.out.B2]; exact h2)).mono ?_
  rintro e w2 ⟨rfl, hS2, hb2⟩
  rw [HSX.out.B1, HSX.out.B2] at hS2
  have EV := hidd (show Sp.B x 2 = Sp.B s (4 * i + 2) from HSX.out.B2)
  rw [EV.out]
  have HS2 := hidd hS2
  have hbs : ((w.drewN nq).setCell ⟨b, 129, none⟩ (.int .i64 ((i : Int) + 1))).heap.size = w.heap.size := by simp [World.setCell]
  rw [hbs] at hb2
  have HB2 := hidd ((((But.refl w.heap.size b w).drewN nq).trans (But.set _ _)).trans hb2)
  have c0 := hS2.status
  have f0 := hS2.free 130
  clear hS2 hb2 hbs
  by_cases h8 : st.hold (Sp.B s (4 * i + 2)).toNat < 8
  · have hd : decide (st.hold (Sp.B s (4 * i + 2)).toNat < 8) = true := by simp [h8]
    have H8 := hidd h8
    clear h8
    go_wp2_with fail
    go_ret
    refine ⟨ret_bool (by have := H8.out; simp; omega), ?_, HB2.out⟩
    rw [Sp.memO, if_pos (by have := H8.out; omega), HXE.out]
    exact HS2.out
  · have hd : decide (st.hold (Sp.B s (4 * i + 2)).toNat < 8) = false := by simp [h8]
    have H8 := hidd h8
    clear h8
    go_wp2_with fail
    go_ret
    refine ⟨ret_bool (by have := H8.out; simp; omega), ?_, HB2.out.trans (But.set _ _)⟩
    rw [Sp.memO, if_neg (by have := H8.out; omega), HXE.out]
    exact HS2.out.setStatus _

set_option maxRecDepth 20000 in
set_option maxHeartbeats 2000000 in
theorem step_L (b : Nat) (s : ByteArray) (st : Sp.St) (i : Nat) (w : World) (hS : StAt w b s st) (hok : st.ok 100000000) (hs : s.size ≤ 4096) (hi : st.next = i) (hin : i < s.size / 4) (ho : Sp.B s (4 * i) = 76) (h1 : Sp.B s (4 * i + 1) < 128) (h2 : Sp.B s (4 * i + 2) < 128) :
    Calls Tryd.prog 70 #[.pointer (some ⟨b, 0, none⟩)] w fun e w' => e = .returned (.bool (decide (st.hold (Sp.B s (4 * i + 2)).toNat < 8))) ∧ StAt w' b s (Sp.memO { st with next := i + 1 } 76 (Sp.B s (4 * i + 1)) (Sp.B s (4 * i + 2)) (st.hold (Sp.B s (4 * i + 2)).toNat) (st.trace ++ (s.extract (4 * i) (4 * i + 4)).extract 0 1 ++ ⟨(Lib.decDigits (st.hold (Sp.B s (4 * i + 2)).toNat).toNat).toArray⟩)) ∧ But w.heap.size b w w' := by
  have hs' : s.size ≤ maxLen := by unfold maxLen; omega
  have cs := hS.s
  have cn := hS.next
  rw [hi] at cn
  have fn := hS.free 129
  have HS := hidd hS
  have HX := hidd (Sp.insAt_ext s i (by omega))
  have HO := hidd ho
  have HOK := hidd hok
  have hbl := hS.lt
  have htr := hok.trace
  clear hS hi ho hok
  go_enter Tryd.func70, Tryd.ntmps70
  go_wp2_with fail
  go_quiet ((go_at_call 35; exact quiet_eq (at_any _ _ _ hs' (by omega) (by omega))))
  simp only [Int.toNat_natCast]
  obtain ⟨x, hxe⟩ : ∃ x, s.extract (4 * i) (4 * i + 4) = x := ⟨_, rfl⟩
  rw [hxe]
  have hx := HX.out
  rw [hxe] at hx
  have hxs := hx.size
  have g0 := hx.get0 (by omega)
  have g1 := hx.get 1 (by omega)
  have g2 := hx.get 2 (by omega)
  have g3 := hx.get 3 (by omega)
  rw [HO.out] at g0
  have HSX := hidd hx
  have HXE := hidd hxe
  clear hxe hx HX g1 g2 g3
  go_wp2_with fail
  refine (memory_L b s { st with next := i + 1 } x _ ((HS.out.drewN nq).setNext _) ⟨HOK.out.hold, HOK.out.pub, HOK.out.sec, HOK.out.trace⟩ hxs (by rw [HSX.out.B0, HO.out]) (by rw [HSX.out.B1]; exact h1) (by rw [HSX.out.B2]; exact h2)).mono ?_
  rintro e w2 ⟨rfl, hS2, hb2⟩
  rw [HSX.out.B1, HSX.out.B2] at hS2
  have EV := hidd (show Sp.B x 2 = Sp.B s (4 * i + 2) from HSX.out.B2)
  rw [EV.out]
  have HS2 := hidd hS2
  have hbs : ((w.drewN nq).setCell ⟨b, 129, none⟩ (.int .i64 ((i : Int) + 1))).heap.size = w.heap.size := by simp [World.setCell]
  rw [hbs] at hb2
  have HB2 := hidd ((((But.refl w.heap.size b w).drewN nq).trans (But.set _ _)).trans hb2)
  have c0 := hS2.status
  have f0 := hS2.free 130
  clear hS2 hb2 hbs
  by_cases h8 : st.hold (Sp.B s (4 * i + 2)).toNat < 8
  · have hd : decide (st.hold (Sp.B s (4 * i + 2)).toNat < 8) = true := by simp [h8]
    have H8 := hidd h8
    clear h8
    go_wp2_with fail
    go_ret
    refine ⟨ret_bool (by have := H8.out; simp; omega), ?_, HB2.out⟩
    rw [Sp.memO, if_pos (by have := H8.out; omega), HXE.out]
    exact HS2.out
  · have hd : decide (st.hold (Sp.B s (4 * i + 2)).toNat < 8) = false := by simp [h8]
    have H8 := hidd h8
    clear h8
    go_wp2_with fail
    go_ret
    refine ⟨ret_bool (by have := H8.out; simp; omega), ?_, HB2.out.trans (But.set _ _)⟩
    rw [Sp.memO, if_neg (by have := H8.out; omega), HXE.out]
    exact HS2.out.setStatus _

set_option maxRecDepth 20000 in
set_option maxHeartbeats 2000000 in
theorem step_s (b : Nat) (s : ByteArray) (st : Sp.St) (i : Nat) (w : World) (hS : StAt w b s st) (hok : st.ok 100000000) (hs : s.size ≤ 4096) (hi : st.next = i) (hin : i < s.size / 4) (ho : Sp.B s (4 * i) = 115) (h1 : Sp.B s (4 * i + 1) < 128) (h2 : Sp.B s (4 * i + 2) < 128) :
    Calls Tryd.prog 70 #[.pointer (some ⟨b, 0, none⟩)] w fun e w' => e = .returned (.bool (decide (st.hold (Sp.B s (4 * i + 1)).toNat < 8))) ∧ StAt w' b s (Sp.memO { st with next := i + 1 } 115 (Sp.B s (4 * i + 1)) (Sp.B s (4 * i + 2)) (st.hold (Sp.B s (4 * i + 1)).toNat) (st.trace ++ (s.extract (4 * i) (4 * i + 4)).extract 0 1 ++ ⟨(Lib.decDigits (st.hold (Sp.B s (4 * i + 1)).toNat).toNat).toArray⟩)) ∧ But w.heap.size b w w' := by
  have hs' : s.size ≤ maxLen := by unfold maxLen; omega
  have cs := hS.s
  have cn := hS.next
  rw [hi] at cn
  have fn := hS.free 129
  have HS := hidd hS
  have HX := hidd (Sp.insAt_ext s i (by omega))
  have HO := hidd ho
  have HOK := hidd hok
  have hbl := hS.lt
  have htr := hok.trace
  clear hS hi ho hok
  go_enter Tryd.func70, Tryd.ntmps70
  go_wp2_with fail
  go_quiet ((go_at_call 35; exact quiet_eq (at_any _ _ _ hs' (by omega) (by omega))))
  simp only [Int.toNat_natCast]
  obtain ⟨x, hxe⟩ : ∃ x, s.extract (4 * i) (4 * i + 4) = x := ⟨_, rfl⟩
  rw [hxe]
  have hx := HX.out
  rw [hxe] at hx
  have hxs := hx.size
  have g0 := hx.get0 (by omega)
  have g1 := hx.get 1 (by omega)
  have g2 := hx.get 2 (by omega)
  have g3 := hx.get 3 (by omega)
  rw [HO.out] at g0
  have HSX := hidd hx
  have HXE := hidd hxe
  clear hxe hx HX g1 g2 g3
  go_wp2_with fail
  refine (memory_s b s { st with next := i + 1 } x _ ((HS.out.drewN nq).setNext _) ⟨HOK.out.hold, HOK.out.pub, HOK.out.sec, HOK.out.trace⟩ hxs (by rw [HSX.out.B0, HO.out]) (by rw [HSX.out.B1]; exact h1) (by rw [HSX.out.B2]; exact h2)).mono ?_
  rintro e w2 ⟨rfl, hS2, hb2⟩
  rw [HSX.out.B1, HSX.out.B2] at hS2
  have EV := hidd (show Sp.B x 1 = Sp.B s (4 * i + 1) from HSX.out.B1)
  rw [EV.out]
  have HS2 := hidd hS2
  have hbs : ((w.drewN nq).setCell ⟨b, 129, none⟩ (.int .i64 ((i : Int) + 1))).heap.size = w.heap.size := by simp [World.setCell]
  rw [hbs] at hb2
  have HB2 := hidd ((((But.refl w.heap.size b w).drewN nq).trans (But.set _ _)).trans hb2)
  have c0 := hS2.status
  have f0 := hS2.free 130
  clear hS2 hb2 hbs
  by_cases h8 : st.hold (Sp.B s (4 * i + 1)).toNat < 8
  · have hd : decide (st.hold (Sp.B s (4 * i + 1)).toNat < 8) = true := by simp [h8]
    have H8 := hidd h8
    clear h8
    go_wp2_with fail
    go_ret
    refine ⟨ret_bool (by have := H8.out; simp; omega), ?_, HB2.out⟩
    rw [Sp.memO, if_pos (by have := H8.out; omega), HXE.out]
    exact HS2.out
  · have hd : decide (st.hold (Sp.B s (4 * i + 1)).toNat < 8) = false := by simp [h8]
    have H8 := hidd h8
    clear h8
    go_wp2_with fail
    go_ret
    refine ⟨ret_bool (by have := H8.out; simp; omega), ?_, HB2.out.trans (But.set _ _)⟩
    rw [Sp.memO, if_neg (by have := H8.out; omega), HXE.out]
    exact HS2.out.setStatus _

set_option maxRecDepth 20000 in
set_option maxHeartbeats 2000000 in
theorem step_S (b : Nat) (s : ByteArray) (st : Sp.St) (i : Nat) (w : World) (hS : StAt w b s st) (hok : st.ok 100000000) (hs : s.size ≤ 4096) (hi : st.next = i) (hin : i < s.size / 4) (ho : Sp.B s (4 * i) = 83) (h1 : Sp.B s (4 * i + 1) < 128) (h2 : Sp.B s (4 * i + 2) < 128) :
    Calls Tryd.prog 70 #[.pointer (some ⟨b, 0, none⟩)] w fun e w' => e = .returned (.bool (decide (st.hold (Sp.B s (4 * i + 1)).toNat < 8))) ∧ StAt w' b s (Sp.memO { st with next := i + 1 } 83 (Sp.B s (4 * i + 1)) (Sp.B s (4 * i + 2)) (st.hold (Sp.B s (4 * i + 1)).toNat) (st.trace ++ (s.extract (4 * i) (4 * i + 4)).extract 0 1 ++ ⟨(Lib.decDigits (st.hold (Sp.B s (4 * i + 1)).toNat).toNat).toArray⟩)) ∧ But w.heap.size b w w' := by
  have hs' : s.size ≤ maxLen := by unfold maxLen; omega
  have cs := hS.s
  have cn := hS.next
  rw [hi] at cn
  have fn := hS.free 129
  have HS := hidd hS
  have HX := hidd (Sp.insAt_ext s i (by omega))
  have HO := hidd ho
  have HOK := hidd hok
  have hbl := hS.lt
  have htr := hok.trace
  clear hS hi ho hok
  go_enter Tryd.func70, Tryd.ntmps70
  go_wp2_with fail
  go_quiet ((go_at_call 35; exact quiet_eq (at_any _ _ _ hs' (by omega) (by omega))))
  simp only [Int.toNat_natCast]
  obtain ⟨x, hxe⟩ : ∃ x, s.extract (4 * i) (4 * i + 4) = x := ⟨_, rfl⟩
  rw [hxe]
  have hx := HX.out
  rw [hxe] at hx
  have hxs := hx.size
  have g0 := hx.get0 (by omega)
  have g1 := hx.get 1 (by omega)
  have g2 := hx.get 2 (by omega)
  have g3 := hx.get 3 (by omega)
  rw [HO.out] at g0
  have HSX := hidd hx
  have HXE := hidd hxe
  clear hxe hx HX g1 g2 g3
  go_wp2_with fail
  refine (memory_S b s { st with next := i + 1 } x _ ((HS.out.drewN nq).setNext _) ⟨HOK.out.hold, HOK.out.pub, HOK.out.sec, HOK.out.trace⟩ hxs (by rw [HSX.out.B0, HO.out]) (by rw [HSX.out.B1]; exact h1) (by rw [HSX.out.B2]; exact h2)).mono ?_
  rintro e w2 ⟨rfl, hS2, hb2⟩
  rw [HSX.out.B1, HSX.out.B2] at hS2
  have EV := hidd (show Sp.B x 1 = Sp.B s (4 * i + 1) from HSX.out.B1)
  rw [EV.out]
  have HS2 := hidd hS2
  have hbs : ((w.drewN nq).setCell ⟨b, 129, none⟩ (.int .i64 ((i : Int) + 1))).heap.size = w.heap.size := by simp [World.setCell]
  rw [hbs] at hb2
  have HB2 := hidd ((((But.refl w.heap.size b w).drewN nq).trans (But.set _ _)).trans hb2)
  have c0 := hS2.status
  have f0 := hS2.free 130
  clear hS2 hb2 hbs
  by_cases h8 : st.hold (Sp.B s (4 * i + 1)).toNat < 8
  · have hd : decide (st.hold (Sp.B s (4 * i + 1)).toNat < 8) = true := by simp [h8]
    have H8 := hidd h8
    clear h8
    go_wp2_with fail
    go_ret
    refine ⟨ret_bool (by have := H8.out; simp; omega), ?_, HB2.out⟩
    rw [Sp.memO, if_pos (by have := H8.out; omega), HXE.out]
    exact HS2.out
  · have hd : decide (st.hold (Sp.B s (4 * i + 1)).toNat < 8) = false := by simp [h8]
    have H8 := hidd h8
    clear h8
    go_wp2_with fail
    go_ret
    refine ⟨ret_bool (by have := H8.out; simp; omega), ?_, HB2.out.trans (But.set _ _)⟩
    rw [Sp.memO, if_neg (by have := H8.out; omega), HXE.out]
    exact HS2.out.setStatus _

end Go.Proofs.YtccndnckceagfaaDoorR
