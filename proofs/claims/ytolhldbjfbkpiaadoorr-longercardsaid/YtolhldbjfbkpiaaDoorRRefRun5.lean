/-
  One step of the document's own run, further.
-/
import Derived.Test.YtolhldbjfbkpiaaDoorRRefRun4
namespace Go.Proofs.YtolhldbjfbkpiaaDoorR
open Go.RowKit

set_option maxRecDepth 20000 in
set_option maxHeartbeats 2000000 in
theorem step_q1 (b : Nat) (s : ByteArray) (st : Sp.St) (i : Nat) (w : World) (hS : StAt w b s st) (hok : st.ok 100000000) (hs : s.size ≤ 4096) (hi : st.next = i) (hin : i < s.size / 4) (ho : Sp.B s (4 * i) = 63) (h1 : Sp.B s (4 * i + 1) < 128) (h2 : 48 ≤ Sp.B s (4 * i + 2)) (h3 : Sp.B s (4 * i + 2) - 48 ≤ Sp.blocksTo (Sp.B s) (s.size / 4)) (hv : st.hold (Sp.B s (4 * i + 1)).toNat ≠ 0) :
    Calls Tryd.prog 57 #[.pointer (some ⟨b, 0, none⟩)] w fun e w' => e = .returned (.bool true) ∧ StAt w' b s { st with trace := st.trace ++ ⟨#[63, 49]⟩, next := Sp.fst (Sp.B s) (s.size / 4) (Sp.B s (4 * i + 2) - 48).toNat } ∧ But w.heap.size b w w' := by
  have hs' : s.size ≤ maxLen := by unfold maxLen; omega
  have cs := hS.s
  have cn := hS.next
  rw [hi] at cn
  have fn := hS.free 129
  have HS := hidd hS
  have HX := hidd (Sp.insAt_ext s i (by omega))
  have HO := hidd ho
  have HOK := hidd hok
  have hbl := hS.lt
  have htr := hok.trace
  obtain ⟨p1, q1⟩ := Sp.B_bd s (4 * i + 1)
  obtain ⟨k1, e1⟩ := Int.eq_ofNat_of_zero_le p1
  have hk1 : k1 < 128 := by omega
  have HE1 := hidd e1
  have ch1 := hS.hold k1 hk1
  obtain ⟨p2, q2⟩ := Sp.B_bd s (4 * i + 2)
  have w2 : IntKind.u8.wrap (Sp.B s (4 * i + 2) - 48) = Sp.B s (4 * i + 2) - 48 := IntWalk.u8_in _ (by omega)
  have v2 : IntKind.i64.wrap (Sp.B s (4 * i + 2) - 48) = Sp.B s (4 * i + 2) - 48 := IntWalk.i64_in _ (by omega)
  rw [e1, Int.toNat_natCast] at hv
  have ct := hS.trace
  have ft := hS.free 148
  have hb : (st.hold k1 != 0) = true := by rw [bne_iff_ne]; exact hv
  have HV := hidd hv
  clear e1 h1 p1 q1 hv
  clear hS hi ho hok
  go_enter Tryd.func57, Tryd.ntmps57
  go_wp2_with fail
  go_quiet ((go_at_call 30; exact quiet_eq (at_any _ _ _ hs' (by omega) (by omega))))
  simp only [Int.toNat_natCast]
  obtain ⟨x, hxe⟩ : ∃ x, s.extract (4 * i) (4 * i + 4) = x := ⟨_, rfl⟩
  rw [hxe]
  have hx := HX.out
  rw [hxe] at hx
  have hxs := hx.size
  have g0 := hx.get0 (by omega)
  have g1 := hx.get 1 (by omega)
  have g2 := hx.get 2 (by omega)
  have g3 := hx.get 3 (by omega)
  rw [HO.out] at g0
  rw [HE1.out] at g1
  clear hxe hx HX
  go_wp2_with fail
  go_quiet (fail)
  go_wp2_with fail
  go_region_with (go_at_call 74; refine (first_any _ _ _ hs' (by omega) (by omega)).mono ?_; rintro e w' ⟨rfl, rfl⟩)
  all_goals
    go_wp2_with fail
    go_ret
    refine ⟨rfl, ?_, ?_⟩
    · exact ((((HS.out.drewN _).setNext _).setTrace _).setNext _)
    · exact ((((((But.refl _ _ _).drewN _).trans (But.set _ _)).drewN _).trans (But.set _ _)).trans (But.set _ _)).drew

set_option maxRecDepth 20000 in
set_option maxHeartbeats 2000000 in
theorem step_q0 (b : Nat) (s : ByteArray) (st : Sp.St) (i : Nat) (w : World) (hS : StAt w b s st) (hok : st.ok 100000000) (hs : s.size ≤ 4096) (hi : st.next = i) (hin : i < s.size / 4) (ho : Sp.B s (4 * i) = 63) (h1 : Sp.B s (4 * i + 1) < 128) (h2 : 48 ≤ Sp.B s (4 * i + 3)) (h3 : Sp.B s (4 * i + 3) - 48 ≤ Sp.blocksTo (Sp.B s) (s.size / 4)) (hv : st.hold (Sp.B s (4 * i + 1)).toNat = 0) :
    Calls Tryd.prog 57 #[.pointer (some ⟨b, 0, none⟩)] w fun e w' => e = .returned (.bool true) ∧ StAt w' b s { st with trace := st.trace ++ ⟨#[63, 48]⟩, next := Sp.fst (Sp.B s) (s.size / 4) (Sp.B s (4 * i + 3) - 48).toNat } ∧ But w.heap.size b w w' := by
  have hs' : s.size ≤ maxLen := by unfold maxLen; omega
  have cs := hS.s
  have cn := hS.next
  rw [hi] at cn
  have fn := hS.free 129
  have HS := hidd hS
  have HX := hidd (Sp.insAt_ext s i (by omega))
  have HO := hidd ho
  have HOK := hidd hok
  have hbl := hS.lt
  have htr := hok.trace
  obtain ⟨p1, q1⟩ := Sp.B_bd s (4 * i + 1)
  obtain ⟨k1, e1⟩ := Int.eq_ofNat_of_zero_le p1
  have hk1 : k1 < 128 := by omega
  have HE1 := hidd e1
  have ch1 := hS.hold k1 hk1
  obtain ⟨p3, q3⟩ := Sp.B_bd s (4 * i + 3)
  have w3 : IntKind.u8.wrap (Sp.B s (4 * i + 3) - 48) = Sp.B s (4 * i + 3) - 48 := IntWalk.u8_in _ (by omega)
  have v3 : IntKind.i64.wrap (Sp.B s (4 * i + 3) - 48) = Sp.B s (4 * i + 3) - 48 := IntWalk.i64_in _ (by omega)
  rw [e1, Int.toNat_natCast] at hv
  have ct := hS.trace
  have ft := hS.free 148
  have hb : (st.hold k1 != 0) = false := by rw [hv]; rfl
  have HV := hidd hv
  clear e1 h1 p1 q1 hv
  clear hS hi ho hok
  go_enter Tryd.func57, Tryd.ntmps57
  go_wp2_with fail
  go_quiet ((go_at_call 30; exact quiet_eq (at_any _ _ _ hs' (by omega) (by omega))))
  simp only [Int.toNat_natCast]
  obtain ⟨x, hxe⟩ : ∃ x, s.extract (4 * i) (4 * i + 4) = x := ⟨_, rfl⟩
  rw [hxe]
  have hx := HX.out
  rw [hxe] at hx
  have hxs := hx.size
  have g0 := hx.get0 (by omega)
  have g1 := hx.get 1 (by omega)
  have g2 := hx.get 2 (by omega)
  have g3 := hx.get 3 (by omega)
  rw [HO.out] at g0
  rw [HE1.out] at g1
  clear hxe hx HX
  go_wp2_with fail
  go_quiet (fail)
  go_wp2_with fail
  go_region_with (go_at_call 74; refine (first_any _ _ _ hs' (by omega) (by omega)).mono ?_; rintro e w' ⟨rfl, rfl⟩)
  all_goals
    go_wp2_with fail
    go_ret
    refine ⟨rfl, ?_, ?_⟩
    · exact ((((HS.out.drewN _).setNext _).setTrace _).setNext _)
    · exact ((((((But.refl _ _ _).drewN _).trans (But.set _ _)).drewN _).trans (But.set _ _)).trans (But.set _ _)).drew

set_option maxRecDepth 20000 in
set_option maxHeartbeats 2000000 in
theorem step_n (b : Nat) (s : ByteArray) (st : Sp.St) (i : Nat) (w : World) (hS : StAt w b s st) (hok : st.ok 100000000) (hs : s.size ≤ 4096) (hi : st.next = i) (hin : i < s.size / 4) (ho : Sp.B s (4 * i) = 35) (h1 : Sp.B s (4 * i + 1) < 128) (h2 : 48 ≤ Sp.B s (4 * i + 2) ∧ Sp.B s (4 * i + 2) ≤ 57) (h3 : 48 ≤ Sp.B s (4 * i + 3) ∧ Sp.B s (4 * i + 3) ≤ 57) :
    Calls Tryd.prog 57 #[.pointer (some ⟨b, 0, none⟩)] w fun e w' => e = .returned (.bool true) ∧ StAt w' b s { st with next := i + 1, hold := Sp.upd st.hold (Sp.B s (4 * i + 1)).toNat (10 * (Sp.B s (4 * i + 2) - 48) + (Sp.B s (4 * i + 3) - 48)) } ∧ But w.heap.size b w w' := by
  have hs' : s.size ≤ maxLen := by unfold maxLen; omega
  have cs := hS.s
  have cn := hS.next
  rw [hi] at cn
  have fn := hS.free 129
  have HS := hidd hS
  have HX := hidd (Sp.insAt_ext s i (by omega))
  have HO := hidd ho
  have HOK := hidd hok
  have hbl := hS.lt
  have htr := hok.trace
  obtain ⟨p1, q1⟩ := Sp.B_bd s (4 * i + 1)
  obtain ⟨k1, e1⟩ := Int.eq_ofNat_of_zero_le p1
  have hk1 : k1 < 128 := by omega
  have HE1 := hidd e1
  have ch1 := hS.hold k1 hk1
  obtain ⟨p2, q2⟩ := Sp.B_bd s (4 * i + 2)
  have w2 : IntKind.u8.wrap (Sp.B s (4 * i + 2) - 48) = Sp.B s (4 * i + 2) - 48 := IntWalk.u8_in _ (by omega)
  have v2 : IntKind.i64.wrap (Sp.B s (4 * i + 2) - 48) = Sp.B s (4 * i + 2) - 48 := IntWalk.i64_in _ (by omega)
  obtain ⟨p3, q3⟩ := Sp.B_bd s (4 * i + 3)
  have w3 : IntKind.u8.wrap (Sp.B s (4 * i + 3) - 48) = Sp.B s (4 * i + 3) - 48 := IntWalk.u8_in _ (by omega)
  have v3 : IntKind.i64.wrap (Sp.B s (4 * i + 3) - 48) = Sp.B s (4 * i + 3) - 48 := IntWalk.i64_in _ (by omega)
  have m1 : IntKind.i64.wrap (10 * (Sp.B s (4 * i + 2) - 48)) = 10 * (Sp.B s (4 * i + 2) - 48) := IntWalk.i64_in _ (by omega)
  have m2 : IntKind.i64.wrap (10 * (Sp.B s (4 * i + 2) - 48) + (Sp.B s (4 * i + 3) - 48)) = 10 * (Sp.B s (4 * i + 2) - 48) + (Sp.B s (4 * i + 3) - 48) := IntWalk.i64_in _ (by omega)
  have fh := hS.free (1 + k1)
  rw [e1, Int.toNat_natCast]
  clear e1 h1 p1 q1
  clear hS hi ho hok
  go_enter Tryd.func57, Tryd.ntmps57
  go_wp2_with fail
  go_quiet ((go_at_call 30; exact quiet_eq (at_any _ _ _ hs' (by omega) (by omega))))
  simp only [Int.toNat_natCast]
  obtain ⟨x, hxe⟩ : ∃ x, s.extract (4 * i) (4 * i + 4) = x := ⟨_, rfl⟩
  rw [hxe]
  have hx := HX.out
  rw [hxe] at hx
  have hxs := hx.size
  have g0 := hx.get0 (by omega)
  have g1 := hx.get 1 (by omega)
  have g2 := hx.get 2 (by omega)
  have g3 := hx.get 3 (by omega)
  rw [HO.out] at g0
  rw [HE1.out] at g1
  clear hxe hx HX
  go_wp2_with fail
  go_region
  all_goals
    go_wp2_with fail
    go_ret
    refine ⟨rfl, ?_, ?_⟩
    · exact (((HS.out.drewN _).setNext _).setHold k1 hk1 _)
    · exact ⟨rfl, rfl, rfl, by simp [World.setCell], fun k _ hk => by rw [heap_drew, set_other hk, set_other hk]; rfl⟩

set_option maxRecDepth 20000 in
set_option maxHeartbeats 2000000 in
theorem step_eq (b : Nat) (s : ByteArray) (st : Sp.St) (i : Nat) (w : World) (hS : StAt w b s st) (hok : st.ok 100000000) (hs : s.size ≤ 4096) (hi : st.next = i) (hin : i < s.size / 4) (ho : Sp.B s (4 * i) = 61) (h1 : Sp.B s (4 * i + 1) < 128) (h2 : Sp.B s (4 * i + 2) < 128) :
    Calls Tryd.prog 57 #[.pointer (some ⟨b, 0, none⟩)] w fun e w' => e = .returned (.bool true) ∧ StAt w' b s { st with next := i + 1, hold := Sp.upd st.hold (Sp.B s (4 * i + 1)).toNat (st.hold (Sp.B s (4 * i + 2)).toNat) } ∧ But w.heap.size b w w' := by
  have hs' : s.size ≤ maxLen := by unfold maxLen; omega
  have cs := hS.s
  have cn := hS.next
  rw [hi] at cn
  have fn := hS.free 129
  have HS := hidd hS
  have HX := hidd (Sp.insAt_ext s i (by omega))
  have HO := hidd ho
  have HOK := hidd hok
  have hbl := hS.lt
  have htr := hok.trace
  obtain ⟨p1, q1⟩ := Sp.B_bd s (4 * i + 1)
  obtain ⟨k1, e1⟩ := Int.eq_ofNat_of_zero_le p1
  have hk1 : k1 < 128 := by omega
  have HE1 := hidd e1
  have ch1 := hS.hold k1 hk1
  obtain ⟨p2, q2⟩ := Sp.B_bd s (4 * i + 2)
  obtain ⟨k2, e2⟩ := Int.eq_ofNat_of_zero_le p2
  have hk2 : k2 < 128 := by omega
  have HE2 := hidd e2
  have ch2 := hS.hold k2 hk2
  have fh := hS.free (1 + k1)
  rw [e1, e2, Int.toNat_natCast, Int.toNat_natCast]
  clear e1 h1 p1 q1 e2 h2 p2 q2
  clear hS hi ho hok
  go_enter Tryd.func57, Tryd.ntmps57
  go_wp2_with fail
  go_quiet ((go_at_call 30; exact quiet_eq (at_any _ _ _ hs' (by omega) (by omega))))
  simp only [Int.toNat_natCast]
  obtain ⟨x, hxe⟩ : ∃ x, s.extract (4 * i) (4 * i + 4) = x := ⟨_, rfl⟩
  rw [hxe]
  have hx := HX.out
  rw [hxe] at hx
  have hxs := hx.size
  have g0 := hx.get0 (by omega)
  have g1 := hx.get 1 (by omega)
  have g2 := hx.get 2 (by omega)
  have g3 := hx.get 3 (by omega)
  rw [HO.out] at g0
  rw [HE1.out] at g1
  rw [HE2.out] at g2
  clear hxe hx HX
  go_wp2_with fail
  go_region
  all_goals
    go_wp2_with fail
    go_ret
    refine ⟨rfl, ?_, ?_⟩
    · exact (((HS.out.drewN _).setNext _).setHold k1 hk1 _)
    · exact ⟨rfl, rfl, rfl, by simp [World.setCell], fun k _ hk => by rw [heap_drew, set_other hk, set_other hk]; rfl⟩

end Go.Proofs.YtolhldbjfbkpiaaDoorR
