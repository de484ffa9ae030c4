/-
  One step of the document's own run.
-/
import Derived.Test.YtolhldbjfbkpiaaDoorRRefRun3
import Derived.Test.YtolhldbjfbkpiaaDoorRWant
namespace Go.Proofs.YtolhldbjfbkpiaaDoorR
open Go.RowKit

theorem StAt.drewN {w : World} {b : Nat} {s : ByteArray} {st : Sp.St} (h : StAt w b s st) (n : Nat) : StAt (w.drewN n) b s st := h
theorem StAt.drew {w : World} {b : Nat} {s : ByteArray} {st : Sp.St} (h : StAt w b s st) : StAt w.drew b s st := h
theorem But.drewN {B p : Nat} {u v : World} (h : But B p u v) (n : Nat) : But B p u (v.drewN n) := ⟨h.os, h.tape, h.output, h.size, h.block⟩

namespace Sp
/-- one step of a run at instruction i: the state behind it, and whether the run goes on -/
def stepS (c : Nat → Int) (n : Nat) (st : St) (i : Nat) (x0 : ByteArray) : St × Bool :=
  if c (4 * i) = 114 then ({ st with next := i + 1, status := 0, value := st.hold (c (4 * i + 1)).toNat }, false)
  else if c (4 * i) = 106 then ({ st with next := fst c n (c (4 * i + 1) - 48).toNat }, true)
  else if c (4 * i) = 63 then
    (if st.hold (c (4 * i + 1)).toNat ≠ 0 then ({ st with trace := st.trace ++ ⟨#[63, 49]⟩, next := fst c n (c (4 * i + 2) - 48).toNat }, true)
     else ({ st with trace := st.trace ++ ⟨#[63, 48]⟩, next := fst c n (c (4 * i + 3) - 48).toNat }, true))
  else if c (4 * i) = 108 ∨ c (4 * i) = 76 ∨ c (4 * i) = 115 ∨ c (4 * i) = 83 then
    (let v := st.hold (if c (4 * i) = 115 ∨ c (4 * i) = 83 then c (4 * i + 1) else c (4 * i + 2)).toNat
     let r := memS { st with next := i + 1 } (c (4 * i)) (c (4 * i + 1)) (c (4 * i + 2)) v (st.trace ++ x0 ++ ⟨(Lib.decDigits v.toNat).toArray⟩)
     if v < 8 then (r, true) else ({ r with status := 1 }, false))
  else if c (4 * i) = 35 then ({ st with next := i + 1, hold := upd st.hold (c (4 * i + 1)).toNat (10 * (c (4 * i + 2) - 48) + (c (4 * i + 3) - 48)) }, true)
  else if c (4 * i) = 61 then ({ st with next := i + 1, hold := upd st.hold (c (4 * i + 1)).toNat (st.hold (c (4 * i + 2)).toNat) }, true)
  else ({ st with next := i + 1, hold := upd st.hold (c (4 * i + 1)).toNat (cntS (c (4 * i)) (st.hold (c (4 * i + 2)).toNat) (st.hold (c (4 * i + 3)).toNat)) }, true)
end Sp

set_option maxRecDepth 20000 in
set_option maxHeartbeats 2000000 in
theorem step_r (b : Nat) (s : ByteArray) (st : Sp.St) (i : Nat) (w : World) (hS : StAt w b s st) (hok : st.ok 100000000) (hs : s.size ≤ 4096) (hi : st.next = i) (hin : i < s.size / 4) (ho : Sp.B s (4 * i) = 114) (h1 : Sp.B s (4 * i + 1) < 128) :
    Calls Tryd.prog 57 #[.pointer (some ⟨b, 0, none⟩)] w fun e w' => e = .returned (.bool false) ∧ StAt w' b s { st with next := i + 1, status := 0, value := st.hold (Sp.B s (4 * i + 1)).toNat } ∧ But w.heap.size b w w' := by
  have hs' : s.size ≤ maxLen := by unfold maxLen; omega
  have cs := hS.s
  have cn := hS.next
  rw [hi] at cn
  have fn := hS.free 129
  have HS := hidd hS
  have HX := hidd (Sp.insAt_ext s i (by omega))
  have HO := hidd ho
  have HOK := hidd hok
  have hbl := hS.lt
  have htr := hok.trace
  obtain ⟨p1, q1⟩ := Sp.B_bd s (4 * i + 1)
  obtain ⟨k1, e1⟩ := Int.eq_ofNat_of_zero_le p1
  have hk1 : k1 < 128 := by omega
  rw [e1, Int.toNat_natCast]
  have HE := hidd e1
  have ch := hS.hold k1 hk1
  have c0 := hS.status
  have f0 := hS.free 130
  have cv := hS.value
  have fv := hS.free 131
  clear e1 h1 p1 q1
  clear hS hi ho hok
  go_enter Tryd.func57, Tryd.ntmps57
  go_wp2_with fail
  go_quiet ((go_at_call 30; exact quiet_eq (at_any _ _ _ hs' (by omega) (by omega))))
  simp only [Int.toNat_natCast]
  obtain ⟨x, hxe⟩ : ∃ x, s.extract (4 * i) (4 * i + 4) = x := ⟨_, rfl⟩
  rw [hxe]
  have hx := HX.out
  rw [hxe] at hx
  have hxs := hx.size
  have g0 := hx.get0 (by omega)
  have g1 := hx.get 1 (by omega)
  have g2 := hx.get 2 (by omega)
  have g3 := hx.get 3 (by omega)
  rw [HO.out] at g0
  rw [HE.out] at g1
  clear hxe hx HX g2 g3
  go_wp2_with fail
  go_region
  all_goals
    go_wp2_with fail
    go_ret
    exact ⟨rfl, ((((HS.out.drewN nq).setNext _).setStatus _).setValue _).drew, (((((But.refl _ _ _).drewN nq).trans (But.set _ _)).trans (But.set _ _)).trans (But.set _ _)).drew⟩

set_option maxRecDepth 20000 in
set_option maxHeartbeats 2000000 in
theorem step_j (b : Nat) (s : ByteArray) (st : Sp.St) (i : Nat) (w : World) (hS : StAt w b s st) (hok : st.ok 100000000) (hs : s.size ≤ 4096) (hi : st.next = i) (hin : i < s.size / 4) (ho : Sp.B s (4 * i) = 106) (h1 : 48 ≤ Sp.B s (4 * i + 1)) (h2 : Sp.B s (4 * i + 1) - 48 ≤ Sp.blocksTo (Sp.B s) (s.size / 4)) :
    Calls Tryd.prog 57 #[.pointer (some ⟨b, 0, none⟩)] w fun e w' => e = .returned (.bool true) ∧ StAt w' b s { st with next := Sp.fst (Sp.B s) (s.size / 4) (Sp.B s (4 * i + 1) - 48).toNat } ∧ But w.heap.size b w w' := by
  have hs' : s.size ≤ maxLen := by unfold maxLen; omega
  have cs := hS.s
  have cn := hS.next
  rw [hi] at cn
  have fn := hS.free 129
  have HS := hidd hS
  have HX := hidd (Sp.insAt_ext s i (by omega))
  have HO := hidd ho
  have HOK := hidd hok
  have hbl := hS.lt
  have htr := hok.trace
  obtain ⟨p1, q1⟩ := Sp.B_bd s (4 * i + 1)
  have w1 : IntKind.u8.wrap (Sp.B s (4 * i + 1) - 48) = Sp.B s (4 * i + 1) - 48 := IntWalk.u8_in _ (by omega)
  have w2 : IntKind.i64.wrap (Sp.B s (4 * i + 1) - 48) = Sp.B s (4 * i + 1) - 48 := IntWalk.i64_in _ (by omega)
  clear hS hi ho hok
  go_enter Tryd.func57, Tryd.ntmps57
  go_wp2_with fail
  go_quiet ((go_at_call 30; exact quiet_eq (at_any _ _ _ hs' (by omega) (by omega))))
  simp only [Int.toNat_natCast]
  obtain ⟨x, hxe⟩ : ∃ x, s.extract (4 * i) (4 * i + 4) = x := ⟨_, rfl⟩
  rw [hxe]
  have hx := HX.out
  rw [hxe] at hx
  have hxs := hx.size
  have g0 := hx.get0 (by omega)
  have g1 := hx.get 1 (by omega)
  have g2 := hx.get 2 (by omega)
  have g3 := hx.get 3 (by omega)
  rw [HO.out] at g0
  clear hxe hx HX g2 g3
  go_wp2_with fail
  go_region_with (go_at_call 74; refine (first_any _ _ _ hs' (by omega) (by omega)).mono ?_; rintro e w' ⟨rfl, rfl⟩)
  all_goals
    go_wp2_with fail
    go_ret
    refine ⟨rfl, ?_, ?_⟩
    · exact (((HS.out.drewN nq).setNext _).setNext _).drew
    · exact ((((But.refl _ _ _).drewN nq).trans (But.set _ _)).trans (But.set _ _)).drew

end Go.Proofs.YtolhldbjfbkpiaaDoorR
