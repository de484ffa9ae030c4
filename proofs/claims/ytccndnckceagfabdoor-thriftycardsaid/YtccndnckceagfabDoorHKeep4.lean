/-
  What the statements without the document's answer do to their arguments: numbers folded into bounds; eight words against eight.
  An input whose numbers are folded into their bounds.
  Runs with more fuel; the smallest program: plain mathematics.
  The statement on runs with more fuel, walked.
-/
import Derived.Test.YtccndnckceagfabDoorG08
import Derived.Test.YtccndnckceagfabDoorG09
namespace Go.Proofs.YtccndnckceagfabDoor
open Go.RowKit
namespace Sp
/-- a number folded into 0 .. n - 1 -/
def pk (c n : Int) : Int := (if c < 0 then -(c + 1) else c) % n
theorem pk_bd (c n : Int) (hn : 1 ≤ n) : 0 ≤ pk c n ∧ pk c n < n := ⟨Int.emod_nonneg _ (by omega), Int.emod_lt_of_pos _ (by omega)⟩
/-- an input whose numbers are whole numbers of the machine -/
def Inp.wide (I : Inp) : Prop := ∀ j, j < 20 → -9223372036854775808 ≤ I.at' j ∧ I.at' j ≤ 9223372036854775807
/-- the first a arguments and the first b words of the memories are folded -/
def tmTo (I : Inp) (a b c : Nat) : Inp := ⟨fun k => if k < a then pk (I.args k) 65536 else I.args k, fun k => if k < b then pk (I.pub k) 65536 else I.pub k, fun k => if k < c then pk (I.sec k) 65536 else I.sec k⟩
def tm (I : Inp) : Inp := tmTo I 4 8 8
end Sp

set_option maxHeartbeats 400000 in
theorem pick_any (c n : Int) (w : World) (hc : -9223372036854775808 ≤ c ∧ c ≤ 9223372036854775807) (hn : 1 ≤ n ∧ n ≤ 1000000) :
    Calls Tryd.prog 7 #[.int .i64 c, .int .i64 n] w fun e w' => e = .returned (.int .i64 (Sp.pk c n)) ∧ w = w' := by
  have hn0 : n ≠ 0 := by omega
  by_cases h : c < 0
  · have HP := hid (show Sp.pk c n = (-(c + 1)) % n by unfold Sp.pk; rw [if_pos h])
    have he : Int.tmod (-(c + 1)) n = (-(c + 1)) % n := Int.tmod_eq_emod_of_nonneg (by omega)
    go_enter Tryd.func7, Tryd.ntmps7
    go_wp2_with fail
    go_ret
    refine ⟨ret_int ?_, rfl⟩
    rw [HP.out]
    first | rfl | (simp; omega) | skip
  · have HP := hid (show Sp.pk c n = c % n by unfold Sp.pk; rw [if_neg h])
    go_enter Tryd.func7, Tryd.ntmps7
    go_wp2_with fail
    go_ret
    refine ⟨ret_int ?_, rfl⟩
    rw [HP.out]
    first | rfl | (simp; omega) | skip

theorem karr_row (w : World) (f : Nat → Int) (t : Nat) : (w.alloc (.cells (arrL f).toArray t)).rowIs w.heap.size t 8 (fun j => .int .i64 (f j)) := by
  have h := World.rowIs_alloc w (arrL f).toArray t (fun j => .int .i64 (f j)) (fun r hr => by
    have hr' : r < 8 := by simpa [arrL_len] using hr
    rw [List.getElem?_toArray]
    exact arrL_at f r hr')
  have hs : (arrL f).toArray.size = 8 := by simp [arrL_len]
  rw [hs] at h
  exact h

end Go.Proofs.YtccndnckceagfabDoor

namespace Go.Proofs.YtccndnckceagfabDoor
open Go.RowKit
namespace Sp
theorem tm_args (I : Inp) (a b c j : Nat) (_hj : j < 4) : (tmTo I a b c).args j = if j < a then pk (I.args j) 65536 else I.args j := rfl
theorem at_args (I : Inp) (j : Nat) (hj : j < 4) : I.at' j = I.args j := by unfold Inp.at'; rw [if_pos hj]
theorem at_pub (I : Inp) (j : Nat) (hj : j < 8) : I.at' (4 + j) = I.pub j := by unfold Inp.at'; rw [if_neg (by omega), if_pos (by omega), Nat.add_sub_cancel_left]
theorem at_sec (I : Inp) (j : Nat) : I.at' (12 + j) = I.sec j := by unfold Inp.at'; rw [if_neg (by omega), if_neg (by omega), Nat.add_sub_cancel_left]
/-- one more argument is folded -/
theorem tm_step1 (I : Inp) (j : Nat) (hj : j < 4) (i : Nat) : (tmTo I (j + 1) 0 0).at' i = if i = j then pk (I.args j) 65536 else (tmTo I j 0 0).at' i := by
  unfold Inp.at' tmTo
  simp only
  by_cases e : i = j
  · subst e; rw [if_pos hj, if_pos (by omega), if_pos rfl]
  · rw [if_neg e]
    by_cases c : i < 4
    · rw [if_pos c, if_pos c]
      by_cases c2 : i < j
      · rw [if_pos (by omega), if_pos c2]
      · rw [if_neg (by omega), if_neg c2]
    · rw [if_neg c, if_neg c]
theorem tm_step2 (I : Inp) (j : Nat) (hj : j < 8) (i : Nat) : (tmTo I 4 (j + 1) j).at' i = if i = 4 + j then pk (I.pub j) 65536 else (tmTo I 4 j j).at' i := by
  unfold Inp.at' tmTo
  simp only
  by_cases e : i = 4 + j
  · subst e
    rw [if_neg (by omega), if_pos (by omega), Nat.add_sub_cancel_left, if_pos (by omega), if_pos rfl]
  · rw [if_neg e]
    by_cases c : i < 4
    · simp only [if_pos c]
    · rw [if_neg c, if_neg c]
      by_cases c2 : i < 12
      · rw [if_pos c2, if_pos c2]
        by_cases c3 : i - 4 < j
        · rw [if_pos (by omega), if_pos c3]
        · rw [if_neg (by omega), if_neg c3]
      · rw [if_neg c2, if_neg c2]
theorem tm_step3 (I : Inp) (j : Nat) (i : Nat) : (tmTo I 4 (j + 1) (j + 1)).at' i = if i = 12 + j then pk (I.sec j) 65536 else (tmTo I 4 (j + 1) j).at' i := by
  unfold Inp.at' tmTo
  simp only
  by_cases e : i = 12 + j
  · subst e
    rw [if_neg (by omega), if_neg (by omega), Nat.add_sub_cancel_left, if_pos (by omega), if_pos rfl]
  · rw [if_neg e]
    by_cases c : i < 4
    · simp only [if_pos c]
    · rw [if_neg c, if_neg c]
      by_cases c2 : i < 12
      · rw [if_pos c2, if_pos c2]
      · rw [if_neg c2, if_neg c2]
        by_cases c3 : i - 12 < j
        · rw [if_pos (by omega), if_pos c3]
        · rw [if_neg (by omega), if_neg c3]
end Sp
theorem in_set {w : World} {b t : Nat} {I J : Sp.Inp} (h : w.rowIs b t 20 (inF I)) (k : Nat) (x : Int) (e : ∀ i, J.at' i = if i = k then x else I.at' i) : (w.setCell ⟨b, k, none⟩ (.int .i64 x)).rowIs b t 20 (inF J) :=
  (h.set k _).congr fun j _ => by
    unfold inF
    rw [e j]
    split <;> rfl
def in0 : Sp.Inp := ⟨fun _ => 0, fun _ => 0, fun _ => 0⟩
theorem inL_one (I : Sp.Inp) : ∀ u ∈ (List.range 20).map (inF I), u.oneCell' = true := by
  intro u hu
  simp only [List.mem_map] at hu
  obtain ⟨r, _, rfl⟩ := hu
  rfl
end Go.Proofs.YtccndnckceagfabDoor

namespace Go.Proofs.YtccndnckceagfabDoor
open Go.RowKit
namespace Sp

theorem memO_tr (st : St) (o a b n : Int) (T : ByteArray) : ∃ t, (memO st o a b n T).trace = T ++ t := by
  unfold memO memS
  repeat' split
  all_goals first | exact ⟨⟨#[33]⟩, rfl⟩ | exact ⟨⟨#[]⟩, (ByteArray.append_empty).symm⟩
theorem stepT_tr (s : ByteArray) (st : St) (i : Nat) : ∃ t, (stepT s st i).1.trace = st.trace ++ t := by
  have em : ∀ t : ByteArray, t = t ++ ⟨#[]⟩ := fun t => (ByteArray.append_empty).symm
  unfold stepT
  split
  · exact ⟨_, em _⟩
  split
  · exact ⟨_, em _⟩
  split
  · split
    · exact ⟨_, rfl⟩
    · exact ⟨_, rfl⟩
  split
  · obtain ⟨t, h⟩ := memO_tr { st with next := (i : Int) + 1 } (B s (4 * i)) (B s (4 * i + 1)) (B s (4 * i + 2)) (st.hold (B s (4 * i + 2)).toNat) (st.trace ++ (s.extract (4 * i) (4 * i + 4)).extract 0 1 ++ ⟨(Lib.decDigits (st.hold (B s (4 * i + 2)).toNat).toNat).toArray⟩)
    exact ⟨_, by rw [h, ByteArray.append_assoc, ByteArray.append_assoc]⟩
  split
  · obtain ⟨t, h⟩ := memO_tr { st with next := (i : Int) + 1 } (B s (4 * i)) (B s (4 * i + 1)) (B s (4 * i + 2)) (st.hold (B s (4 * i + 1)).toNat) (st.trace ++ (s.extract (4 * i) (4 * i + 4)).extract 0 1 ++ ⟨(Lib.decDigits (st.hold (B s (4 * i + 1)).toNat).toNat).toArray⟩)
    exact ⟨_, by rw [h, ByteArray.append_assoc, ByteArray.append_assoc]⟩
  split
  · exact ⟨_, em _⟩
  split
  · exact ⟨_, em _⟩
  · exact ⟨_, em _⟩
theorem memO_end (st : St) (o a b n : Int) (T : ByteArray) (h : ¬ n < 8) : (memO st o a b n T).status = 1 := by
  unfold memO
  rw [if_neg h]
theorem stepT_end (s : ByteArray) (st : St) (i : Nat) (h : (stepT s st i).2 = false) : (stepT s st i).1.status ≠ 2 := by
  revert h
  unfold stepT
  split
  · intro _; show (0 : Int) ≠ 2; omega
  split
  · intro h; cases h
  split
  · split <;> (intro h; cases h)
  split
  · intro h; rw [memO_end _ _ _ _ _ _ (of_decide_eq_false h)]; omega
  split
  · intro h; rw [memO_end _ _ _ _ _ _ (of_decide_eq_false h)]; omega
  split
  · intro h; cases h
  split
  · intro h; cases h
  · intro h; cases h
theorem runG_tr (s : ByteArray) : ∀ (f : Nat) (st : St), ∃ t, (runG (stepT s) f st).trace = st.trace ++ t := by
  intro f
  induction f with
  | zero => intro st; exact ⟨⟨#[]⟩, (ByteArray.append_empty).symm⟩
  | succ f ih =>
    intro st
    simp only [runG]
    obtain ⟨t, h⟩ := stepT_tr s st st.next.toNat
    split
    · obtain ⟨u, hu⟩ := ih (stepT s st st.next.toNat).1
      exact ⟨t ++ u, by rw [hu, h, ByteArray.append_assoc]⟩
    · exact ⟨t, h⟩
/-- with more fuel -/
theorem runG_more (s : ByteArray) (d : Nat) : ∀ (f : Nat) (st : St), ((runG (stepT s) f st).status = 2 → ∃ t, (runG (stepT s) (f + d) st).trace = (runG (stepT s) f st).trace ++ t) ∧ ((runG (stepT s) f st).status ≠ 2 → runG (stepT s) (f + d) st = runG (stepT s) f st) := by
  intro f
  induction f with
  | zero =>
    intro st
    refine ⟨fun _ => ?_, fun h => absurd rfl h⟩
    rw [Nat.zero_add]
    exact runG_tr s d st
  | succ f ih =>
    intro st
    rw [show f + 1 + d = (f + d) + 1 by omega]
    simp only [runG]
    cases hb : (stepT s st st.next.toNat).2
    · rw [if_neg (by simp)]
      exact ⟨fun h => absurd h (stepT_end s st _ hb), fun _ => rfl⟩
    · rw [if_pos rfl, if_pos rfl]
      exact ih _

/-- the smallest program -/
def small : ByteArray := ⟨#[114, 97, 46, 46]⟩
theorem small_prog : progB (B small) small.size 0 = true := by decide
theorem small_want (v : Int) (k : Nat) (h : wantN (B small) 1 v k 0 = true) : v = 97 := by
  have hr : rdAt (B small) v 0 = (decide ((97 : Int) = v)) := by
    unfold rdAt rdB
    have b0 : B small (4 * 0) = 114 := by decide
    have b1 : B small (4 * 0 + 1) = 97 := by decide
    rw [b0, b1]
    simp [arithB]
    rfl
  have hn : nextL (B small) 1 0 = [] := by decide
  cases k with
  | zero =>
    simp only [wantN] at h
    rw [hr] at h
    exact (of_decide_eq_true h).symm
  | succ k =>
    simp only [wantN] at h
    rw [hr, hn] at h
    simp at h
    exact h.symm
theorem small_formed : FormedR small 0 := by
  refine Or.inr (Or.inr (Or.inr ⟨by decide, small_prog, ?_, rfl⟩))
  rintro ⟨v, _, ha, k, hk⟩
  have := small_want v k hk
  subst this
  exact absurd ha (by decide)
theorem tm_may (I : Inp) (n : Int) (h0 : 0 ≤ n) (h1 : n ≤ 20000) : mayB (tm I) n = true := by
  unfold mayB
  rw [Bool.and_eq_true]
  refine ⟨List.all_eq_true.2 fun j hj => ?_, decide_eq_true ⟨h0, h1⟩⟩
  have hj' := List.mem_range.1 hj
  have p := fun c => pk_bd c 65536 (by omega)
  unfold valB Inp.at' tm tmTo
  simp only
  refine decide_eq_true ?_
  by_cases c1 : j < 4
  · rw [if_pos c1, if_pos c1]; have := p (I.args j); omega
  · rw [if_neg c1]
    by_cases c2 : j < 12
    · rw [if_pos c2, if_pos (by omega)]; have := p (I.pub (j - 4)); omega
    · rw [if_neg c2, if_pos (by omega)]; have := p (I.sec (j - 12)); omega
/-- what Run tells where nothing is refused -/
theorem RunR.good {s : ByteArray} {I : Inp} {fuel : Int} {st : St} {e : Int} (h : RunR s I fuel st e) (hf : FormedR s 0) (hm : mayB I fuel = true) : e = 0 ∧ st = runG (stepT s) fuel.toNat (start pS I.cut 4) := by
  rcases h with ⟨a, b, c⟩ | ⟨a, b, c, d⟩ | ⟨a, b, c, d⟩
  · exact absurd (b.eq hf) a
  · rw [hm] at b; cases b
  · exact ⟨c, d⟩
theorem RunR.formed {s : ByteArray} {I : Inp} {fuel : Int} {st : St} {e : Int} (h : RunR s I fuel st e) (he : e = 0) : FormedR s 0 := by
  rcases h with ⟨a, b, c⟩ | ⟨a, b, c, d⟩ | ⟨a, b, c, d⟩
  · exact absurd he a
  · exact a
  · exact a
theorem small_run0 (I : Inp) : (runG (stepT small) 0 (start pS I 4)).status = 2 := rfl
theorem small_run1 (I : Inp) : (runG (stepT small) 1 (start pS I 4)).status = 0 ∧ (runG (stepT small) 1 (start pS I 4)).value = I.args 0 := by
  have b0 : B small (4 * 0) = 114 := by decide
  have b1 : B small (4 * 0 + 1) = 97 := by decide
  have e : stepT small (start pS I 4) 0 = ({ start pS I 4 with next := (0 : Nat) + 1, status := 0, value := (start pS I 4).hold (97 : Int).toNat }, false) := by
    unfold stepT
    rw [b0, b1, if_pos rfl]
  have e2 : runG (stepT small) 1 (start pS I 4) = (stepT small (start pS I 4) 0).1 := by
    show (if (stepT small (start pS I 4) (start pS I 4).next.toNat).2 = true then _ else _) = _
    have : (start pS I 4).next.toNat = 0 := rfl
    rw [this, e]
    rfl
  rw [e2, e]
  exact ⟨rfl, rfl⟩
end Sp
end Go.Proofs.YtccndnckceagfabDoor

namespace Go.Proofs.YtccndnckceagfabDoor
open Go.RowKit

theorem head_of {x : ByteArray} (t : ByteArray) : (x ++ t).extract 0 x.size = x := by
  refine Sp.ext_B (by rw [ByteArray.size_extract, ByteArray.size_append]; omega) fun j hj => ?_
  have h1 : j < x.size := by rw [ByteArray.size_extract, ByteArray.size_append] at hj; omega
  rw [← Sp.B_get _ j hj, ← Sp.B_get x j h1, ByteArray.getElem_extract]
  simp only [Nat.zero_add]
  rw [ByteArray.getElem_append_left h1]

end Go.Proofs.YtccndnckceagfabDoor
