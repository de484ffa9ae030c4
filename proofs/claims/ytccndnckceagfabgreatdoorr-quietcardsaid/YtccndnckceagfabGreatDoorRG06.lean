/-
  A run of steps, plain mathematics: values stay values, the next instruction is there.
  A whole run of the document's own.
-/
import Derived.Test.YtccndnckceagfabGreatDoorRG05
namespace Go.Proofs.YtccndnckceagfabGreatDoorR
open Go.RowKit
namespace Sp

theorem cntS_bd (o x y : Int) (_x0 : 0 ≤ x) (_y0 : 0 ≤ y) : 0 ≤ cntS o x y ∧ cntS o x y ≤ 65535 := by
  unfold cntS
  have h1 := bits_bd x y false 16
  have h2 := bits_bd x y true 16
  rw [show (2 : Int) ^ 16 = 65536 from rfl] at h1 h2
  repeat' split
  all_goals omega
theorem upd_bd {f : Nat → Int} (h : ∀ k, 0 ≤ f k ∧ f k ≤ 65535) (j : Nat) {v : Int} (hv : 0 ≤ v ∧ v ≤ 65535) : ∀ k, 0 ≤ upd f j v k ∧ upd f j v k ≤ 65535 := by
  intro k
  unfold upd
  split
  · exact hv
  · exact h k
theorem dec_sz (n : Nat) (h : n ≤ 1000000) : (⟨(Lib.decDigits n).toArray⟩ : ByteArray).size ≤ 7 := by
  have := dec_len7 n h
  have e : (⟨(Lib.decDigits n).toArray⟩ : ByteArray).size = (Lib.decDigits n).length := by simp [ByteArray.size]
  omega
theorem memO_ok {st : St} {m : Nat} (h : st.ok m) (o a b n : Int) (_hn : 0 ≤ n) (T : ByteArray) (hT : T.size ≤ m + 8) : (memO st o a b n T).ok (m + 9) := by
  have hb : (T ++ (⟨#[33]⟩ : ByteArray)).size ≤ m + 9 := by
    rw [ByteArray.size_append]
    have : (⟨#[33]⟩ : ByteArray).size = 1 := rfl
    omega
  unfold memO memS
  split
  · split
    · exact ⟨h.hold, h.pub, h.sec, hb⟩
    · split
      · exact ⟨upd_bd h.hold _ (h.pub _), h.pub, h.sec, by show T.size ≤ m + 9; omega⟩
      · split
        · exact ⟨upd_bd h.hold _ (h.sec _), h.pub, h.sec, by show T.size ≤ m + 9; omega⟩
        · split
          · exact ⟨h.hold, upd_bd h.pub _ (h.hold _), h.sec, by show T.size ≤ m + 9; omega⟩
          · exact ⟨h.hold, h.pub, upd_bd h.sec _ (h.hold _), by show T.size ≤ m + 9; omega⟩
  · split
    · exact ⟨h.hold, h.pub, h.sec, hb⟩
    · split
      · exact ⟨upd_bd h.hold _ (h.pub _), h.pub, h.sec, by show T.size ≤ m + 9; omega⟩
      · split
        · exact ⟨upd_bd h.hold _ (h.sec _), h.pub, h.sec, by show T.size ≤ m + 9; omega⟩
        · split
          · exact ⟨h.hold, upd_bd h.pub _ (h.hold _), h.sec, by show T.size ≤ m + 9; omega⟩
          · exact ⟨h.hold, h.pub, upd_bd h.sec _ (h.hold _), by show T.size ≤ m + 9; omega⟩
theorem memO_next (st : St) (o a b n : Int) (T : ByteArray) : (memO st o a b n T).next = st.next := by
  unfold memO memS
  repeat' split
  all_goals rfl
theorem tr_size (t : ByteArray) (s : ByteArray) (i n m : Nat) (ht : t.size ≤ m) (hn : n ≤ 65535) : (t ++ (s.extract (4 * i) (4 * i + 4)).extract 0 1 ++ (⟨(Lib.decDigits n).toArray⟩ : ByteArray)).size ≤ m + 8 := by
  have h1 := dec_sz n (by omega)
  have h2 : ((s.extract (4 * i) (4 * i + 4)).extract 0 1).size ≤ 1 := by simp only [ByteArray.size_extract]; omega
  rw [ByteArray.size_append, ByteArray.size_append]
  omega
theorem stepT_okB {s : ByteArray} {st : St} {i m : Nat} (h : st.ok m) (hb : InsB (B s) (blocksTo (B s) (s.size / 4)) i) : (stepT s st i).1.ok (m + 9) := by
  have h9 : st.trace.size ≤ m + 9 := by have := h.trace; omega
  have two : ∀ y : UInt8, (st.trace ++ (⟨#[63, y]⟩ : ByteArray)).size ≤ m + 9 := fun y => by
    rw [ByteArray.size_append]
    have : (⟨#[63, y]⟩ : ByteArray).size = 2 := rfl
    have := h.trace
    omega
  unfold stepT
  split
  · exact ⟨h.hold, h.pub, h.sec, h9⟩
  split
  · exact ⟨h.hold, h.pub, h.sec, h9⟩
  split
  · split
    · exact ⟨h.hold, h.pub, h.sec, two 49⟩
    · exact ⟨h.hold, h.pub, h.sec, two 48⟩
  split
  · have hv := h.hold (B s (4 * i + 2)).toNat
    exact memO_ok (st := { st with next := i + 1 }) ⟨h.hold, h.pub, h.sec, h.trace⟩ _ _ _ _ hv.1 _ (tr_size _ _ _ _ _ h.trace (by omega))
  split
  · have hv := h.hold (B s (4 * i + 1)).toNat
    exact memO_ok (st := { st with next := i + 1 }) ⟨h.hold, h.pub, h.sec, h.trace⟩ _ _ _ _ hv.1 _ (tr_size _ _ _ _ _ h.trace (by omega))
  split
  · rename_i e
    rcases hb with ⟨g, _⟩ | ⟨_, _, h2, h3⟩ | ⟨g, _⟩ | ⟨g, _⟩ | ⟨g, _⟩ | ⟨g, _⟩
    · rw [e] at g; simp [arithB] at g
    · exact ⟨upd_bd h.hold _ (by omega), h.pub, h.sec, h9⟩
    · omega
    · omega
    · omega
    · omega
  split
  · exact ⟨upd_bd h.hold _ (h.hold _), h.pub, h.sec, h9⟩
  · exact ⟨upd_bd h.hold _ (cntS_bd _ _ _ (h.hold _).1 (h.hold _).1), h.pub, h.sec, h9⟩
theorem stepT_ok {s : ByteArray} {st : St} {i m : Nat} (h : st.ok m) (hp : progB (B s) s.size 0 = true) (hin : i < s.size / 4) : (stepT s st i).1.ok (m + 9) :=
  stepT_okB h (ins_bytes (okIns_of_progB hp i hin))
theorem stepT_next {s : ByteArray} {k : Int} {st : St} {i : Nat} (hp : progB (B s) s.size k = true) (hin : i < s.size / 4) (h : (stepT s st i).2 = true) : ∃ j, j < s.size / 4 ∧ (stepT s st i).1.next = (j : Int) := by
  have G := good_of_progB hp
  have inc : endB (B s (4 * i)) = false → i + 1 < s.size / 4 := fun he => by
    by_cases e : i = s.size / 4 - 1
    · have := G.last
      rw [← e, he] at this
      cases this
    · omega
  have up : ∀ st' : St, st'.next = (i : Int) + 1 → endB (B s (4 * i)) = false → ∃ j, j < s.size / 4 ∧ st'.next = (j : Int) := fun st' e he => ⟨i + 1, inc he, by rw [e]; rfl⟩
  unfold stepT at h ⊢
  split at h
  · cases h
  rename_i n1
  rw [if_neg n1]
  split at h
  · rename_i e
    rw [if_pos e]
    have := G.jmp i hin e
    exact ⟨_, fst_lt _ _ _ (by omega), rfl⟩
  rename_i n2
  rw [if_neg n2]
  split at h
  · rename_i e
    rw [if_pos e]
    have := G.cnd i hin e
    split
    · exact ⟨_, fst_lt _ _ _ (by omega), rfl⟩
    · exact ⟨_, fst_lt _ _ _ (by omega), rfl⟩
  rename_i n3
  rw [if_neg n3]
  have he : endB (B s (4 * i)) = false := by simp [endB, n1, n2, n3]
  split at h
  · rename_i e
    rw [if_pos e]
    exact up _ (memO_next _ _ _ _ _ _) he
  rename_i n4
  rw [if_neg n4]
  split at h
  · rename_i e
    rw [if_pos e]
    exact up _ (memO_next _ _ _ _ _ _) he
  rename_i n5
  rw [if_neg n5]
  split at h
  · rename_i e
    rw [if_pos e]
    exact up _ rfl he
  rename_i n6
  rw [if_neg n6]
  split at h
  · rename_i e
    rw [if_pos e]
    exact up _ rfl he
  · rename_i n7
    rw [if_neg n7]
    exact up _ rfl he
/-- a run of at most f steps -/
def runT (s : ByteArray) : Nat → St → St
  | 0, st => { st with status := 2 }
  | f + 1, st => if (stepT s st st.next.toNat).2 = true then runT s f (stepT s st st.next.toNat).1 else (stepT s st st.next.toNat).1
end Sp
end Go.Proofs.YtccndnckceagfabGreatDoorR

namespace Go.Proofs.YtccndnckceagfabGreatDoorR
open Go.RowKit
namespace Sp
/-- what the places hold when k arguments are laid, each at its place -/
def hold0 (p : Nat → Nat) (I : Inp) : Nat → Nat → Int
  | 0 => fun _ => 0
  | k + 1 => upd (hold0 p I k) (p k) (I.args k)
def start (p : Nat → Nat) (I : Inp) (k : Nat) : St := { st0 with pub := I.pub, sec := I.sec, hold := hold0 p I k }
/-- a run of at most f steps, each of them stp -/
def runG (stp : St → Nat → St × Bool) : Nat → St → St
  | 0, st => { st with status := 2 }
  | f + 1, st => if (stp st st.next.toNat).2 = true then runG stp f (stp st st.next.toNat).1 else (stp st st.next.toNat).1
theorem val_bd {n : Int} (h : valB n = true) : 0 ≤ n ∧ n ≤ 65535 := by
  unfold valB at h
  simpa using h
theorem may_at {I : Inp} {f : Int} (h : mayB I f = true) (j : Nat) (hj : j < 20) : 0 ≤ I.at' j ∧ I.at' j ≤ 65535 := by
  unfold mayB at h
  rw [Bool.and_eq_true] at h
  exact val_bd (List.all_eq_true.1 h.1 j (List.mem_range.2 hj))
theorem may_fuel {I : Inp} {f : Int} (h : mayB I f = true) : 0 ≤ f ∧ f ≤ 20000 := by
  unfold mayB at h
  rw [Bool.and_eq_true] at h
  exact of_decide_eq_true h.2
/-- an input whose numbers beyond its bounds are none -/
def Inp.cut (I : Inp) : Inp := ⟨fun k => if k < 4 then I.args k else 0, fun k => if k < 8 then I.pub k else 0, fun k => if k < 8 then I.sec k else 0⟩
theorem cut_at (I : Inp) (j : Nat) (hj : j < 20) : I.cut.at' j = I.at' j := by
  unfold Inp.cut Inp.at'
  by_cases h1 : j < 4
  · simp [h1]
  · by_cases h2 : j < 12
    · simp [h1, h2, show j - 4 < 8 by omega]
    · simp [h1, h2, show j - 12 < 8 by omega]
theorem hold0_bd (p : Nat → Nat) (I : Inp) (h : ∀ k, 0 ≤ I.args k ∧ I.args k ≤ 65535) (k : Nat) : ∀ j, 0 ≤ hold0 p I k j ∧ hold0 p I k j ≤ 65535 := by
  induction k with
  | zero => intro j; simp [hold0]
  | succ k ih => exact upd_bd ih _ (h k)
end Sp

theorem inA_cut (I : Sp.Inp) : inA I.cut = inA I := by
  unfold inA inF
  congr 1
theorem may_cut (I : Sp.Inp) (f : Int) : Sp.mayB I.cut f = Sp.mayB I f := by
  unfold Sp.mayB
  congr 1
theorem cut_args (I : Sp.Inp) (f : Int) (h : Sp.mayB I f = true) : (∀ k, 0 ≤ I.cut.args k ∧ I.cut.args k ≤ 65535) ∧ (∀ k, 0 ≤ I.cut.pub k ∧ I.cut.pub k ≤ 65535) ∧ ∀ k, 0 ≤ I.cut.sec k ∧ I.cut.sec k ≤ 65535 := by
  refine ⟨fun k => ?_, fun k => ?_, fun k => ?_⟩
  · show 0 ≤ (if k < 4 then I.args k else 0) ∧ (if k < 4 then I.args k else 0) ≤ 65535
    split
    · have := Sp.may_at h k (by omega)
      unfold Sp.Inp.at' at this
      rwa [if_pos (by assumption)] at this
    · omega
  · show 0 ≤ (if k < 8 then I.pub k else 0) ∧ (if k < 8 then I.pub k else 0) ≤ 65535
    split
    · have := Sp.may_at h (4 + k) (by omega)
      unfold Sp.Inp.at' at this
      rwa [if_neg (by omega), if_pos (by omega), Nat.add_sub_cancel_left] at this
    · omega
  · show 0 ≤ (if k < 8 then I.sec k else 0) ∧ (if k < 8 then I.sec k else 0) ≤ 65535
    split
    · have := Sp.may_at h (12 + k) (by omega)
      unfold Sp.Inp.at' at this
      rwa [if_neg (by omega), if_neg (by omega), Nat.add_sub_cancel_left] at this
    · omega

theorem start_ok {p : Nat → Nat} {I : Sp.Inp} (h : (∀ k, 0 ≤ I.args k ∧ I.args k ≤ 65535) ∧ (∀ k, 0 ≤ I.pub k ∧ I.pub k ≤ 65535) ∧ ∀ k, 0 ≤ I.sec k ∧ I.sec k ≤ 65535) (k : Nat) : (Sp.start p I k).ok 0 :=
  ⟨Sp.hold0_bd p I h.1 k, h.2.1, h.2.2, Nat.le_refl 0⟩

theorem in_args {w : World} {b t : Nat} {I : Sp.Inp} (h : w.rowIs b t 20 (inF I)) (j : Nat) (hj : j < 4) : w.cell? ⟨b, j, none⟩ = some (.int .i64 (I.args j)) := by
  rw [h.cell (i := j) (by omega)]
  unfold inF Sp.Inp.at'
  rw [if_pos hj]
theorem in_pub {w : World} {b t : Nat} {I : Sp.Inp} (h : w.rowIs b t 20 (inF I)) (j : Nat) (hj : j < 8) : w.cell? ⟨b, 4 + j, none⟩ = some (.int .i64 (I.pub j)) := by
  rw [h.cell (i := 4 + j) (by omega)]
  unfold inF Sp.Inp.at'
  rw [if_neg (by omega), if_pos (by omega), Nat.add_sub_cancel_left]
theorem in_sec {w : World} {b t : Nat} {I : Sp.Inp} (h : w.rowIs b t 20 (inF I)) (j : Nat) (hj : j < 8) : w.cell? ⟨b, 12 + j, none⟩ = some (.int .i64 (I.sec j)) := by
  rw [h.cell (i := 12 + j) (by omega)]
  unfold inF Sp.Inp.at'
  rw [if_neg (by omega), if_neg (by omega), Nat.add_sub_cancel_left]

theorem But.to_below {N b : Nat} {w w' : World} (h : But w.heap.size b w w') (hN : N ≤ b) (hs : N ≤ w.heap.size) : Below N w w' :=
  ⟨h.os, h.tape, h.output, h.size, fun k hk => h.block k (by omega) (by omega)⟩

end Go.Proofs.YtccndnckceagfabGreatDoorR
