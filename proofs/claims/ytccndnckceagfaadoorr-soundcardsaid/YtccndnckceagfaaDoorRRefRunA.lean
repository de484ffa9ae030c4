/-
  A run of steps, plain mathematics: values stay values, the next instruction is there.
-/
import Derived.Test.YtccndnckceagfaaDoorRRefRun8
namespace Go.Proofs.YtccndnckceagfaaDoorR
open Go.RowKit
namespace Sp

theorem cntS_bd (o x y : Int) (_x0 : 0 ≤ x) (_y0 : 0 ≤ y) : 0 ≤ cntS o x y ∧ cntS o x y ≤ 65535 := by
  unfold cntS
  have h1 := bits_bd x y false 16
  have h2 := bits_bd x y true 16
  rw [show (2 : Int) ^ 16 = 65536 from rfl] at h1 h2
  repeat' split
  all_goals omega
theorem upd_bd {f : Nat → Int} (h : ∀ k, 0 ≤ f k ∧ f k ≤ 65535) (j : Nat) {v : Int} (hv : 0 ≤ v ∧ v ≤ 65535) : ∀ k, 0 ≤ upd f j v k ∧ upd f j v k ≤ 65535 := by
  intro k
  unfold upd
  split
  · exact hv
  · exact h k
theorem dec_sz (n : Nat) (h : n ≤ 1000000) : (⟨(Lib.decDigits n).toArray⟩ : ByteArray).size ≤ 7 := by
  have := dec_len7 n h
  have e : (⟨(Lib.decDigits n).toArray⟩ : ByteArray).size = (Lib.decDigits n).length := by simp [ByteArray.size]
  omega
theorem memO_ok {st : St} {m : Nat} (h : st.ok m) (o a b n : Int) (_hn : 0 ≤ n) (T : ByteArray) (hT : T.size ≤ m + 8) : (memO st o a b n T).ok (m + 9) := by
  have hb : (T ++ (⟨#[33]⟩ : ByteArray)).size ≤ m + 9 := by
    rw [ByteArray.size_append]
    have : (⟨#[33]⟩ : ByteArray).size = 1 := rfl
    omega
  unfold memO memS
  split
  · split
    · exact ⟨h.hold, h.pub, h.sec, hb⟩
    · split
      · exact ⟨upd_bd h.hold _ (h.pub _), h.pub, h.sec, by show T.size ≤ m + 9; omega⟩
      · split
        · exact ⟨upd_bd h.hold _ (h.sec _), h.pub, h.sec, by show T.size ≤ m + 9; omega⟩
        · split
          · exact ⟨h.hold, upd_bd h.pub _ (h.hold _), h.sec, by show T.size ≤ m + 9; omega⟩
          · exact ⟨h.hold, h.pub, upd_bd h.sec _ (h.hold _), by show T.size ≤ m + 9; omega⟩
  · split
    · exact ⟨h.hold, h.pub, h.sec, hb⟩
    · split
      · exact ⟨upd_bd h.hold _ (h.pub _), h.pub, h.sec, by show T.size ≤ m + 9; omega⟩
      · split
        · exact ⟨upd_bd h.hold _ (h.sec _), h.pub, h.sec, by show T.size ≤ m + 9; omega⟩
        · split
          · exact ⟨h.hold, upd_bd h.pub _ (h.hold _), h.sec, by show T.size ≤ m + 9; omega⟩
          · exact ⟨h.hold, h.pub, upd_bd h.sec _ (h.hold _), by show T.size ≤ m + 9; omega⟩
theorem memO_next (st : St) (o a b n : Int) (T : ByteArray) : (memO st o a b n T).next = st.next := by
  unfold memO memS
  repeat' split
  all_goals rfl
theorem tr_size (t : ByteArray) (s : ByteArray) (i n m : Nat) (ht : t.size ≤ m) (hn : n ≤ 65535) : (t ++ (s.extract (4 * i) (4 * i + 4)).extract 0 1 ++ (⟨(Lib.decDigits n).toArray⟩ : ByteArray)).size ≤ m + 8 := by
  have h1 := dec_sz n (by omega)
  have h2 : ((s.extract (4 * i) (4 * i + 4)).extract 0 1).size ≤ 1 := by simp only [ByteArray.size_extract]; omega
  rw [ByteArray.size_append, ByteArray.size_append]
  omega
theorem stepT_okB {s : ByteArray} {st : St} {i m : Nat} (h : st.ok m) (hb : InsB (B s) (blocksTo (B s) (s.size / 4)) i) : (stepT s st i).1.ok (m + 9) := by
  have h9 : st.trace.size ≤ m + 9 := by have := h.trace; omega
  have two : ∀ y : UInt8, (st.trace ++ (⟨#[63, y]⟩ : ByteArray)).size ≤ m + 9 := fun y => by
    rw [ByteArray.size_append]
    have : (⟨#[63, y]⟩ : ByteArray).size = 2 := rfl
    have := h.trace
    omega
  unfold stepT
  split
  · exact ⟨h.hold, h.pub, h.sec, h9⟩
  split
  · exact ⟨h.hold, h.pub, h.sec, h9⟩
  split
  · split
    · exact ⟨h.hold, h.pub, h.sec, two 49⟩
    · exact ⟨h.hold, h.pub, h.sec, two 48⟩
  split
  · have hv := h.hold (B s (4 * i + 2)).toNat
    exact memO_ok (st := { st with next := i + 1 }) ⟨h.hold, h.pub, h.sec, h.trace⟩ _ _ _ _ hv.1 _ (tr_size _ _ _ _ _ h.trace (by omega))
  split
  · have hv := h.hold (B s (4 * i + 1)).toNat
    exact memO_ok (st := { st with next := i + 1 }) ⟨h.hold, h.pub, h.sec, h.trace⟩ _ _ _ _ hv.1 _ (tr_size _ _ _ _ _ h.trace (by omega))
  split
  · rename_i e
    rcases hb with ⟨g, _⟩ | ⟨_, _, h2, h3⟩ | ⟨g, _⟩ | ⟨g, _⟩ | ⟨g, _⟩ | ⟨g, _⟩
    · rw [e] at g; simp [arithB] at g
    · exact ⟨upd_bd h.hold _ (by omega), h.pub, h.sec, h9⟩
    · omega
    · omega
    · omega
    · omega
  split
  · exact ⟨upd_bd h.hold _ (h.hold _), h.pub, h.sec, h9⟩
  · exact ⟨upd_bd h.hold _ (cntS_bd _ _ _ (h.hold _).1 (h.hold _).1), h.pub, h.sec, h9⟩
theorem stepT_ok {s : ByteArray} {st : St} {i m : Nat} (h : st.ok m) (hp : progB (B s) s.size 0 = true) (hin : i < s.size / 4) : (stepT s st i).1.ok (m + 9) :=
  stepT_okB h (ins_bytes (okIns_of_progB hp i hin))
theorem stepT_next {s : ByteArray} {k : Int} {st : St} {i : Nat} (hp : progB (B s) s.size k = true) (hin : i < s.size / 4) (h : (stepT s st i).2 = true) : ∃ j, j < s.size / 4 ∧ (stepT s st i).1.next = (j : Int) := by
  have G := good_of_progB hp
  have inc : endB (B s (4 * i)) = false → i + 1 < s.size / 4 := fun he => by
    by_cases e : i = s.size / 4 - 1
    · have := G.last
      rw [← e, he] at this
      cases this
    · omega
  have up : ∀ st' : St, st'.next = (i : Int) + 1 → endB (B s (4 * i)) = false → ∃ j, j < s.size / 4 ∧ st'.next = (j : Int) := fun st' e he => ⟨i + 1, inc he, by rw [e]; rfl⟩
  unfold stepT at h ⊢
  split at h
  · cases h
  rename_i n1
  rw [if_neg n1]
  split at h
  · rename_i e
    rw [if_pos e]
    have := G.jmp i hin e
    exact ⟨_, fst_lt _ _ _ (by omega), rfl⟩
  rename_i n2
  rw [if_neg n2]
  split at h
  · rename_i e
    rw [if_pos e]
    have := G.cnd i hin e
    split
    · exact ⟨_, fst_lt _ _ _ (by omega), rfl⟩
    · exact ⟨_, fst_lt _ _ _ (by omega), rfl⟩
  rename_i n3
  rw [if_neg n3]
  have he : endB (B s (4 * i)) = false := by simp [endB, n1, n2, n3]
  split at h
  · rename_i e
    rw [if_pos e]
    exact up _ (memO_next _ _ _ _ _ _) he
  rename_i n4
  rw [if_neg n4]
  split at h
  · rename_i e
    rw [if_pos e]
    exact up _ (memO_next _ _ _ _ _ _) he
  rename_i n5
  rw [if_neg n5]
  split at h
  · rename_i e
    rw [if_pos e]
    exact up _ rfl he
  rename_i n6
  rw [if_neg n6]
  split at h
  · rename_i e
    rw [if_pos e]
    exact up _ rfl he
  · rename_i n7
    rw [if_neg n7]
    exact up _ rfl he
/-- a run of at most f steps -/
def runT (s : ByteArray) : Nat → St → St
  | 0, st => { st with status := 2 }
  | f + 1, st => if (stepT s st st.next.toNat).2 = true then runT s f (stepT s st st.next.toNat).1 else (stepT s st st.next.toNat).1
end Sp
end Go.Proofs.YtccndnckceagfaaDoorR
