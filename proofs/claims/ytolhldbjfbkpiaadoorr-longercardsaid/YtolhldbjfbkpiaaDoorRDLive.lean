/-
  The program's liveness, plain mathematics: sets of registers as functions.
-/
import Derived.Test.YtolhldbjfbkpiaaDoorRDProg
namespace Go.Proofs.YtolhldbjfbkpiaaDoorR.Sp

/-- what is live ahead of an instruction, out of what is live behind it -/
def goB (S : Nat → Bool) (i : Ins) : Nat → Bool := fun r => if (r : Int) = i.y then true else if (r : Int) = i.x then true else if (r : Int) = i.d then false else S r
def joinS (S : Nat → Bool) (F : Nat → Nat → Bool) (nb : Nat) (b : Int) : Nat → Bool := fun r => S r || (decide (0 ≤ b ∧ b < nb) && F b.toNat r)
def bk (nb : Nat) (F : Nat → Nat → Bool) (S : Nat → Bool) (i : Ins) : Nat → Bool := goB (joinS (joinS S F nb i.k) F nb i.m) i
/-- behind j instructions, going back from the one at 'last' -/
def bkTo (C : List Ins) (nb : Nat) (F : Nat → Nat → Bool) (last : Nat) : Nat → Nat → Bool
  | 0 => fun _ => false
  | j + 1 => bk nb F (bkTo C nb F last j) (C.getD (last - j) ⟨0, -1, -1, -1, 0, -1, -1⟩)
/-- what is live at the beginning of block b, out of what is known of the others -/
def lsB (C : List Ins) (L : List (Nat × Nat)) (nb : Nat) (F : Nat → Nat → Bool) (b : Nat) : Nat → Bool := bkTo C nb F (L.getD b (0, 0)).2 ((L.getD b (0, 0)).2 - (L.getD b (0, 0)).1 + 1)
/-- one round: the blocks from the last on, each out of what is known by then; behind j of them -/
def sweep (C : List Ins) (L : List (Nat × Nat)) (nb : Nat) (F : Nat → Nat → Bool) : Nat → Nat → Nat → Bool
  | 0 => F
  | j + 1 => fun k => if k = nb - 1 - j then lsB C L nb (sweep C L nb F j) k else sweep C L nb F j k
def rounds (C : List Ins) (L : List (Nat × Nat)) (nb : Nat) : Nat → Nat → Nat → Bool
  | 0 => fun _ _ => false
  | t + 1 => sweep C L nb (rounds C L nb t) nb
end Go.Proofs.YtolhldbjfbkpiaaDoorR.Sp
