/-
  Pairs read and written whole; the pairs that block 0 is begun with.
  Two sets of pairs held against each other.
  What is known of each block, as the program holds it: a table of ten entries.
  A block is come to: the program's handOn.
  A block is come to: the program's handOn.
  A block is played and handed on: the program's playBlock.
  Whether a machine program is accepted for a source program: the program's Accepted.
  What a program that was read keeps to.
  A step of the document's own run of a machine program, whatever it is.
-/
import Derived.Test.YtccndnckceagfabGreatDoorRG10
import Derived.DeepKeys
import Derived.Deep.RegionHeld3
import Derived.BigQuiet
import Derived.Test.YtccndnckceagfabGreatDoorRHLv
import Derived.Test.YtccndnckceagfabGreatDoorRHPSim
namespace Go.Proofs.YtccndnckceagfabGreatDoorR.Sp
/-- what block 0 is begun with -/
def begR (p : Nat) : Int := if p = 0 then 0 else if p = 1 then 1 else if p = 2 then 26 else if p = 3 then 27 else 52
def startE (p : Nat) : Nat := bitN (begR p)
theorem setP_at (E : Nat → Nat) (v : Int) (m : Nat) (hm : m < 62) : setP E v (m : Int) = fun x => if x = m then bitN v else E x := by
  unfold setP isPl
  rw [if_pos (by simp; omega), Int.toNat_natCast]
end Go.Proofs.YtccndnckceagfabGreatDoorR.Sp

namespace Go.Proofs.YtccndnckceagfabGreatDoorR
open Go.RowKit

theorem rowIs_setCells {b t n : Nat} (vs : List Value) : ∀ {w : World} {f : Nat → Value} (o : Nat), w.rowIs b t n f → (w.setCells b o vs).rowIs b t n (fun j => if o ≤ j ∧ j < o + vs.length then vs.getD (j - o) undef else f j) := by
  induction vs with
  | nil =>
    intro w f o h
    exact World.rowIs.congr h (fun j _ => by rw [if_neg (by simp)])
  | cons v vs ih =>
    intro w f o h
    refine World.rowIs.congr (ih (o + 1) (World.rowIs.set h o v)) (fun j _ => ?_)
    by_cases h0 : j = o
    · subst h0
      rw [if_neg (by omega), if_pos rfl, if_pos ⟨Nat.le_refl _, by simp⟩, Nat.sub_self]
      rfl
    · by_cases h1 : o + 1 ≤ j ∧ j < o + 1 + vs.length
      · rw [if_pos h1, if_pos ⟨by omega, by simp; omega⟩, show j - o = (j - (o + 1)) + 1 by omega]
        rfl
      · rw [if_neg h1, if_neg h0, if_neg (by simp; omega)]

def prL (E : Nat → Nat) : List Value := (List.range 62).map (fun p => .int .u64 (E p : Nat))
theorem prL_len (E : Nat → Nat) : (prL E).length = 62 := by simp [prL]
theorem prL_at (E : Nat → Nat) (p : Nat) (hp : p < 62) : (prL E)[p]? = some (.int .u64 (E p : Nat)) := by simp [prL, hp]
theorem prL_getD (E : Nat → Nat) (p : Nat) (hp : p < 62) : (prL E).getD p undef = .int .u64 (E p : Nat) := by rw [List.getD_eq_getElem?_getD, prL_at E p hp]; rfl
theorem prL_one (E : Nat → Nat) : ∀ v ∈ prL E, v.oneCell' = true := by
  intro v hv
  simp only [prL, List.mem_map] at hv
  obtain ⟨r, _, rfl⟩ := hv
  rfl
/-- pairs within a row -/
def PrIn (w : World) (b o t n : Nat) (f : Nat → Value) (E : Nat → Nat) : Prop := w.rowIs b t n f ∧ o + 62 ≤ n ∧ ∀ p, p < 62 → f (o + p) = .int .u64 (E p : Nat)
theorem PrIn.range {w : World} {b o t n : Nat} {f : Nat → Value} {E : Nat → Nat} (h : PrIn w b o t n f E) : w.rangeAt b o (prL E) := by
  intro j v hj
  have hj' : j < 62 := by have := (List.getElem?_eq_some_iff.1 hj).1; rwa [prL_len] at this
  rw [prL_at E j hj'] at hj
  rw [World.rowIs.cell h.1 (i := o + j) (by have := h.2.1; omega), h.2.2 j hj', ← hj]
theorem there_row {w : World} {b t n : Nat} {f : Nat → Value} (h : w.rowIs b t n f) (o m : Nat) (ho : o + m ≤ n) : w.there b o m := fun j hj => ⟨by rw [World.rowIs.cell h (i := o + j) (by omega)]; rfl, World.rowIs.frozen h _⟩

theorem zero_small : Sp.Small (fun _ => 0) := fun _ _ => Nat.two_pow_pos _

end Go.Proofs.YtccndnckceagfabGreatDoorR

namespace Go.Proofs.YtccndnckceagfabGreatDoorR
open Go.RowKit

theorem mapM_some {α β : Type} (f : α → Option β) (g : α → β) : ∀ l : List α, (∀ x ∈ l, f x = some (g x)) → l.mapM f = some (l.map g)
  | [], _ => rfl
  | x :: l, h => by
    rw [List.mapM_cons, h x (by simp), mapM_some f g l (fun y hy => h y (by simp [hy]))]
    rfl
theorem flat_one {α β : Type} (g : α → β) : ∀ l : List α, (l.map fun x => [g x]).flatten = l.map g
  | [] => rfl
  | x :: l => by simp only [List.map_cons, List.flatten_cons, flat_one g l]; rfl
theorem lits_one (n : Nat) (hn : n < 2 ^ 53) : Tryz.prog.keyLits 1 130 [.int .u64 (n : Nat)] = some [Lit.int .u64 (n : Nat)] := by
  have hu : Tryz.prog.underlying 130 = some (.int .u64) := by kernel_rfl
  have h1 : IntKind.u64.min = 0 := by decide
  have h2 : IntKind.u64.max = 18446744073709551615 := by decide
  have hw : (Lit.int .u64 (n : Nat)).wf = true := by
    simp only [Lit.wf, h1, h2, Bool.and_eq_true, decide_eq_true_eq]
    omega
  simp only [Program.keyLits, hu]
  rw [if_pos ⟨trivial, hw⟩]
namespace Sp
/-- the same pairs? -/
def eqP (E F : Nat → Nat) : Bool := (List.range 62).all fun p => E p == F p
theorem eqP_iff (E F : Nat → Nat) : eqP E F = true ↔ ∀ p, p < 62 → E p = F p := by
  unfold eqP
  simp [List.all_eq_true]
end Sp
end Go.Proofs.YtccndnckceagfabGreatDoorR

namespace Go.Proofs.YtccndnckceagfabGreatDoorR.Sp
/-- what is known of a block: is it reached, does it wait, with which pairs is it begun -/
structure Ent where
  r : Bool
  w : Bool
  e : Nat → Nat
def noEnt : Ent := ⟨false, false, fun _ => 0⟩
/-- the first block that waits -/
def nextB (K : Nat → Ent) : Option Nat := (List.range 10).find? (fun i => (K i).w)
def nextI (K : Nat → Ent) : Int := match nextB K with
  | some i => i
  | none => -1
theorem nextB_none {K : Nat → Ent} (h : ∀ i, i < 10 → (K i).w = false) : nextB K = none := by
  unfold nextB
  rw [List.find?_eq_none]
  intro i hi
  rw [h i (List.mem_range.mp hi)]
  simp
theorem nextB_some {K : Nat → Ent} {m : Nat} (hm : m < 10) (h : ∀ i, i < m → (K i).w = false) (hw : (K m).w = true) : nextB K = some m := by
  unfold nextB
  rw [List.find?_range_eq_some]
  refine ⟨hw, List.mem_range.mpr hm, fun j hj => ?_⟩
  rw [h j hj]
  rfl
/-- entry i is x -/
def putE (K : Nat → Ent) (i : Nat) (x : Ent) : Nat → Ent := fun j => if j = i then x else K j
/-- block b is come to with the pairs E -/
def handE (K : Nat → Ent) (b : Int) (E : Nat → Nat) : Nat → Ent :=
  if 0 ≤ b ∧ b < 10 then
    if (K b.toNat).r = true then putE K b.toNat ⟨true, (K b.toNat).w || !(eqP (meetP (K b.toNat).e E) (K b.toNat).e), meetP (K b.toNat).e E⟩
    else putE K b.toNat ⟨true, true, E⟩
  else K
end Go.Proofs.YtccndnckceagfabGreatDoorR.Sp

namespace Go.Proofs.YtccndnckceagfabGreatDoorR
open Go.RowKit

def tabF (K : Nat → Sp.Ent) (j : Nat) : Value := if j % 64 = 0 then .bool (K (j / 64)).r else if j % 64 = 1 then .bool (K (j / 64)).w else .int .u64 ((K (j / 64)).e (j % 64 - 2) : Nat)
theorem tabF_r (K : Nat → Sp.Ent) (i : Nat) : tabF K (i * 64) = .bool (K i).r := by
  unfold tabF
  rw [if_pos (by omega), show i * 64 / 64 = i by omega]
theorem tabF_w (K : Nat → Sp.Ent) (i : Nat) : tabF K (i * 64 + 1) = .bool (K i).w := by
  unfold tabF
  rw [if_neg (by omega), if_pos (by omega), show (i * 64 + 1) / 64 = i by omega]
theorem tabF_e (K : Nat → Sp.Ent) (i p : Nat) (hp : p < 62) : tabF K (i * 64 + 2 + p) = .int .u64 ((K i).e p : Nat) := by
  unfold tabF
  rw [if_neg (by omega), if_neg (by omega), show (i * 64 + 2 + p) / 64 = i by omega, show (i * 64 + 2 + p) % 64 - 2 = p by omega]
/-- every place of the table is one of an entry -/
theorem tab_cases (j : Nat) : j = j / 64 * 64 ∨ j = j / 64 * 64 + 1 ∨ ∃ p, p < 62 ∧ j = j / 64 * 64 + 2 + p := by
  by_cases h0 : j % 64 = 0
  · exact Or.inl (by omega)
  · by_cases h1 : j % 64 = 1
    · exact Or.inr (Or.inl (by omega))
    · exact Or.inr (Or.inr ⟨j % 64 - 2, by omega, by omega⟩)
end Go.Proofs.YtccndnckceagfabGreatDoorR

namespace Go.Proofs.YtccndnckceagfabGreatDoorR
open Go.RowKit

def enL (x : Sp.Ent) : List Value := .bool x.r :: .bool x.w :: prL x.e
theorem enL_len (x : Sp.Ent) : (enL x).length = 64 := by simp [enL, prL_len]
theorem enL_one (x : Sp.Ent) : ∀ v ∈ enL x, v.oneCell' = true := by
  intro v hv
  simp only [enL, List.mem_cons] at hv
  rcases hv with rfl | rfl | hv
  · rfl
  · rfl
  · exact prL_one _ v hv
end Go.Proofs.YtccndnckceagfabGreatDoorR

namespace Go.Proofs.YtccndnckceagfabGreatDoorR
open Go.RowKit

end Go.Proofs.YtccndnckceagfabGreatDoorR

namespace Go.Proofs.YtccndnckceagfabGreatDoorR.Sp
/-- block i played: what is known then, and none where it is not well played -/
def playK (C : List Ins) (L : List (Nat × Nat)) (D : List Ins) (M : List (Nat × Nat)) (K : Nat → Ent) (i : Nat) : Option (Nat → Ent) :=
  (playB C L D M (K i).e i).map fun F => handE (handE (putE K i ⟨(K i).r, false, (K i).e⟩) (C.getD (L.getD i (0, 0)).2 ⟨0, 0, 0, 0, 0, 0, 0⟩).k F) (C.getD (L.getD i (0, 0)).2 ⟨0, 0, 0, 0, 0, 0, 0⟩).m F
end Go.Proofs.YtccndnckceagfabGreatDoorR.Sp

namespace Go.Proofs.YtccndnckceagfabGreatDoorR
open Go.RowKit

/-- the cells that lead to the last instruction of a block -/
theorem ProgAt.last {w : World} {B p : Nat} {C : List Sp.Ins} {L : List (Nat × Nat)} (h : ProgAt w B p C L) (i : Nat) (hi : i < L.length) (hl : L[i].2 < C.length) :
    ∃ gC kC gL kL, w.cell? ⟨p, 0, none⟩ = some (.slice (some ⟨gC, 0, none⟩) C.length kC) ∧ w.cell? ⟨p, 1, none⟩ = some (.slice (some ⟨gL, 0, none⟩) L.length kL) ∧ w.cell? ⟨gL, i * 2 + 1, none⟩ = some (.int .i64 (L[i].2 : Nat)) ∧ w.cell? ⟨gC, L[i].2 * 7 + 5, none⟩ = some (.int .i64 C[L[i].2].k) ∧ w.cell? ⟨gC, L[i].2 * 7 + 6, none⟩ = some (.int .i64 C[L[i].2].m) := by
  obtain ⟨vC, vL, s1, s2, s3, _⟩ := h
  obtain ⟨gC, kC, rfl⟩ := Joins.ownsRow_form s2 (by omega)
  obtain ⟨gL, kL, rfl⟩ := Joins.ownsRow_form s3 (by omega)
  obtain ⟨_, d2⟩ := blk_cells s3 i hi
  obtain ⟨_, _, _, _, _, c5, c6⟩ := ins_cells s2 L[i].2 hl
  exact ⟨gC, kC, gL, kL, s1.cell (i := 0) (by omega), s1.cell (i := 1) (by omega), d2, c5, c6⟩
end Go.Proofs.YtccndnckceagfabGreatDoorR

namespace Go.Proofs.YtccndnckceagfabGreatDoorR.Sp
/-- round after round, a block that waits is played -/
def accR (C : List Ins) (L : List (Nat × Nat)) (D : List Ins) (M : List (Nat × Nat)) : Nat → (Nat → Ent) → Bool
  | 0, _ => false
  | f + 1, K => match nextB K with
    | none => true
    | some i => match playK C L D M K i with
      | none => false
      | some K' => accR C L D M f K'
def begT : Nat → Ent := handE (fun _ => noEnt) 0 startE
def accB (C : List Ins) (L : List (Nat × Nat)) (D : List Ins) (M : List (Nat × Nat)) : Bool := L.length == M.length && accR C L D M 32871 begT
/-- only blocks that are there wait -/
def InK (n : Nat) (K : Nat → Ent) : Prop := ∀ i, (K i).w = true → i < n
theorem InK.put {n : Nat} {K : Nat → Ent} (h : InK n K) {i : Nat} (hi : i < n) (x : Ent) : InK n (putE K i x) := by
  intro j hj
  unfold putE at hj
  by_cases e : j = i
  · omega
  · rw [if_neg e] at hj; exact h j hj
theorem InK.hand {n : Nat} {K : Nat → Ent} (h : InK n K) {q : Int} (hq : q < n) (E : Nat → Nat) : InK n (handE K q E) := by
  unfold handE
  split
  · rename_i hb
    split
    · exact h.put (by omega) _
    · exact h.put (by omega) _
  · exact h
theorem InK.play {C : List Ins} {L : List (Nat × Nat)} {D : List Ins} {M : List (Nat × Nat)} {K K' : Nat → Ent} {i : Nat} (h : InK L.length K) (hi : i < L.length) (hk : ∀ j (hj : j < C.length), C[j].k < L.length ∧ C[j].m < L.length) (hl : ∀ j (hj : j < L.length), L[j].2 < C.length) (hp : playK C L D M K i = some K') : InK L.length K' := by
  unfold playK at hp
  rw [Option.map_eq_some_iff] at hp
  obtain ⟨F, _, rfl⟩ := hp
  rw [show L.getD i (0, 0) = L[i] by rw [List.getD_eq_getElem?_getD, List.getElem?_eq_getElem hi]; rfl, show C.getD L[i].2 ⟨0, 0, 0, 0, 0, 0, 0⟩ = C[L[i].2]'(hl i hi) by rw [List.getD_eq_getElem?_getD, List.getElem?_eq_getElem (hl i hi)]; rfl]
  exact ((h.put hi _).hand (hk _ (hl i hi)).1 F).hand (hk _ (hl i hi)).2 F
theorem startE_small : Small startE := fun _ _ => bitN_lt _
end Go.Proofs.YtccndnckceagfabGreatDoorR.Sp

namespace Go.Proofs.YtccndnckceagfabGreatDoorR
open Go.RowKit

def tbL (K : Nat → Sp.Ent) : List Value := (List.range 640).map (tabF K)
theorem tbL_len (K : Nat → Sp.Ent) : (tbL K).length = 640 := by simp [tbL]
theorem tbL_at (K : Nat → Sp.Ent) (p : Nat) (hp : p < 640) : (tbL K)[p]? = some (tabF K p) := by simp [tbL, hp]
theorem tabF_one (K : Nat → Sp.Ent) (j : Nat) : (tabF K j).oneCell' = true := by
  unfold tabF
  split
  · rfl
  · split <;> rfl
theorem tbL_one (K : Nat → Sp.Ent) : ∀ v ∈ tbL K, v.oneCell' = true := by
  intro v hv
  simp only [tbL, List.mem_map] at hv
  obtain ⟨r, _, rfl⟩ := hv
  exact tabF_one K r
/-- what a program that was read keeps to -/
structure PrOk (C : List Sp.Ins) (L : List (Nat × Nat)) : Prop where
  c0 : 0 < C.length
  c1 : C.length ≤ 1100
  l0 : 0 < L.length
  l1 : L.length ≤ 10
  fst : ∀ j (hj : j < L.length), L[j].1 ≤ C.length
  lst : ∀ j (hj : j < L.length), L[j].2 < C.length
theorem prog_len {w : World} {B p : Nat} {C : List Sp.Ins} {L : List (Nat × Nat)} (h : ProgAt w B p C L) (h0 : 0 < L.length) : ∃ gL kL, w.cell? ⟨p, 1, none⟩ = some (.slice (some ⟨gL, 0, none⟩) L.length kL) := by
  obtain ⟨vC, vL, s1, s2, s3, _⟩ := h
  obtain ⟨gL, kL, rfl⟩ := Joins.ownsRow_form s3 h0
  exact ⟨gL, kL, s1.cell (i := 1) (by omega)⟩

end Go.Proofs.YtccndnckceagfabGreatDoorR

namespace Go.Proofs.YtccndnckceagfabGreatDoorR
theorem prOk_of (k : Int) (hk : 0 ≤ k) (c : Nat → Int) (size : Nat) (hs : size ≤ 4096) (h : Sp.progB c size k = true) :
    PrOk (Sp.codeK k c (size / 4)) (Sp.blksTo c (size / 4)) ∧ ∀ j (hj : j < (Sp.codeK k c (size / 4)).length), (Sp.codeK k c (size / 4))[j].k < (Sp.blksTo c (size / 4)).length ∧ (Sp.codeK k c (size / 4))[j].m < (Sp.blksTo c (size / 4)).length := by
  obtain ⟨s1, s2, s3, s4⟩ := Sp.size_of_progB h
  have hpos := Sp.blocks_pos c (size / 4) (by omega) s4
  have hblk : ∀ j (hj : j < (Sp.blksTo c (size / 4)).length), (Sp.blksTo c (size / 4))[j].1 ≤ size / 4 ∧ (Sp.blksTo c (size / 4))[j].2 < size / 4 := by
    intro j hj
    obtain ⟨q, la, e, hb⟩ := (Sp.blks_spec c (size / 4)).1 j (by rw [← Sp.blksTo_len]; exact hj)
    rw [List.getElem?_eq_getElem hj] at e
    have e' := Option.some.inj e
    rw [e']
    have h1 := hb.le
    have h2 := hb.lt
    exact ⟨by show q ≤ _; omega, h2⟩
  refine ⟨⟨by rw [Sp.codeK_len]; omega, by rw [Sp.codeK_len]; omega, by rw [Sp.blksTo_len]; omega, by rw [Sp.blksTo_len]; exact s3, fun j hj => by rw [Sp.codeK_len]; exact (hblk j hj).1, fun j hj => by rw [Sp.codeK_len]; exact (hblk j hj).2⟩, fun j hj => ?_⟩
  have hd : ∀ i, i < size / 4 → Sp.dokK k c i = true := by
    intro i hi
    cases hb : Sp.dokK k c i
    · have := Sp.progK_bad k hk c size i hi hb
      rw [h] at this
      cases this
    · rfl
  have hall := Sp.progK_all k hk c size s1 s2 hd s3 s4
  rw [h] at hall
  have hj2 := List.all_eq_true.1 hall.symm _ (List.getElem_mem hj)
  simp only [Bool.and_eq_true] at hj2
  obtain ⟨t1, t2⟩ := hj2
  rw [Sp.blksTo_len]
  unfold Sp.isTgt at t1 t2
  simp only [Bool.or_eq_true, Bool.and_eq_true, beq_iff_eq, decide_eq_true_eq] at t1 t2
  omega
end Go.Proofs.YtccndnckceagfabGreatDoorR

namespace Go.Proofs.YtccndnckceagfabGreatDoorR
open Go.RowKit

theorem two_str (t x : ByteArray) (o v : Int) (h : x = ⟨#[UInt8.ofNat o.toNat]⟩) : t ++ x ++ (⟨#[UInt8.ofNat v.toNat]⟩ : ByteArray) = t ++ ⟨#[UInt8.ofNat o.toNat, UInt8.ofNat v.toNat]⟩ := by
  subst h
  rw [ByteArray.append_assoc]
  rfl
theorem Sp.let_bd {a : Int} (h : Sp.letB a = true) : 0 ≤ a ∧ a < 128 := by
  simp [Sp.letB, Sp.lowB, Sp.uppB] at h
  omega
theorem Sp.reg_bd {k a : Int} (_hk : k ≤ 10) (h : Sp.regB a k = true) : 0 ≤ a ∧ a < 128 := by
  unfold Sp.regB at h
  split at h
  · exact Sp.let_bd h
  · simp only [Bool.and_eq_true, decide_eq_true_eq, Sp.digB] at h
    omega
theorem But.alloc {B p : Nat} {u v : World} (h : But B p u v) (hB : B ≤ v.heap.size) (X : Obj) : But B p u (v.alloc X) :=
  have hb := (Below.refl v.heap.size v).alloc (Nat.le_refl _) X
  ⟨hb.os.trans h.os, hb.tape.trans h.tape, hb.output.trans h.output, Nat.le_trans h.size hb.size, fun k hk hne => (hb.block k (by omega)).trans (h.block k hk hne)⟩

theorem Sp.insB_of {k : Int} (hk0 : 0 ≤ k) (hk : k ≤ 10) {s : ByteArray} (hp : Sp.progB (Sp.B s) s.size k = true) {i : Nat} (hin : i < s.size / 4) (hne : ¬ (Sp.B s (4 * i) = 62 ∨ Sp.B s (4 * i) = 60 ∨ Sp.B s (4 * i) = 126)) : Sp.InsB (Sp.B s) (Sp.blocksTo (Sp.B s) (s.size / 4)) i := by
  have hok := Sp.okIns_of_progB hp i hin
  have fk := fun j hj => Sp.fit_of_okIns hok j hj
  have hdok : Sp.dokK k (Sp.B s) i = true := by
    have := hok
    rw [Sp.okK_eq _ _ k hk0, Bool.and_eq_true] at this
    exact this.1
  have hf := Sp.form_of hk0 hdok
  have dig : ∀ x : Int, Sp.digB x = true → 48 ≤ x ∧ x ≤ 57 := fun x h => by simpa [Sp.digB] using h
  unfold Sp.InsB
  generalize hI : Sp.insK k (Sp.B s) i = I at hf
  have h106 : Sp.B s (4 * i) = 106 → 49 ≤ Sp.B s (4 * i + 1) ∧ Sp.B s (4 * i + 1) ≤ 57 ∧ Sp.B s (4 * i + 1) - 48 < Sp.blocksTo (Sp.B s) (s.size / 4) := fun o => by
    have g := fk 0 (by omega)
    rw [o, Sp.shp_106, show Sp.B ⟨#[66, 46, 46]⟩ 0 = 66 from rfl] at g
    exact Sp.fit_B g
  have h63 : Sp.B s (4 * i) = 63 → (49 ≤ Sp.B s (4 * i + 2) ∧ Sp.B s (4 * i + 2) ≤ 57 ∧ Sp.B s (4 * i + 2) - 48 < Sp.blocksTo (Sp.B s) (s.size / 4)) ∧ (49 ≤ Sp.B s (4 * i + 3) ∧ Sp.B s (4 * i + 3) ≤ 57 ∧ Sp.B s (4 * i + 3) - 48 < Sp.blocksTo (Sp.B s) (s.size / 4)) := fun o => by
    have g1 := fk 1 (by omega)
    have g2 := fk 2 (by omega)
    rw [o, Sp.shp_63, show Sp.B ⟨#[82, 66, 66]⟩ 1 = 66 from rfl] at g1
    rw [o, Sp.shp_63, show Sp.B ⟨#[82, 66, 66]⟩ 2 = 66 from rfl] at g2
    exact ⟨Sp.fit_B g1, Sp.fit_B g2⟩
  generalize Sp.B s (4 * i) = o at *
  generalize Sp.B s (4 * i + 1) = a at *
  generalize Sp.B s (4 * i + 2) = b at *
  generalize Sp.B s (4 * i + 3) = d at *
  cases hf with
  | ar h ha hb hd => exact Or.inl ⟨h, (Sp.reg_bd hk ha).2, (Sp.reg_bd hk hb).2, (Sp.reg_bd hk hd).2⟩
  | num h ha hb hd => exact Or.inr (Or.inl ⟨h, (Sp.reg_bd hk ha).2, dig _ hb, dig _ hd⟩)
  | two h ha hb => exact Or.inr (Or.inr (Or.inl ⟨by omega, (Sp.reg_bd hk ha).2, (Sp.reg_bd hk hb).2⟩))
  | sto h ha hb => exact Or.inr (Or.inr (Or.inl ⟨by omega, (Sp.reg_bd hk ha).2, (Sp.reg_bd hk hb).2⟩))
  | jmp h ha => exact Or.inr (Or.inr (Or.inr (Or.inl ⟨h, h106 h⟩)))
  | cnd h ha hb hd => exact Or.inr (Or.inr (Or.inr (Or.inr (Or.inl ⟨h, (Sp.reg_bd hk ha).2, h63 h⟩))))
  | ret h ha _ => exact Or.inr (Or.inr (Or.inr (Or.inr (Or.inr ⟨h, (Sp.reg_bd hk ha).2⟩))))
  | put _ h => exact absurd (Or.inl h) hne
  | get _ h => exact absurd (Or.inr (Or.inl h)) hne
  | clrS _ h => exact absurd (Or.inr (Or.inr h)) hne
  | clrR _ h => exact absurd (Or.inr (Or.inr h)) hne

theorem Sp.frm_of {k : Int} (hk0 : 0 ≤ k) (hk : k ≤ 10) {s : ByteArray} (hp : Sp.progB (Sp.B s) s.size k = true) {i : Nat} (hin : i < s.size / 4) (hf : Sp.B s (4 * i) = 62 ∨ Sp.B s (4 * i) = 60 ∨ Sp.B s (4 * i) = 126) :
    Sp.B s (4 * i + 1) < 128 ∧ (Sp.B s (4 * i) ≠ 126 → Sp.B s (4 * i + 2) < 128) ∧ (Sp.B s (4 * i) = 62 → Sp.letB (Sp.B s (4 * i + 1)) = true) ∧ (Sp.B s (4 * i) = 60 → Sp.letB (Sp.B s (4 * i + 2)) = true) := by
  have hok := Sp.okIns_of_progB hp i hin
  have hdok : Sp.dokK k (Sp.B s) i = true := by
    have := hok
    rw [Sp.okK_eq _ _ k hk0, Bool.and_eq_true] at this
    exact this.1
  have hF := Sp.form_of hk0 hdok
  generalize Sp.insK k (Sp.B s) i = I at hF
  generalize Sp.B s (4 * i) = o at *
  generalize Sp.B s (4 * i + 1) = a at *
  generalize Sp.B s (4 * i + 2) = b at *
  generalize Sp.B s (4 * i + 3) = d at *
  cases hF with
  | ar h ha hb hd => simp only [Sp.arithB, Bool.or_eq_true, beq_iff_eq] at h; omega
  | num h => omega
  | two h => omega
  | sto h => omega
  | jmp h => omega
  | cnd h => omega
  | ret h => omega
  | put _ h ha hb => exact ⟨(Sp.let_bd ha).2, fun _ => (Sp.reg_bd hk hb).2, fun _ => ha, fun e => by omega⟩
  | get _ h ha hb => exact ⟨(Sp.reg_bd hk ha).2, fun _ => (Sp.let_bd hb).2, fun e => by omega, fun _ => hb⟩
  | clrS _ h ha => exact ⟨(Sp.let_bd ha).2, fun e => absurd h e, fun e => by omega, fun e => by omega⟩
  | clrR _ h ha => exact ⟨(Sp.reg_bd hk ha).2, fun e => absurd h e, fun e => by omega, fun e => by omega⟩

namespace Sp
theorem frmS_ok {st : St} {m : Nat} (h : st.ok m) (o a b : Int) : (frmS st o a b).ok (m + 9) := by
  have two : ∀ x y : UInt8, (st.trace ++ (⟨#[x, y]⟩ : ByteArray)).size ≤ m + 9 := fun x y => by
    rw [ByteArray.size_append]
    have : (⟨#[x, y]⟩ : ByteArray).size = 2 := rfl
    have := h.trace
    omega
  have z : (0 : Int) ≤ 0 ∧ (0 : Int) ≤ 65535 := by omega
  unfold frmS
  split
  · exact ⟨upd_bd h.hold _ (h.hold _), h.pub, h.sec, two _ _⟩
  split
  · exact ⟨upd_bd h.hold _ (h.hold _), h.pub, h.sec, two _ _⟩
  split
  · exact ⟨upd_bd h.hold _ z, h.pub, h.sec, two _ _⟩
  · exact ⟨upd_bd h.hold _ z, h.pub, h.sec, Nat.le_trans h.trace (by omega)⟩
theorem stepU_ok {k : Int} (hk0 : 0 ≤ k) (hk : k ≤ 10) {s : ByteArray} {st : St} {i m : Nat} (h : st.ok m) (hp : progB (B s) s.size k = true) (hin : i < s.size / 4) : (stepU s st i).1.ok (m + 9) := by
  unfold stepU
  split
  · exact frmS_ok (st := { st with next := i + 1 }) ⟨h.hold, h.pub, h.sec, h.trace⟩ _ _ _
  · rename_i hf
    exact stepT_okB h (insB_of hk0 hk hp hin hf)
theorem stepU_next {k : Int} {s : ByteArray} {st : St} {i : Nat} (hp : progB (B s) s.size k = true) (hin : i < s.size / 4) (h : (stepU s st i).2 = true) : ∃ j, j < s.size / 4 ∧ (stepU s st i).1.next = (j : Int) := by
  unfold stepU at h ⊢
  split
  · rename_i hf
    refine ⟨i + 1, ?_, by rw [frmS_next]; rfl⟩
    have G := good_of_progB hp
    by_cases e : i = s.size / 4 - 1
    · have := G.last
      rw [← e] at this
      simp only [endB, Bool.or_eq_true, beq_iff_eq] at this
      omega
    · omega
  · rename_i hf
    rw [if_neg hf] at h
    exact stepT_next hp hin h
/-- the places of a machine program's arguments -/
def pM (j : Nat) : Nat := 48 + j
end Sp
end Go.Proofs.YtccndnckceagfabGreatDoorR
