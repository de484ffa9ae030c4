/-
  What is written of machine instructions is read as them: plain mathematics.
-/
import Derived.Test.YtccndnckceagfabGreatDoorRHSnd5
namespace Go.Proofs.YtccndnckceagfabGreatDoorR.Sp

def dgB (n : Int) : Int := if n < 0 ∨ 9 < n then 46 else 48 + n
def plB (p : Int) : Int := if 10 ≤ p then letP (p - 10) else dgB p
/-- the byte of an instruction where its shape has p -/
def giv (i : Ins) (p : Int) : Int :=
  if p = 100 ∨ p = 68 ∨ p = 113 then plB i.d
  else if p = 120 ∨ p = 88 ∨ p = 48 then plB i.x
  else if p = 121 then plB i.y
  else if p = 116 then dgB (i.n / 10)
  else if p = 110 then dgB (i.n % 10)
  else if p = 107 then dgB i.k
  else if p = 109 then dgB i.m
  else p
/-- instructions of a machine with k registers, in a program of nb blocks -/
inductive MI (k : Int) (nb : Nat) : Ins → Prop
  | ar (o d x y : Int) : arithB o = true → Rg k d → Rg k x → Rg k y → MI k nb ⟨o, d, x, y, 0, -1, -1⟩
  | num (d n : Int) : Rg k d → 0 ≤ n ∧ n ≤ 99 → MI k nb ⟨35, d, -1, -1, n, -1, -1⟩
  | two (o d x : Int) : (o = 61 ∨ o = 108 ∨ o = 76) → Rg k d → Rg k x → MI k nb ⟨o, d, x, -1, 0, -1, -1⟩
  | sto (o x y : Int) : (o = 115 ∨ o = 83) → Rg k x → Rg k y → MI k nb ⟨o, -1, x, y, 0, -1, -1⟩
  | jmp (t : Int) : 1 ≤ t ∧ t < nb → MI k nb ⟨106, -1, -1, -1, 0, t, -1⟩
  | cnd (x t u : Int) : Rg k x → 1 ≤ t ∧ t < nb → 1 ≤ u ∧ u < nb → MI k nb ⟨63, -1, x, -1, 0, t, u⟩
  | ret : MI k nb ⟨114, -1, 0, -1, 0, -1, -1⟩
  | put (d x : Int) : 10 ≤ d ∧ d < 62 → Rg k x → MI k nb ⟨62, d, x, -1, 0, -1, -1⟩
  | get (d x : Int) : Rg k d → 10 ≤ x ∧ x < 62 → MI k nb ⟨60, d, x, -1, 0, -1, -1⟩
  | clr (d : Int) : Rg k d ∨ (10 ≤ d ∧ d < 62) → MI k nb ⟨126, d, -1, -1, 0, -1, -1⟩
/-- the bytes of an instruction -/
structure Bytes (c : Nat → Int) (k : Int) (j : Nat) (i : Ins) : Prop where
  o : c (4 * j) = i.o
  b : ∀ q, q < 3 → c (4 * j + q + 1) = giv i (B (shpK k i.o) q)
theorem dgB_of {n : Int} (h : 0 ≤ n ∧ n ≤ 9) : dgB n = 48 + n := by
  unfold dgB
  rw [if_neg (by omega)]
theorem dig_dgB {n : Int} (h : 0 ≤ n ∧ n ≤ 9) : digB (dgB n) = true := by
  rw [dgB_of h]
  simp only [digB, decide_eq_true_eq]
  omega
theorem dgO_dgB {n : Int} (h : 0 ≤ n ∧ n ≤ 9) : dgO (dgB n) = n := by
  unfold dgO
  rw [if_pos (dig_dgB h), dgB_of h]
  omega
theorem plB_dig {p : Int} (h : p < 10) : plB p = dgB p := by
  unfold plB
  rw [if_neg (by omega)]
theorem plB_reg {k p : Int} (hk : 6 ≤ k ∧ k ≤ 10) (h : Rg k p) : rgK k (plB p) = p := by
  unfold Rg at h
  rw [plB_dig (by omega)]
  unfold rgK
  rw [dgO_dgB (by omega), if_neg (by omega), if_neg (by omega)]
theorem plB_slot {p : Int} (h : 10 ≤ p ∧ p < 62) : slO (plB p) = p := by
  have e : plB p = letP (p - 10) := by
    unfold plB
    rw [if_pos h.1]
  have h1 : letP (p - 10) = B alpha (p - 10).toNat := by
    unfold letP
    rw [if_pos (by omega)]
  have h2 := alpha_yes (p - 10).toNat (letP (p - 10)) (by omega) h1.symm
  rw [e]
  unfold slO
  rw [h2, if_neg (by omega)]
  omega
theorem slO_dig {k p : Int} (hk : 6 ≤ k ∧ k ≤ 10) (h : Rg k p) : slO (plB p) = -1 := by
  unfold Rg at h
  rw [plB_dig (by omega), dgB_of (by omega)]
  have : rgO (48 + p) = -1 := by
    unfold rgO lowB uppB
    simp only [decide_eq_true_eq]
    rw [if_neg (by omega), if_neg (by omega)]
  unfold slO
  rw [this, if_pos rfl]
theorem dok_read {k o : Int} {c : Nat → Int} {j : Nat} {p0 p1 p2 : UInt8} (ho : c (4 * j) = o) (hs : shpK k o = ⟨#[p0, p1, p2]⟩) :
    insK k c j = tkIK (tkIK (tkIK ⟨o, -1, -1, -1, 0, -1, -1⟩ (p0.toNat : Int) (c (4 * j + 1)) (plO k (p0.toNat : Int) (c (4 * j + 1)))) (p1.toNat : Int) (c (4 * j + 2)) (plO k (p1.toNat : Int) (c (4 * j + 2)))) (p2.toNat : Int) (c (4 * j + 3)) (plO k (p2.toNat : Int) (c (4 * j + 3))) ∧
    dokK k c j = (tkBK (p0.toNat : Int) (c (4 * j + 1)) (plO k (p0.toNat : Int) (c (4 * j + 1))) && tkBK (p1.toNat : Int) (c (4 * j + 2)) (plO k (p1.toNat : Int) (c (4 * j + 2))) && tkBK (p2.toNat : Int) (c (4 * j + 3)) (plO k (p2.toNat : Int) (c (4 * j + 3)))) := by
  constructor
  · show tkIK (tkIK (tkIK ⟨c (4 * j), -1, -1, -1, 0, -1, -1⟩ (B (shpK k (c (4 * j))) 0) (c (4 * j + 1)) (plO k (B (shpK k (c (4 * j))) 0) (c (4 * j + 1)))) (B (shpK k (c (4 * j))) 1) (c (4 * j + 2)) (plO k (B (shpK k (c (4 * j))) 1) (c (4 * j + 2)))) (B (shpK k (c (4 * j))) 2) (c (4 * j + 3)) (plO k (B (shpK k (c (4 * j))) 2) (c (4 * j + 3))) = _
    rw [ho, hs]
    rfl
  · show (decide ((shpK k (c (4 * j))).size = 3) && (tkBK (B (shpK k (c (4 * j))) 0) (c (4 * j + 1)) (plO k (B (shpK k (c (4 * j))) 0) (c (4 * j + 1))) && tkBK (B (shpK k (c (4 * j))) 1) (c (4 * j + 2)) (plO k (B (shpK k (c (4 * j))) 1) (c (4 * j + 2))) && tkBK (B (shpK k (c (4 * j))) 2) (c (4 * j + 3)) (plO k (B (shpK k (c (4 * j))) 2) (c (4 * j + 3))))) = _
    rw [ho, hs]
    rfl
/-- what the shapes are -/
theorem shp_ar {k o : Int} (h : arithB o = true) : shpK k o = ⟨#[100, 120, 121]⟩ := by
  have := arith_ops h
  unfold shpK
  split
  · simp [dshp, h]
  · rw [if_neg (by omega), if_neg (by omega), if_neg (by omega), if_neg (by omega)]
    simp [dshp, h]
theorem read_back {k : Int} (hk : 6 ≤ k ∧ k ≤ 10) {nb : Nat} (hnb : nb ≤ 10) {c : Nat → Int} {j : Nat} {i : Ins} (hi : MI k nb i) (hb : Bytes c k j i) : insK k c j = i ∧ dokK k c j = true := by
  have hk0 : ¬ k = 0 := by omega
  have b0 := hb.b 0 (by decide)
  have b1 := hb.b 1 (by decide)
  have b2 := hb.b 2 (by decide)
  rw [show 4 * j + 0 + 1 = 4 * j + 1 from rfl] at b0
  rw [show 4 * j + 1 + 1 = 4 * j + 2 from rfl] at b1
  rw [show 4 * j + 2 + 1 = 4 * j + 3 from rfl] at b2
  have ho := hb.o
  have P := plO_plain k
  have R := fun p (h : Rg k p) => plB_reg hk h
  have fin : ∀ (q : UInt8), tkBK 46 46 (plO k 46 46) = true := fun _ => by rw [tkB_dot]; rfl
  cases hi with
  | ar o d x y ha hd hx hy =>
    have hs := shp_ar (k := k) ha
    obtain ⟨r1, r2⟩ := dok_read ho hs
    simp only [hs] at b0 b1 b2
    have c0 : c (4 * j + 1) = plB d := b0
    have c1 : c (4 * j + 2) = plB x := b1
    have c2 : c (4 * j + 3) = plB y := b2
    rw [r1, r2, c0, c1, c2]
    show tkIK (tkIK (tkIK ⟨o, -1, -1, -1, 0, -1, -1⟩ 100 (plB d) (plO k 100 (plB d))) 120 (plB x) (plO k 120 (plB x))) 121 (plB y) (plO k 121 (plB y)) = _ ∧ (tkBK 100 (plB d) (plO k 100 (plB d)) && tkBK 120 (plB x) (plO k 120 (plB x)) && tkBK 121 (plB y) (plO k 121 (plB y))) = true
    rw [P 100 _ (by decide) (by decide) (by decide) (by decide), P 120 _ (by decide) (by decide) (by decide) (by decide), P 121 _ (by decide) (by decide) (by decide) (by decide), R d hd, R x hx, R y hy]
    unfold Rg at hd hx hy
    refine ⟨rfl, ?_⟩
    simp [tkBK]
    omega
  | num d n hd hn =>
    have hs : shpK k 35 = ⟨#[100, 116, 110]⟩ := by simp [shpK, hk0, dshp, arithB]
    obtain ⟨r1, r2⟩ := dok_read ho hs
    simp only [hs] at b0 b1 b2
    have c0 : c (4 * j + 1) = plB d := b0
    have c1 : c (4 * j + 2) = dgB (n / 10) := b1
    have c2 : c (4 * j + 3) = dgB (n % 10) := b2
    rw [r1, r2, c0, c1, c2]
    show tkIK (tkIK (tkIK ⟨35, -1, -1, -1, 0, -1, -1⟩ 100 (plB d) (plO k 100 (plB d))) 116 (dgB (n / 10)) (plO k 116 (dgB (n / 10)))) 110 (dgB (n % 10)) (plO k 110 (dgB (n % 10))) = _ ∧ (tkBK 100 (plB d) (plO k 100 (plB d)) && tkBK 116 (dgB (n / 10)) (plO k 116 (dgB (n / 10))) && tkBK 110 (dgB (n % 10)) (plO k 110 (dgB (n % 10)))) = true
    rw [P 100 _ (by decide) (by decide) (by decide) (by decide), R d hd, tkB_dig' 116 _ _ (by decide), tkB_dig' 110 _ _ (by decide), dig_dgB (by omega), dig_dgB (by omega)]
    have e : tkIK (tkIK (tkIK ⟨35, -1, -1, -1, 0, -1, -1⟩ 100 (plB d) d) 116 (dgB (n / 10)) (plO k 116 (dgB (n / 10)))) 110 (dgB (n % 10)) (plO k 110 (dgB (n % 10))) = ⟨35, d, -1, -1, (0 * 10 + dgO (dgB (n / 10))) * 10 + dgO (dgB (n % 10)), -1, -1⟩ := rfl
    rw [e, dgO_dgB (by omega), dgO_dgB (by omega)]
    unfold Rg at hd
    refine ⟨?_, ?_⟩
    · congr 1
      omega
    · simp [tkBK]
      omega
  | two o d x h hd hx =>
    have hs : shpK k o = ⟨#[100, 120, 46]⟩ := by
      rcases h with rfl | rfl | rfl <;> simp [shpK, hk0, dshp, arithB]
    obtain ⟨r1, r2⟩ := dok_read ho hs
    simp only [hs] at b0 b1 b2
    have c0 : c (4 * j + 1) = plB d := b0
    have c1 : c (4 * j + 2) = plB x := b1
    have c2 : c (4 * j + 3) = 46 := b2
    rw [r1, r2, c0, c1, c2]
    show tkIK (tkIK (tkIK ⟨o, -1, -1, -1, 0, -1, -1⟩ 100 (plB d) (plO k 100 (plB d))) 120 (plB x) (plO k 120 (plB x))) 46 46 (plO k 46 46) = _ ∧ (tkBK 100 (plB d) (plO k 100 (plB d)) && tkBK 120 (plB x) (plO k 120 (plB x)) && tkBK 46 46 (plO k 46 46)) = true
    rw [P 100 _ (by decide) (by decide) (by decide) (by decide), P 120 _ (by decide) (by decide) (by decide) (by decide), R d hd, R x hx, tkB_dot]
    unfold Rg at hd hx
    refine ⟨rfl, ?_⟩
    simp [tkBK]
    omega
  | sto o x y h hx hy =>
    have hs : shpK k o = ⟨#[120, 121, 46]⟩ := by
      rcases h with rfl | rfl <;> simp [shpK, hk0, dshp, arithB]
    obtain ⟨r1, r2⟩ := dok_read ho hs
    simp only [hs] at b0 b1 b2
    have c0 : c (4 * j + 1) = plB x := b0
    have c1 : c (4 * j + 2) = plB y := b1
    have c2 : c (4 * j + 3) = 46 := b2
    rw [r1, r2, c0, c1, c2]
    show tkIK (tkIK (tkIK ⟨o, -1, -1, -1, 0, -1, -1⟩ 120 (plB x) (plO k 120 (plB x))) 121 (plB y) (plO k 121 (plB y))) 46 46 (plO k 46 46) = _ ∧ (tkBK 120 (plB x) (plO k 120 (plB x)) && tkBK 121 (plB y) (plO k 121 (plB y)) && tkBK 46 46 (plO k 46 46)) = true
    rw [P 120 _ (by decide) (by decide) (by decide) (by decide), P 121 _ (by decide) (by decide) (by decide) (by decide), R x hx, R y hy, tkB_dot]
    unfold Rg at hx hy
    refine ⟨rfl, ?_⟩
    simp [tkBK]
    omega
  | jmp t ht =>
    have hs : shpK k 106 = ⟨#[107, 46, 46]⟩ := by simp [shpK, hk0, dshp, arithB]
    obtain ⟨r1, r2⟩ := dok_read ho hs
    simp only [hs] at b0 b1 b2
    have c0 : c (4 * j + 1) = dgB t := b0
    have c1 : c (4 * j + 2) = 46 := b1
    have c2 : c (4 * j + 3) = 46 := b2
    rw [r1, r2, c0, c1, c2]
    show tkIK (tkIK (tkIK ⟨106, -1, -1, -1, 0, -1, -1⟩ 107 (dgB t) (plO k 107 (dgB t))) 46 46 (plO k 46 46)) 46 46 (plO k 46 46) = _ ∧ (tkBK 107 (dgB t) (plO k 107 (dgB t)) && tkBK 46 46 (plO k 46 46) && tkBK 46 46 (plO k 46 46)) = true
    rw [tkB_dot, tkB_dig' 107 _ _ (by decide), dig_dgB (by omega)]
    have e : tkIK (tkIK (tkIK ⟨106, -1, -1, -1, 0, -1, -1⟩ 107 (dgB t) (plO k 107 (dgB t))) 46 46 (plO k 46 46)) 46 46 (plO k 46 46) = ⟨106, -1, -1, -1, 0, dgO (dgB t), -1⟩ := rfl
    rw [e, dgO_dgB (by omega)]
    exact ⟨rfl, rfl⟩
  | cnd x t u hx ht hu =>
    have hs : shpK k 63 = ⟨#[120, 107, 109]⟩ := by simp [shpK, hk0, dshp, arithB]
    obtain ⟨r1, r2⟩ := dok_read ho hs
    simp only [hs] at b0 b1 b2
    have c0 : c (4 * j + 1) = plB x := b0
    have c1 : c (4 * j + 2) = dgB t := b1
    have c2 : c (4 * j + 3) = dgB u := b2
    rw [r1, r2, c0, c1, c2]
    show tkIK (tkIK (tkIK ⟨63, -1, -1, -1, 0, -1, -1⟩ 120 (plB x) (plO k 120 (plB x))) 107 (dgB t) (plO k 107 (dgB t))) 109 (dgB u) (plO k 109 (dgB u)) = _ ∧ (tkBK 120 (plB x) (plO k 120 (plB x)) && tkBK 107 (dgB t) (plO k 107 (dgB t)) && tkBK 109 (dgB u) (plO k 109 (dgB u))) = true
    rw [P 120 _ (by decide) (by decide) (by decide) (by decide), R x hx, tkB_dig' 107 _ _ (by decide), dig_dgB (by omega), tkB_dig' 109 _ _ (by decide), dig_dgB (by omega)]
    have e : tkIK (tkIK (tkIK ⟨63, -1, -1, -1, 0, -1, -1⟩ 120 (plB x) x) 107 (dgB t) (plO k 107 (dgB t))) 109 (dgB u) (plO k 109 (dgB u)) = ⟨63, -1, x, -1, 0, dgO (dgB t), dgO (dgB u)⟩ := rfl
    rw [e, dgO_dgB (by omega), dgO_dgB (by omega)]
    unfold Rg at hx
    refine ⟨rfl, ?_⟩
    simp [tkBK]
    omega
  | ret =>
    have hs : shpK k 114 = ⟨#[48, 46, 46]⟩ := by simp [shpK, hk0]
    obtain ⟨r1, r2⟩ := dok_read ho hs
    simp only [hs] at b0 b1 b2
    have c0 : c (4 * j + 1) = 48 := b0
    have c1 : c (4 * j + 2) = 46 := b1
    have c2 : c (4 * j + 3) = 46 := b2
    rw [r1, r2, c0, c1, c2]
    show tkIK (tkIK (tkIK ⟨114, -1, -1, -1, 0, -1, -1⟩ 48 48 (plO k 48 48)) 46 46 (plO k 46 46)) 46 46 (plO k 46 46) = _ ∧ (tkBK 48 48 (plO k 48 48) && tkBK 46 46 (plO k 46 46) && tkBK 46 46 (plO k 46 46)) = true
    have e0 : plO k 48 48 = 0 := by
      have h1 := plB_reg hk (show Rg k 0 by unfold Rg; omega)
      have h2 : plB 0 = 48 := rfl
      rw [h2] at h1
      simp [plO, h1]
    rw [tkB_dot, e0]
    exact ⟨rfl, rfl⟩
  | put d x hd hx =>
    have hs : shpK k 62 = ⟨#[68, 120, 46]⟩ := by simp [shpK, hk0]
    obtain ⟨r1, r2⟩ := dok_read ho hs
    simp only [hs] at b0 b1 b2
    have c0 : c (4 * j + 1) = plB d := b0
    have c1 : c (4 * j + 2) = plB x := b1
    have c2 : c (4 * j + 3) = 46 := b2
    rw [r1, r2, c0, c1, c2]
    show tkIK (tkIK (tkIK ⟨62, -1, -1, -1, 0, -1, -1⟩ 68 (plB d) (plO k 68 (plB d))) 120 (plB x) (plO k 120 (plB x))) 46 46 (plO k 46 46) = _ ∧ (tkBK 68 (plB d) (plO k 68 (plB d)) && tkBK 120 (plB x) (plO k 120 (plB x)) && tkBK 46 46 (plO k 46 46)) = true
    have e0 : plO k 68 (plB d) = d := by
      have := plB_slot hd
      simp [plO, this]
    rw [e0, P 120 _ (by decide) (by decide) (by decide) (by decide), R x hx, tkB_dot]
    unfold Rg at hx
    refine ⟨rfl, ?_⟩
    simp [tkBK]
    omega
  | get d x hd hx =>
    have hs : shpK k 60 = ⟨#[100, 88, 46]⟩ := by simp [shpK, hk0]
    obtain ⟨r1, r2⟩ := dok_read ho hs
    simp only [hs] at b0 b1 b2
    have c0 : c (4 * j + 1) = plB d := b0
    have c1 : c (4 * j + 2) = plB x := b1
    have c2 : c (4 * j + 3) = 46 := b2
    rw [r1, r2, c0, c1, c2]
    show tkIK (tkIK (tkIK ⟨60, -1, -1, -1, 0, -1, -1⟩ 100 (plB d) (plO k 100 (plB d))) 88 (plB x) (plO k 88 (plB x))) 46 46 (plO k 46 46) = _ ∧ (tkBK 100 (plB d) (plO k 100 (plB d)) && tkBK 88 (plB x) (plO k 88 (plB x)) && tkBK 46 46 (plO k 46 46)) = true
    have e0 : plO k 88 (plB x) = x := by
      have := plB_slot hx
      simp [plO, this]
    rw [e0, P 100 _ (by decide) (by decide) (by decide) (by decide), R d hd, tkB_dot]
    unfold Rg at hd
    refine ⟨rfl, ?_⟩
    simp [tkBK]
    omega
  | clr d hd =>
    have hs : shpK k 126 = ⟨#[113, 46, 46]⟩ := by simp [shpK, hk0]
    obtain ⟨r1, r2⟩ := dok_read ho hs
    simp only [hs] at b0 b1 b2
    have c0 : c (4 * j + 1) = plB d := b0
    have c1 : c (4 * j + 2) = 46 := b1
    have c2 : c (4 * j + 3) = 46 := b2
    rw [r1, r2, c0, c1, c2]
    show tkIK (tkIK (tkIK ⟨126, -1, -1, -1, 0, -1, -1⟩ 113 (plB d) (plO k 113 (plB d))) 46 46 (plO k 46 46)) 46 46 (plO k 46 46) = _ ∧ (tkBK 113 (plB d) (plO k 113 (plB d)) && tkBK 46 46 (plO k 46 46) && tkBK 46 46 (plO k 46 46)) = true
    have e0 : plO k 113 (plB d) = d := by
      rcases hd with hd | hd
      · have h1 := plB_reg hk hd
        have h2 := slO_dig hk hd
        simp [plO, h1, h2]
      · have := plB_slot hd
        have hne : ¬ d = -1 := by omega
        simp [plO, this, hne]
    rw [e0, tkB_dot]
    have hd' : 0 ≤ d := by
      rcases hd with hd | hd
      · exact hd.1
      · omega
    refine ⟨rfl, ?_⟩
    simp [tkBK]
    omega
theorem MI.tgt {k : Int} {nb : Nat} {i : Ins} (h : MI k nb i) : isTgt i.k nb = true ∧ isTgt i.m nb = true := by
  cases h with
  | jmp t ht => exact ⟨by unfold isTgt; simp; omega, rfl⟩
  | cnd x t u hx ht hu => exact ⟨by unfold isTgt; simp; omega, by unfold isTgt; simp; omega⟩
  | _ => exact ⟨rfl, rfl⟩
/-- the whole text is a program, and this one -/
theorem prog_back {k : Int} (hk : 6 ≤ k ∧ k ≤ 10) {nb : Nat} (hnb : nb ≤ 10) {t : ByteArray} {D : List Ins} (hD : 0 < D.length) (hsz : t.size = 4 * D.length) (hi : ∀ j (h : j < D.length), MI k nb D[j]) (hb : ∀ j (h : j < D.length), Bytes (B t) k j D[j]) (he : ∀ h : D.length - 1 < D.length, endI D[D.length - 1] = true) (hn : cntI endI D D.length = nb) :
    progB (B t) t.size k = true ∧ codeK k (B t) (t.size / 4) = D := by
  have hq : t.size / 4 = D.length := by omega
  have hr := fun j (h : j < D.length) => read_back hk hnb (hi j h) (hb j h)
  have hc : codeK k (B t) (t.size / 4) = D := by
    refine List.ext_getElem (by rw [codeK_len]; exact hq) (fun j h1 h2 => ?_)
    rw [codeK_get]
    exact (hr j h2).1
  have hcb := cnt_blocks (c := B t) (C := D) (fun j h => ((hb j h).o).symm) D.length (Nat.le_refl _)
  rw [hn] at hcb
  refine ⟨?_, hc⟩
  refine progB_yes (B t) t.size k (by omega) (by omega) (by rw [hq, ← hcb]; exact hnb) ?_ (fun j hj => ?_)
  · rw [hq]
    have h1 := he (by omega)
    rw [(hb (D.length - 1) (by omega)).o]
    exact h1
  · rw [hq] at hj
    rw [okK_eq (B t) _ k (by omega), (hr j hj).2, (hr j hj).1, hq, ← hcb, (hi j hj).tgt.1, (hi j hj).tgt.2]
    rfl
end Go.Proofs.YtccndnckceagfabGreatDoorR.Sp
