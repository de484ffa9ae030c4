/-
  The plain mathematics of the document's reading of a program: bytes as integers, a text as a function from places to bytes. Nothing of the program's translation is named here.
-/
namespace Go.Proofs.YtccndnckceagfabGreatDoorR.Sp

def lowB (c : Int) : Bool := decide (97 ≤ c ∧ c ≤ 122)
def uppB (c : Int) : Bool := decide (65 ≤ c ∧ c ≤ 90)
def digB (c : Int) : Bool := decide (48 ≤ c ∧ c ≤ 57)
def letB (c : Int) : Bool := lowB c || uppB c
/-- byte k of a text, 0 where it has none -/
def B (s : ByteArray) (k : Nat) : Int := ((s.data.getD k 0).toNat : Int)
def amgB (c : Int) (s : ByteArray) : Bool := s.data.toList.any fun b => (b.toNat : Int) == c
def endB (o : Int) : Bool := o == 106 || o == 63 || o == 114
def arithB (o : Int) : Bool := o == 43 || o == 45 || o == 42 || o == 38 || o == 94
def blocksTo (c : Nat → Int) : Nat → Nat
  | 0 => 0
  | i + 1 => blocksTo c i + (if endB (c (4 * i)) = true then 1 else 0)

def shp (o : Int) (m : Bool) : ByteArray :=
  if arithB o = true then ⟨#[82, 82, 82]⟩
  else if o = 35 then ⟨#[82, 78, 78]⟩
  else if o = 61 ∨ o = 108 ∨ o = 76 ∨ o = 115 ∨ o = 83 then ⟨#[82, 82, 46]⟩
  else if o = 106 then ⟨#[66, 46, 46]⟩
  else if o = 63 then ⟨#[82, 66, 66]⟩
  else if o = 114 then (if m = true then ⟨#[48, 46, 46]⟩ else ⟨#[82, 46, 46]⟩)
  else if m = false then ⟨#[]⟩
  else if o = 62 then ⟨#[80, 82, 46]⟩
  else if o = 60 then ⟨#[82, 80, 46]⟩
  else if o = 126 then ⟨#[81, 46, 46]⟩
  else ⟨#[]⟩

def regB (c regs : Int) : Bool := if regs = 0 then letB c else digB c && decide (c - 48 < regs)
def fitB (c w regs n : Int) : Bool :=
  if w = 82 then regB c regs
  else if w = 78 then digB c
  else if w = 66 then digB c && (c != 48) && decide (c - 48 < n)
  else if w = 80 then letB c
  else if w = 81 then regB c regs || letB c
  else c == w

def okIns (c : Nat → Int) (nb : Nat) (regs : Int) (i : Nat) : Bool :=
  decide ((shp (c (4 * i)) (decide (0 < regs))).size = 3) && (List.range 3).all fun k => fitB (c (4 * i + k + 1)) (B (shp (c (4 * i)) (decide (0 < regs))) k) regs nb

/-- is a text of 'size' bytes a program? -/
def progB (c : Nat → Int) (size : Nat) (regs : Int) : Bool :=
  decide (size ≠ 0) && decide (size % 4 = 0) && decide (blocksTo c (size / 4) ≤ 10) && endB (c (4 * (size / 4 - 1))) && (List.range (size / 4)).all fun i => okIns c (blocksTo c (size / 4)) regs i

def wrB (o a v : Int) : Bool := (arithB o || o == 35 || o == 61 || o == 108 || o == 76) && a == v
def rdB (o a b d v : Int) : Bool :=
  if arithB o = true then b == v || d == v
  else if o = 61 ∨ o = 108 ∨ o = 76 then b == v
  else if o = 115 ∨ o = 83 then a == v || b == v
  else if o = 63 ∨ o = 114 then a == v
  else false
def shwB (o a b d : Int) : Bool :=
  if arithB o = true then lowB a && (uppB b || uppB d)
  else if o = 61 then lowB a && uppB b
  else if o = 108 then uppB b
  else if o = 76 then uppB b || lowB a
  else if o = 115 then uppB a || uppB b
  else if o = 83 ∨ o = 63 then uppB a
  else false

/-- the first instruction of block k: the least place ahead of which k blocks have ended -/
def firstIn (c : Nat → Int) (k : Nat) : Nat → Nat → Nat
  | 0, i => i
  | f + 1, i => if blocksTo c i = k then i else firstIn c k f (i + 1)
def fst (c : Nat → Int) (n k : Nat) : Nat := firstIn c k n 0

def nextL (c : Nat → Int) (n i : Nat) : List Nat :=
  if c (4 * i) = 114 then []
  else if c (4 * i) = 106 then [fst c n (c (4 * i + 1) - 48).toNat]
  else if c (4 * i) = 63 then [fst c n (c (4 * i + 2) - 48).toNat, fst c n (c (4 * i + 3) - 48).toNat]
  else [i + 1]

def rdAt (c : Nat → Int) (v : Int) (i : Nat) : Bool := rdB (c (4 * i)) (c (4 * i + 1)) (c (4 * i + 2)) (c (4 * i + 3)) v
def wrAt (c : Nat → Int) (v : Int) (i : Nat) : Bool := wrB (c (4 * i)) (c (4 * i + 1)) v
/-- is v read, by a way of at most k steps from instruction i, ahead of being written? -/
def wantN (c : Nat → Int) (n : Nat) (v : Int) : Nat → Nat → Bool
  | 0, i => rdAt c v i
  | k + 1, i => rdAt c v i || (!(wrAt c v i) && (nextL c n i).any fun j => wantN c n v k j)
def Want (c : Nat → Int) (n : Nat) (v : Int) (i : Nat) : Prop := ∃ k, wantN c n v k i = true

theorem B_bd (s : ByteArray) (k : Nat) : 0 ≤ B s k ∧ B s k ≤ 255 := by
  unfold B
  have := (s.data.getD k 0).toNat_lt
  omega
theorem B_get (s : ByteArray) (k : Nat) (h : k < s.size) : ((s[k]).toNat : Int) = B s k := by
  unfold B
  have h' : k < s.data.size := h
  rw [Array.getD, dif_pos h']
  rfl
theorem B_ext (s : ByteArray) (i j : Nat) (hj : j < 4) (h : 4 * i + 4 ≤ s.size) : B (s.extract (4 * i) (4 * i + 4)) j = B s (4 * i + j) := by
  have h1 : j < (s.extract (4 * i) (4 * i + 4)).size := by simp [ByteArray.size_extract]; omega
  rw [← B_get _ _ h1, ← B_get s (4 * i + j) (by omega)]
  simp [ByteArray.getElem_extract]
theorem B_ext0 (s : ByteArray) (i : Nat) (h : 4 * i + 4 ≤ s.size) : B (s.extract (4 * i) (4 * i + 4)) 0 = B s (4 * i) := B_ext s i 0 (by omega) h
theorem size_ext (s : ByteArray) (i : Nat) (h : 4 * i + 4 ≤ s.size) : (s.extract (4 * i) (4 * i + 4)).size = 4 := by
  simp [ByteArray.size_extract]; omega

/-- x is the text's instruction i -/
structure InsAt (c : Nat → Int) (i : Nat) (x : ByteArray) : Prop where
  size : x.size = 4
  all : ∀ j, j < 4 → B x j = c (4 * i + j)
theorem InsAt.get {c : Nat → Int} {i : Nat} {x : ByteArray} (h : InsAt c i x) (j : Nat) (hj : j < x.size) : ((x[j]).toNat : Int) = c (4 * i + j) := by
  rw [B_get, h.all j (by have := h.size; omega)]
theorem InsAt.get0 {c : Nat → Int} {i : Nat} {x : ByteArray} (h : InsAt c i x) (hj : 0 < x.size) : ((x[0]).toNat : Int) = c (4 * i) := h.get 0 hj
theorem InsAt.B0 {c : Nat → Int} {i : Nat} {x : ByteArray} (h : InsAt c i x) : B x 0 = c (4 * i) := h.all 0 (by omega)
theorem InsAt.B1 {c : Nat → Int} {i : Nat} {x : ByteArray} (h : InsAt c i x) : B x 1 = c (4 * i + 1) := h.all 1 (by omega)
theorem InsAt.B2 {c : Nat → Int} {i : Nat} {x : ByteArray} (h : InsAt c i x) : B x 2 = c (4 * i + 2) := h.all 2 (by omega)
theorem InsAt.B3 {c : Nat → Int} {i : Nat} {x : ByteArray} (h : InsAt c i x) : B x 3 = c (4 * i + 3) := h.all 3 (by omega)
theorem insAt_ext (s : ByteArray) (i : Nat) (h : 4 * i + 4 ≤ s.size) : InsAt (B s) i (s.extract (4 * i) (4 * i + 4)) :=
  ⟨size_ext s i h, fun j hj => B_ext s i j hj h⟩
theorem shp_size (o : Int) (m : Bool) : ((shp o m).size = 0 ∧ (shp o m).toList.isEmpty = true) ∨ ((shp o m).size = 3 ∧ (shp o m).toList.isEmpty = false) := by
  have ite_ok : ∀ (p : Prop) [Decidable p] (a b : ByteArray), ((a.size = 0 ∧ a.toList.isEmpty = true) ∨ (a.size = 3 ∧ a.toList.isEmpty = false)) → ((b.size = 0 ∧ b.toList.isEmpty = true) ∨ (b.size = 3 ∧ b.toList.isEmpty = false)) → (((if p then a else b).size = 0 ∧ (if p then a else b).toList.isEmpty = true) ∨ ((if p then a else b).size = 3 ∧ (if p then a else b).toList.isEmpty = false)) := by
    intro p _ a b h1 h2; split <;> assumption
  unfold shp
  repeat' (first | exact Or.inl ⟨rfl, by decide +kernel⟩ | exact Or.inr ⟨rfl, by decide +kernel⟩ | refine ite_ok _ _ _ ?_ ?_)
theorem progB_no (c : Nat → Int) (size : Nat) (regs : Int) (k : Nat) (hk : k < size / 4) (h : okIns c (blocksTo c (size / 4)) regs k = false) : progB c size regs = false := by
  unfold progB
  have : ((List.range (size / 4)).all fun i => okIns c (blocksTo c (size / 4)) regs i) = false := List.all_eq_false.2 ⟨k, List.mem_range.2 hk, by simp [h]⟩
  rw [this, Bool.and_false]
theorem progB_yes (c : Nat → Int) (size : Nat) (regs : Int) (h5 : 4 ≤ size) (h4 : size % 4 = 0) (hb : blocksTo c (size / 4) ≤ 10) (he : endB (c (4 * (size / 4 - 1))) = true) (h : ∀ k, k < size / 4 → okIns c (blocksTo c (size / 4)) regs k = true) : progB c size regs = true := by
  unfold progB
  have : ((List.range (size / 4)).all fun i => okIns c (blocksTo c (size / 4)) regs i) = true := List.all_eq_true.2 fun k hk => h k (List.mem_range.1 hk)
  rw [this, he]
  simp [h4, hb]
  omega
theorem amg_ops (c : Int) : amgB c ⟨#[43, 45, 42, 38, 94, 35, 61, 108, 76]⟩ = (arithB c || c == 35 || c == 61 || c == 108 || c == 76) := by
  show (((43 : Nat) : Int) == c || (((45 : Nat) : Int) == c || (((42 : Nat) : Int) == c || (((38 : Nat) : Int) == c || (((94 : Nat) : Int) == c || (((35 : Nat) : Int) == c || (((61 : Nat) : Int) == c || (((108 : Nat) : Int) == c || (((76 : Nat) : Int) == c || false))))))))) = _
  rw [Bool.eq_iff_iff]
  simp only [arithB, Bool.or_eq_true, beq_iff_eq, Bool.false_eq_true, or_false]
  omega
theorem amg_args (c : Int) : amgB c ⟨#[97, 98, 65, 66]⟩ = (c == 97 || c == 98 || c == 65 || c == 66) := by
  show (((97 : Nat) : Int) == c || (((98 : Nat) : Int) == c || (((65 : Nat) : Int) == c || (((66 : Nat) : Int) == c || false)))) = _
  rw [Bool.eq_iff_iff]
  simp only [Bool.or_eq_true, beq_iff_eq, Bool.false_eq_true, or_false]
  omega
theorem blocksTo_mono (c : Nat → Int) {i j : Nat} (h : i ≤ j) : blocksTo c i ≤ blocksTo c j := by
  induction j with
  | zero => have : i = 0 := by omega
            subst this; exact Nat.le_refl _
  | succ j ih =>
    by_cases e : i = j + 1
    · subst e; exact Nat.le_refl _
    · have := ih (by omega)
      simp only [blocksTo]; omega
theorem blocksTo_le (c : Nat → Int) (i : Nat) : blocksTo c i ≤ i := by
  induction i with
  | zero => simp [blocksTo]
  | succ i ih => simp only [blocksTo]; split <;> omega

theorem blocksTo_succ (c : Nat → Int) (i : Nat) : blocksTo c (i + 1) = blocksTo c i + (if endB (c (4 * i)) = true then 1 else 0) := rfl
theorem blocksTo_yes (c : Nat → Int) (i : Nat) (h : endB (c (4 * i)) = true) : blocksTo c (i + 1) = blocksTo c i + 1 := by rw [blocksTo_succ, if_pos h]
theorem blocksTo_no (c : Nat → Int) (i : Nat) (h : endB (c (4 * i)) = false) : blocksTo c (i + 1) = blocksTo c i := by rw [blocksTo_succ, h]; rfl
theorem firstIn_eq (c : Nat → Int) (k : Nat) (f i j : Nat) (hij : i ≤ j) (hf : j ≤ i + f) (hj : blocksTo c j = k) (hlt : ∀ m, i ≤ m → m < j → blocksTo c m ≠ k) : firstIn c k f i = j := by
  induction f generalizing i with
  | zero => simp only [firstIn]; omega
  | succ f ih =>
    simp only [firstIn]
    by_cases e : i = j
    · subst e; simp [hj]
    · rw [if_neg (hlt i (Nat.le_refl _) (by omega))]
      exact ih (i + 1) (by omega) (by omega) (fun m h1 h2 => hlt m (by omega) h2)
/-- what 'fst' is: the least place ahead of which k blocks have ended. -/
theorem fst_eq (c : Nat → Int) (n k j : Nat) (hjn : j ≤ n) (hj : blocksTo c j = k) (hlt : ∀ m, m < j → blocksTo c m ≠ k) : fst c n k = j :=
  firstIn_eq c k n 0 j (Nat.zero_le _) (by omega) hj (fun m _ h => hlt m h)
theorem fst_spec (c : Nat → Int) (n k : Nat) (h : k ≤ blocksTo c n) : fst c n k ≤ n ∧ blocksTo c (fst c n k) = k ∧ ∀ m, m < fst c n k → blocksTo c m < k := by
  have : ∃ j, j ≤ n ∧ blocksTo c j = k ∧ ∀ m, m < j → blocksTo c m < k := by
    induction n with
    | zero => exact ⟨0, Nat.le_refl _, by simp [blocksTo] at h ⊢; omega, fun m hm => by omega⟩
    | succ n ih =>
      by_cases hk : k ≤ blocksTo c n
      · obtain ⟨j, h1, h2, h3⟩ := ih hk
        exact ⟨j, by omega, h2, h3⟩
      · refine ⟨n + 1, Nat.le_refl _, ?_, fun m hm => ?_⟩
        · have : blocksTo c (n + 1) ≤ blocksTo c n + 1 := by simp only [blocksTo]; split <;> omega
          omega
        · have := blocksTo_mono c (show m ≤ n by omega)
          omega
  obtain ⟨j, h1, h2, h3⟩ := this
  rw [fst_eq c n k j h1 h2 (fun m hm => by have := h3 m hm; omega)]
  exact ⟨h1, h2, h3⟩
end Go.Proofs.YtccndnckceagfabGreatDoorR.Sp
