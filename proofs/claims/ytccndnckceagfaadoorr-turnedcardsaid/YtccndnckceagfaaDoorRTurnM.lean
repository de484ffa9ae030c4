/-
  A program's registers under other names: plain mathematics.
-/
import Derived.Test.YtccndnckceagfaaDoorRCoreN
import Derived.Test.YtccndnckceagfaaDoorRRunE
namespace Go.Proofs.YtccndnckceagfaaDoorR.Sp

/-- the register that stands b further on in its ring -/
def nx (b c : Int) : Int := if 99 ≤ c ∧ c ≤ 122 then 99 + (c - 99 + b) % 24 else if 67 ≤ c ∧ c ≤ 90 then 67 + (c - 67 + b) % 24 else c
theorem nx_cases {b : Int} (_h0 : 0 ≤ b) (_h1 : b < 24) (c : Int) : (99 ≤ c ∧ c ≤ 122 ∧ 99 ≤ nx b c ∧ nx b c ≤ 122 ∧ nx b c = 99 + (c - 99 + b) % 24) ∨ (67 ≤ c ∧ c ≤ 90 ∧ 67 ≤ nx b c ∧ nx b c ≤ 90 ∧ nx b c = 67 + (c - 67 + b) % 24) ∨ (¬ (99 ≤ c ∧ c ≤ 122) ∧ ¬ (67 ≤ c ∧ c ≤ 90) ∧ nx b c = c) := by
  unfold nx
  by_cases h : 99 ≤ c ∧ c ≤ 122
  · rw [if_pos h]; omega
  · rw [if_neg h]
    by_cases h' : 67 ≤ c ∧ c ≤ 90
    · rw [if_pos h']; omega
    · rw [if_neg h']; omega
theorem nx_inj {b : Int} (h0 : 0 ≤ b) (h1 : b < 24) {c d : Int} (h : nx b c = nx b d) : c = d := by
  have hc := nx_cases h0 h1 c
  have hd := nx_cases h0 h1 d
  omega
theorem nx_beq {b : Int} (h0 : 0 ≤ b) (h1 : b < 24) (c d : Int) : (nx b c == nx b d) = (c == d) := by
  rw [Bool.eq_iff_iff, beq_iff_eq, beq_iff_eq]
  exact ⟨nx_inj h0 h1, fun e => by rw [e]⟩
theorem nx_low {b : Int} (h0 : 0 ≤ b) (h1 : b < 24) (c : Int) : lowB (nx b c) = lowB c := by
  have hc := nx_cases h0 h1 c
  rw [Bool.eq_iff_iff]
  simp only [lowB, decide_eq_true_eq]
  omega
theorem nx_upp {b : Int} (h0 : 0 ≤ b) (h1 : b < 24) (c : Int) : uppB (nx b c) = uppB c := by
  have hc := nx_cases h0 h1 c
  rw [Bool.eq_iff_iff]
  simp only [uppB, decide_eq_true_eq]
  omega
theorem nx_let {b : Int} (h0 : 0 ≤ b) (h1 : b < 24) (c : Int) : letB (nx b c) = letB c := by unfold letB; rw [nx_low h0 h1, nx_upp h0 h1]
theorem nx_dig {b : Int} (h0 : 0 ≤ b) (h1 : b < 24) {c : Int} (h : digB c = true) : nx b c = c := by
  have hc := nx_cases h0 h1 c
  simp only [digB, decide_eq_true_eq] at h
  omega
theorem nx_dig' {b : Int} (h0 : 0 ≤ b) (h1 : b < 24) (c : Int) : digB (nx b c) = digB c := by
  have hc := nx_cases h0 h1 c
  rw [Bool.eq_iff_iff]
  simp only [digB, decide_eq_true_eq]
  omega
theorem nx_arg {b : Int} (h0 : 0 ≤ b) (h1 : b < 24) (c : Int) : argB (nx b c) = argB c := by
  have hc := nx_cases h0 h1 c
  rw [Bool.eq_iff_iff]
  simp only [argB, Bool.or_eq_true, beq_iff_eq]
  omega
theorem nx_sur {b : Int} (h0 : 0 ≤ b) (h1 : b < 24) {v : Int} (h : letB v = true) : ∃ u, letB u = true ∧ nx b u = v := by
  refine ⟨nx ((24 - b) % 24) v, by rw [nx_let (by omega) (by omega)]; exact h, ?_⟩
  have hc := nx_cases (b := (24 - b) % 24) (by omega) (by omega) v
  have hd := nx_cases h0 h1 (nx ((24 - b) % 24) v)
  omega
theorem fit_nx {b : Int} (h0 : 0 ≤ b) (h1 : b < 24) (c w : Int) (n : Nat) (hw : w = 82 ∨ w = 78 ∨ w = 66 ∨ w = 46) : fitB (nx b c) w 0 n = fitB c w 0 n := by
  have hd := nx_dig' h0 h1 c
  rcases hw with rfl | rfl | rfl | rfl
  · show regB (nx b c) 0 = regB c 0
    unfold regB
    rw [if_pos rfl, if_pos rfl]
    exact nx_let h0 h1 c
  · exact hd
  · show (digB (nx b c) && (nx b c != 48) && decide (nx b c - 48 < n)) = (digB c && (c != 48) && decide (c - 48 < n))
    rw [hd]
    cases h : digB c
    · rfl
    · rw [nx_dig h0 h1 h]
  · show (nx b c == 46) = (c == 46)
    have hc := nx_cases h0 h1 c
    rw [Bool.eq_iff_iff, beq_iff_eq, beq_iff_eq]
    omega
theorem shp_vals (o : Int) (k : Nat) (hk : k < 3) (hz : (shp o false).size = 3) : B (shp o false) k = 82 ∨ B (shp o false) k = 78 ∨ B (shp o false) k = 66 ∨ B (shp o false) k = 46 := by
  have hk' : k = 0 ∨ k = 1 ∨ k = 2 := by omega
  have hs : shp o false = ⟨#[82, 82, 82]⟩ ∨ shp o false = ⟨#[82, 78, 78]⟩ ∨ shp o false = ⟨#[82, 82, 46]⟩ ∨ shp o false = ⟨#[66, 46, 46]⟩ ∨ shp o false = ⟨#[82, 66, 66]⟩ ∨ shp o false = ⟨#[82, 46, 46]⟩ ∨ shp o false = ⟨#[]⟩ := by
    unfold shp
    by_cases g1 : arithB o = true
    · rw [if_pos g1]; exact Or.inl rfl
    rw [if_neg g1]
    by_cases g2 : o = 35
    · rw [if_pos g2]; exact Or.inr (Or.inl rfl)
    rw [if_neg g2]
    by_cases g3 : o = 61 ∨ o = 108 ∨ o = 76 ∨ o = 115 ∨ o = 83
    · rw [if_pos g3]; exact Or.inr (Or.inr (Or.inl rfl))
    rw [if_neg g3]
    by_cases g4 : o = 106
    · rw [if_pos g4]; exact Or.inr (Or.inr (Or.inr (Or.inl rfl)))
    rw [if_neg g4]
    by_cases g5 : o = 63
    · rw [if_pos g5]; exact Or.inr (Or.inr (Or.inr (Or.inr (Or.inl rfl))))
    rw [if_neg g5]
    by_cases g6 : o = 114
    · rw [if_pos g6, if_neg (by decide)]; exact Or.inr (Or.inr (Or.inr (Or.inr (Or.inr (Or.inl rfl)))))
    rw [if_neg g6, if_pos rfl]
    exact Or.inr (Or.inr (Or.inr (Or.inr (Or.inr (Or.inr rfl)))))
  rcases hs with h | h | h | h | h | h | h <;> rw [h] at hz ⊢ <;> rcases hk' with rfl | rfl | rfl <;> first | decide | (cases hz)
/-- d is c with its registers under other names -/
structure Trn (c d : Nat → Int) (b : Int) (n : Nat) : Prop where
  b0 : 0 ≤ b
  b1 : b < 24
  op : ∀ i, d (4 * i) = c (4 * i)
  at' : ∀ i k, i < n → 1 ≤ k → k ≤ 3 → d (4 * i + k) = nx b (c (4 * i + k))
theorem Trn.blocks {c d : Nat → Int} {b : Int} {n : Nat} (T : Trn c d b n) (m : Nat) : blocksTo d m = blocksTo c m := by
  induction m with
  | zero => rfl
  | succ m ih => simp only [blocksTo]; rw [ih, T.op]
theorem Trn.first {c d : Nat → Int} {b : Int} {n : Nat} (T : Trn c d b n) (k : Nat) : ∀ f i, firstIn d k f i = firstIn c k f i
  | 0, _ => rfl
  | f + 1, i => by
    simp only [firstIn]
    rw [T.blocks i, Trn.first T k f (i + 1)]
theorem Trn.fst {c d : Nat → Int} {b : Int} {n : Nat} (T : Trn c d b n) (m k : Nat) : Sp.fst d m k = Sp.fst c m k := T.first k m 0
theorem Trn.ok {c d : Nat → Int} {b : Int} {n : Nat} (T : Trn c d b n) {i : Nat} (hi : i < n) (nb : Nat) : okIns d nb 0 i = okIns c nb 0 i := by
  unfold okIns
  rw [T.op i]
  simp only [show decide ((0 : Int) < 0) = false from rfl]
  by_cases hz : (shp (c (4 * i)) false).size = 3
  · congr 1
    rw [Bool.eq_iff_iff, List.all_eq_true, List.all_eq_true]
    constructor
    · intro h k hk
      have hk' := List.mem_range.1 hk
      have := h k hk
      rw [show 4 * i + k + 1 = 4 * i + (k + 1) from rfl, T.at' i (k + 1) hi (by omega) (by omega), fit_nx T.b0 T.b1 _ _ _ (shp_vals _ k hk' hz)] at this
      exact this
    · intro h k hk
      have hk' := List.mem_range.1 hk
      have := h k hk
      rw [show 4 * i + k + 1 = 4 * i + (k + 1) from rfl, T.at' i (k + 1) hi (by omega) (by omega), fit_nx T.b0 T.b1 _ _ _ (shp_vals _ k hk' hz)]
      exact this
  · simp [hz]
theorem Trn.rd {c d : Nat → Int} {b : Int} {n : Nat} (T : Trn c d b n) {i : Nat} (hi : i < n) (v : Int) : rdAt d (nx b v) i = rdAt c v i := by
  have a1 := T.at' i 1 hi (by omega) (by omega)
  have a2 := T.at' i 2 hi (by omega) (by omega)
  have a3 := T.at' i 3 hi (by omega) (by omega)
  unfold rdAt rdB
  rw [T.op i, a1, a2, a3]
  simp only [nx_beq T.b0 T.b1]
theorem Trn.wr {c d : Nat → Int} {b : Int} {n : Nat} (T : Trn c d b n) {i : Nat} (hi : i < n) (v : Int) : wrAt d (nx b v) i = wrAt c v i := by
  have a1 := T.at' i 1 hi (by omega) (by omega)
  unfold wrAt wrB
  rw [T.op i, a1]
  simp only [nx_beq T.b0 T.b1]
theorem Trn.shw {c d : Nat → Int} {b : Int} {n : Nat} (T : Trn c d b n) {i : Nat} (hi : i < n) : shwAt d i = shwAt c i := by
  have a1 := T.at' i 1 hi (by omega) (by omega)
  have a2 := T.at' i 2 hi (by omega) (by omega)
  have a3 := T.at' i 3 hi (by omega) (by omega)
  unfold shwAt shwB
  rw [T.op i, a1, a2, a3]
  simp only [nx_low T.b0 T.b1, nx_upp T.b0 T.b1]
theorem Trn.prog {c d : Nat → Int} {b : Int} {size : Nat} (T : Trn c d b (size / 4)) : progB d size 0 = progB c size 0 := by
  unfold progB
  rw [T.blocks, T.op]
  congr 1
  rw [Bool.eq_iff_iff, List.all_eq_true, List.all_eq_true]
  exact ⟨fun h i hi => by rw [← T.ok (List.mem_range.1 hi)]; exact h i hi, fun h i hi => by rw [T.ok (List.mem_range.1 hi)]; exact h i hi⟩
/-- the digits of blocks stay as they are -/
theorem Trn.digs {c d : Nat → Int} {b : Int} {size : Nat} (T : Trn c d b (size / 4)) (hp : progB c size 0 = true) {i : Nat} (hi : i < size / 4) : (c (4 * i) = 106 → d (4 * i + 1) = c (4 * i + 1)) ∧ (c (4 * i) = 63 → d (4 * i + 2) = c (4 * i + 2) ∧ d (4 * i + 3) = c (4 * i + 3)) := by
  have fk := fun k hk => fit_of_okIns (okIns_of_progB hp i hi) k hk
  refine ⟨fun o => ?_, fun o => ?_⟩
  · have g := fk 0 (by omega)
    rw [o, shp_106, show B ⟨#[66, 46, 46]⟩ 0 = 66 from rfl] at g
    have g := fit_B g
    simp only [Nat.add_zero] at g
    rw [T.at' i 1 hi (by omega) (by omega)]
    exact nx_dig T.b0 T.b1 (by simp only [digB, decide_eq_true_eq]; omega)
  · have g1 := fk 1 (by omega)
    have g2 := fk 2 (by omega)
    rw [o, shp_63, show B ⟨#[82, 66, 66]⟩ 1 = 66 from rfl] at g1
    rw [o, shp_63, show B ⟨#[82, 66, 66]⟩ 2 = 66 from rfl] at g2
    have g1 := fit_B g1
    have g2 := fit_B g2
    rw [show 4 * i + 1 + 1 = 4 * i + 2 from rfl] at g1
    rw [show 4 * i + 2 + 1 = 4 * i + 3 from rfl] at g2
    rw [T.at' i 2 hi (by omega) (by omega), T.at' i 3 hi (by omega) (by omega)]
    exact ⟨nx_dig T.b0 T.b1 (by simp only [digB, decide_eq_true_eq]; omega), nx_dig T.b0 T.b1 (by simp only [digB, decide_eq_true_eq]; omega)⟩
theorem Trn.next {c d : Nat → Int} {b : Int} {size : Nat} (T : Trn c d b (size / 4)) (hp : progB c size 0 = true) {i : Nat} (hi : i < size / 4) : nextL d (size / 4) i = nextL c (size / 4) i := by
  obtain ⟨g1, g2⟩ := T.digs hp hi
  unfold nextL
  rw [T.op i]
  by_cases o1 : c (4 * i) = 114
  · rw [if_pos o1, if_pos o1]
  rw [if_neg o1, if_neg o1]
  by_cases o2 : c (4 * i) = 106
  · rw [if_pos o2, if_pos o2, g1 o2, T.fst]
  rw [if_neg o2, if_neg o2]
  by_cases o3 : c (4 * i) = 63
  · rw [if_pos o3, if_pos o3, (g2 o3).1, (g2 o3).2, T.fst, T.fst]
  rw [if_neg o3, if_neg o3]
theorem Trn.wantN {c d : Nat → Int} {b : Int} {size : Nat} (T : Trn c d b (size / 4)) (hp : progB c size 0 = true) (v : Int) : ∀ m i, i < size / 4 → Sp.wantN d (size / 4) (nx b v) m i = Sp.wantN c (size / 4) v m i
  | 0, i, hi => T.rd hi v
  | m + 1, i, hi => by
    simp only [Sp.wantN]
    rw [T.rd hi, T.wr hi, T.next hp hi]
    congr 1
    congr 1
    have G := good_of_progB hp
    rw [Bool.eq_iff_iff, List.any_eq_true, List.any_eq_true]
    constructor
    · rintro ⟨j, hj, h⟩
      exact ⟨j, hj, by rw [← Trn.wantN T hp v m j (nextL_lt G hi j hj)]; exact h⟩
    · rintro ⟨j, hj, h⟩
      exact ⟨j, hj, by rw [Trn.wantN T hp v m j (nextL_lt G hi j hj)]; exact h⟩
theorem Trn.want {c d : Nat → Int} {b : Int} {size : Nat} (T : Trn c d b (size / 4)) (hp : progB c size 0 = true) (v : Int) {i : Nat} (hi : i < size / 4) : Want d (size / 4) (nx b v) i ↔ Want c (size / 4) v i :=
  ⟨fun ⟨m, h⟩ => ⟨m, by rw [← T.wantN hp v m i hi]; exact h⟩, fun ⟨m, h⟩ => ⟨m, by rw [T.wantN hp v m i hi]; exact h⟩⟩
theorem Trn.unset {c d : Nat → Int} {b : Int} {size : Nat} (T : Trn c d b (size / 4)) (hp : progB c size 0 = true) : Unset d (size / 4) ↔ Unset c (size / 4) := by
  have hz := size_of_progB hp
  constructor
  · rintro ⟨v, h1, h2, h3⟩
    obtain ⟨u, hu, rfl⟩ := nx_sur T.b0 T.b1 h1
    exact ⟨u, hu, by rw [← nx_arg T.b0 T.b1]; exact h2, (T.want hp u (by omega)).1 h3⟩
  · rintro ⟨v, h1, h2, h3⟩
    exact ⟨nx b v, by rw [nx_let T.b0 T.b1]; exact h1, by rw [nx_arg T.b0 T.b1]; exact h2, (T.want hp v (by omega)).2 h3⟩
theorem formed_trn {s t : ByteArray} {b : Int} (hz : t.size = s.size) (T : Trn (B s) (B t) b (s.size / 4)) (e : Int) : FormedR t e ↔ FormedR s e := by
  unfold FormedR
  rw [hz, T.prog]
  by_cases hp : progB (B s) s.size 0 = true
  · rw [T.unset hp]
  · have hp' : progB (B s) s.size 0 = false := by simpa using hp
    rw [hp']
    simp
theorem check_trn {s t : ByteArray} {b : Int} (hz : t.size = s.size) (T : Trn (B s) (B t) b (s.size / 4)) {m e m' e' : Int} (h : CheckR s m e) (h' : CheckR t m' e') : m = m' ∧ e = e' := by
  have : CheckR s m' e' := by
    unfold CheckR at h' ⊢
    rw [formed_trn hz T, formed_trn hz T, hz] at h'
    rcases h' with a | ⟨a, ⟨i, hi, hs⟩, r⟩ | ⟨a, hs, r⟩
    · exact Or.inl a
    · exact Or.inr (Or.inl ⟨a, ⟨i, hi, by rw [← T.shw hi]; exact hs⟩, r⟩)
    · exact Or.inr (Or.inr ⟨a, fun i hi => by rw [← T.shw hi]; exact hs i hi, r⟩)
  exact h.eq this
end Go.Proofs.YtccndnckceagfaaDoorR.Sp
