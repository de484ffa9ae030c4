/-
  Which registers meet, as the program finds it: contracts of its functions on graphs.
-/
import Derived.Test.YtccndnckceagfabGreatDoorRG09
namespace Go.Proofs.YtccndnckceagfabGreatDoorR
open Go.RowKit

/-- at block b lies the graph G: cells 0 to 51 tell which registers stand, then 52 rows of 52 cells tell which meet -/
def GrAt (w : World) (b : Nat) (G : Nat → Bool) : Prop := w.rowIs b 89 2756 (fun j => .bool (G j))
theorem GrAt.of_block {w w' : World} {b : Nat} {G : Nat → Bool} (h : GrAt w b G) (e : w'.heap[b]? = w.heap[b]?) : GrAt w' b G := World.rowIs.of_block h e
theorem GrAt.lt {w : World} {b : Nat} {G : Nat → Bool} (h : GrAt w b G) : b < w.heap.size := World.rowIs.lt h
theorem GrAt.congr {w : World} {b : Nat} {G H : Nat → Bool} (h : GrAt w b G) (e : ∀ j, j < 2756 → G j = H j) : GrAt w b H := World.rowIs.congr h (fun j hj => by rw [e j hj])
theorem GrAt.sets {w : World} {b : Nat} {G : Nat → Bool} (h : GrAt w b G) (o : Nat) (ho : o + 52 ≤ 2756) : SetAt w b o (fun x => G (o + x)) :=
  ⟨fun r hr => World.rowIs.cell h (by omega), fun r _ => World.rowIs.frozen h _⟩
theorem GrAt.put {w : World} {b : Nat} {G : Nat → Bool} (h : GrAt w b G) (j : Nat) (v : Bool) : GrAt (w.setCell ⟨b, j, none⟩ (.bool v)) b (fun x => if x = j then v else G x) :=
  World.rowIs.congr (World.rowIs.set h j (.bool v)) (fun x _ => by
    show _ = Value.bool (if x = j then v else G x)
    by_cases e : x = j
    · rw [if_pos e, if_pos e]
    · rw [if_neg e, if_neg e])

set_option maxHeartbeats 400000 in
theorem put_exact (b o : Nat) (S : Nat → Bool) (r : Int) (v : Bool) (w : World) (h : SetAt w b o S) (hr : r < 52) :
    Calls Tryz.prog 37 #[.pointer (some ⟨b, o, none⟩), .int .i64 r, .bool v] w fun e w' => e = .returned (.tuple #[]) ∧ w' = if 0 ≤ r then w.setCell ⟨b, o + r.toNat, none⟩ (.bool v) else w := by
  by_cases h0 : 0 ≤ r
  · obtain ⟨k, rfl⟩ := Int.eq_ofNat_of_zero_le h0
    have hk : k < 52 := by omega
    have c := h.cell k hk
    have z := h.free k hk
    clear h
    go_enter Tryz.func37, Tryz.ntmps37
    go_wp2
    go_end0
    exact ⟨rfl, rfl⟩
  · clear h
    go_enter Tryz.func37, Tryz.ntmps37
    go_wp2
    go_end0
    exact ⟨rfl, rfl⟩
namespace Sp
/-- one cell of a graph set, if there is one -/
def putI (G : Nat → Bool) (o : Nat) (r : Int) : Nat → Bool := if 0 ≤ r then fun x => if x = o + r.toNat then true else G x else G
/-- the first m others laid into the graph, where r meets them -/
def maTo (G : Nat → Bool) (r : Nat) (S : Nat → Bool) : Nat → Nat → Bool
  | 0 => G
  | m + 1 => if m ≠ r ∧ S m = true then putI (putI (maTo G r S m) (52 + r * 52) m) (52 + m * 52) r else maTo G r S m
def maG (G : Nat → Bool) (r : Int) (S : Nat → Bool) : Nat → Bool := if 0 ≤ r then maTo G r.toNat S 52 else G
def stG (G : Nat → Bool) (i : Ins) : Nat → Bool := putI (putI (putI G 0 i.d) 0 i.x) 0 i.y
end Sp
/-- one cell of a graph set by the program -/
theorem gput_any (b o : Nat) (G : Nat → Bool) (r : Int) (w : World) (h : GrAt w b G) (ho : o + 52 ≤ 2756) (hr : r < 52) :
    Calls Tryz.prog 37 #[.pointer (some ⟨b, o, none⟩), .int .i64 r, .bool true] w fun e w' => e = .returned (.tuple #[]) ∧ GrAt w' b (Sp.putI G o r) ∧ Only b w w' := by
  refine (put_exact b o _ r true w (h.sets o ho) hr).mono ?_
  rintro e w' ⟨rfl, rfl⟩
  refine ⟨rfl, ?_, ?_⟩
  · unfold Sp.putI
    by_cases h0 : 0 ≤ r
    · rw [if_pos h0, if_pos h0]
      exact h.put _ _
    · rw [if_neg h0, if_neg h0]
      exact h
  · by_cases h0 : 0 ≤ r
    · rw [if_pos h0]; exact Only.set _ _ _ _
    · rw [if_neg h0]; exact Only.refl _ _

set_option maxRecDepth 20000 in
set_option maxHeartbeats 2000000 in
theorem stand_any (b : Nat) (G : Nat → Bool) (o d x y n k m : Int) (w : World) (h : GrAt w b G) (hd : d < 52) (hx : x < 52) (hy : y < 52) :
    Calls Tryz.prog 63 #[.pointer (some ⟨b, 0, none⟩), .agg #[.int .u8 o, .int .i64 d, .int .i64 x, .int .i64 y, .int .i64 n, .int .i64 k, .int .i64 m]] w fun e w' => e = .returned (.tuple #[]) ∧ GrAt w' b (Sp.stG G ⟨o, d, x, y, n, k, m⟩) ∧ But w.heap.size b w w' := by
  have hlt := h.lt
  have HB0 := hid (show Below w.heap.size w (w.alloc (.cells #[.int .u8 o, .int .i64 d, .int .i64 x, .int .i64 y, .int .i64 n, .int .i64 k, .int .i64 m] 74)) from (Below.refl _ _).alloc (Nat.le_refl _) _)
  have HG := hid (h.of_block (HB0.out.block b hlt))
  have r0 := row_new w o d x y n k m 74
  have hsz : (w.alloc (.cells #[.int .u8 o, .int .i64 d, .int .i64 x, .int .i64 y, .int .i64 n, .int .i64 k, .int .i64 m] 74)).heap.size = w.heap.size + 1 := by simp
  have HR := hid r0
  obtain ⟨_, c1, c2, c3, _, _, _⟩ := row_cells r0
  clear h r0
  go_enter Tryz.func63, Tryz.ntmps63
  go_wp2_with fail
  generalize w.alloc (.cells #[.int .u8 o, .int .i64 d, .int .i64 x, .int .i64 y, .int .i64 n, .int .i64 k, .int .i64 m] 74) = W at *
  go_region_with (go_at_call 37; refine (gput_any b 0 G d _ (by exact HG.out) (by omega) hd).mono ?_; rintro e w1 ⟨rfl, hg1, ho1⟩; have HG1 := hid hg1; have HO1 := hid ho1; clear hg1 ho1)
  all_goals
    have HR1 := hid (HR.out.of_block (w' := w1) (by rw [HO1.out.block w.heap.size (by omega)]; rfl))
    clear c1 c2 c3
    obtain ⟨_, c1, c2, c3, _, _, _⟩ := row_cells HR1.out
    have HOW1 := hid (show Only b W w1 from ⟨HO1.out.os, HO1.out.tape, HO1.out.output, HO1.out.size, HO1.out.block⟩)
    clear HO1
    go_wp2_with fail
    go_region_with (go_at_call 37; refine (gput_any b 0 _ x _ (by exact HG1.out) (by omega) hx).mono ?_; rintro e w2 ⟨rfl, hg2, ho2⟩; have HG2 := hid hg2; have HO2 := hid ho2; clear hg2 ho2)
    all_goals
      have HR2 := hid (HR1.out.of_block (w' := w2) (by rw [HO2.out.block w.heap.size (by omega)]; rfl))
      clear c1 c2 c3
      obtain ⟨_, c1, c2, c3, _, _, _⟩ := row_cells HR2.out
      have HOW2 := hid (HOW1.out.trans (show Only b w1 w2 from ⟨HO2.out.os, HO2.out.tape, HO2.out.output, HO2.out.size, HO2.out.block⟩))
      clear HO2
      go_wp2_with fail
      go_region_with (go_at_call 37; refine (gput_any b 0 _ y _ (by exact HG2.out) (by omega) hy).mono ?_; rintro e w3 ⟨rfl, hg3, ho3⟩; have HG3 := hid hg3; have HO3 := hid ho3; clear hg3 ho3)
      all_goals
        have HOW3 := hid (HOW2.out.trans (show Only b w2 w3 from ⟨HO3.out.os, HO3.out.tape, HO3.out.output, HO3.out.size, HO3.out.block⟩))
        clear HO3 c1 c2 c3
        go_wp2_with fail
        go_end0
        exact ⟨rfl, HG3.out, ⟨HOW3.out.os.trans HB0.out.os, HOW3.out.tape.trans HB0.out.tape, HOW3.out.output.trans HB0.out.output, by rw [HOW3.out.size]; exact HB0.out.size, fun j hj hne => (HOW3.out.block j hne).trans (HB0.out.block j hj)⟩⟩

set_option maxRecDepth 20000 in
set_option maxHeartbeats 2000000 in
theorem meetAll_any (b sb so : Nat) (G S : Nat → Bool) (r : Int) (w : World) (h : GrAt w b G) (hS : SetAt w sb so S) (hne : sb ≠ b) (hr : r < 52) :
    Calls Tryz.prog 64 #[.pointer (some ⟨b, 0, none⟩), .int .i64 r, .pointer (some ⟨sb, so, none⟩)] w fun e w' => e = .returned (.tuple #[]) ∧ GrAt w' b (Sp.maG G r S) ∧ Only b w w' := by
  by_cases h0 : 0 ≤ r
  · obtain ⟨k, rfl⟩ := Int.eq_ofNat_of_zero_le h0
    have hk : k < 52 := by omega
    have HE := hid (show Sp.maG G (k : Int) S = Sp.maTo G k S 52 by unfold Sp.maG; rw [if_pos (by omega), Int.toNat_natCast])
    have HG := hid h
    have HS := hid hS
    clear h hS h0
    have t1 : decide ((k : Int) < 0) = false := by simp
    have t2 : decide ((52 : Int) ≤ k) = false := by simp; omega
    go_enter Tryz.func64, Tryz.ntmps64
    go_wp2_with fail
    go_loopw [6] (fun mv wr => ∃ m : Nat, m ≤ 52 ∧ mv = .int .i64 m ∧ GrAt wr b (Sp.maTo G k S m) ∧ Only b w wr) (fun mv _ => 52 - (intOf mv).toNat)
    case atStart => exact ⟨0, by omega, rfl, HG.out, Only.refl _ _⟩
    case round =>
      obtain ⟨m, hm, rfl, hg, ho⟩ := hrel
      have HGM := hid hg
      have HO := hid ho
      have HSM := hid (HS.out.of_block (ho.block sb hne))
      clear hg ho
      by_cases hlt : m < 52
      · by_cases hmk : m = k
        · have HN := hid (show Sp.maTo G k S (m + 1) = Sp.maTo G k S m by simp only [Sp.maTo]; rw [if_neg (by omega)])
          have he : ((m : Int) != (k : Int)) = false := by simp [hmk]
          go_wp2_with fail
          go_roundw
          case rel => exact ⟨m + 1, by omega, by go_num, by rw [HN.out]; exact HGM.out, HO.out⟩
          case measure => simp [intOf]; omega
        · have he : ((m : Int) != (k : Int)) = true := by simp; omega
          have HHS := hid (has_any sb so S m wr HSM.out hlt)
          cases hsm : S m
          · have HN := hid (show Sp.maTo G k S (m + 1) = Sp.maTo G k S m by simp only [Sp.maTo]; rw [if_neg (by rw [hsm]; simp)])
            rw [hsm] at HHS
            clear hsm
            go_wp2_with (go_at_call 45; refine HHS.out.mono ?_; rintro e w' ⟨rfl, rfl⟩)
            go_roundw
            case rel => exact ⟨m + 1, by omega, by go_num, by rw [HN.out]; exact HGM.out, HO.out⟩
            case measure => simp [intOf]; omega
          · have HN := hid (show Sp.maTo G k S (m + 1) = Sp.putI (Sp.putI (Sp.maTo G k S m) (52 + k * 52) m) (52 + m * 52) k by simp only [Sp.maTo]; rw [if_pos ⟨hmk, hsm⟩])
            rw [hsm] at HHS
            clear hsm
            have HP1 := hid (gput_any b (52 + k * 52) _ (m : Int) wr HGM.out (by omega) (by omega))
            go_upto_region 6 with (first | (go_at_call 45; refine HHS.out.mono ?_; rintro e w' ⟨rfl, rfl⟩) | (go_at_call 37; refine HP1.out.mono ?_; rintro e w1 ⟨rfl, hg1, ho1⟩; have HG1 := hid hg1; have HO1 := hid (HO.out.trans ho1); clear hg1 ho1))
            have HP2 := hid (gput_any b (52 + m * 52) _ (k : Int) w1 HG1.out (by omega) (by omega))
            go_wp2_with (go_at_call 37; refine HP2.out.mono ?_; rintro e w2 ⟨rfl, hg2, ho2⟩; have HG2 := hid hg2; have HO2 := hid (HO1.out.trans ho2); clear hg2 ho2)
            go_roundw
            case rel => exact ⟨m + 1, by omega, by go_num, by rw [HN.out]; exact HG2.out, HO2.out⟩
            case measure => simp [intOf]; omega
      · have HM := hid (show m = 52 by omega)
        go_wp2_with fail
        go_end0
        exact ⟨rfl, by rw [HE.out, ← HM.out]; exact HGM.out, HO.out⟩
  · have HE := hid (show Sp.maG G r S = G by unfold Sp.maG; rw [if_neg h0])
    have HG := hid h
    have hneg : r < 0 := by omega
    clear h hS h0
    go_enter Tryz.func64, Tryz.ntmps64
    go_wp2_with fail
    refine bodyPost_ret (v := .tuple #[]) (by simp [results, Tryz.results64]) rfl ⟨rfl, by rw [HE.out]; exact HG.out, Only.refl _ _⟩

set_option maxHeartbeats 1000000 in
theorem gmeet_any (b : Nat) (G : Nat → Bool) (r m : Nat) (w : World) (h : GrAt w b G) (hr : r < 52) (hm : m < 52) :
    Calls Tryz.prog 85 #[.pointer (some ⟨b, 0, none⟩), .int .i64 r, .int .i64 m] w fun e w' => e = .returned (.bool (G (52 + r * 52 + m))) ∧ w = w' := by
  have HH1 := hid (has_any b (52 + r * 52) _ m w (h.sets (52 + r * 52) (by omega)) hm)
  clear h
  have t1 : decide ((0 : Int) ≤ (r : Int)) = true := by simp
  have t2 : decide ((r : Int) < 52) = true := by simp; omega
  go_enter Tryz.func85, Tryz.ntmps85
  go_wp2_with (go_at_call 45; refine HH1.out.mono ?_; rintro e w' ⟨rfl, rfl⟩)
  go_ret
  exact ⟨rfl, rfl⟩

set_option maxRecDepth 20000 in
set_option maxHeartbeats 2000000 in
theorem meeting_any (b sb so : Nat) (G S : Nat → Bool) (r : Nat) (w : World) (h : GrAt w b G) (hS : SetAt w sb so S) (hr : r < 52) :
    Calls Tryz.prog 92 #[.pointer (some ⟨b, 0, none⟩), .int .i64 r, .pointer (some ⟨sb, so, none⟩)] w fun e w' => e = .returned (.int .i64 (Sp.cT (fun x => G (52 + r * 52 + x) && S x) 52 : Nat)) ∧ w = w' := by
  have HG := hid h
  have HS := hid hS
  clear h hS
  obtain ⟨T, hT⟩ : ∃ T : Nat → Bool, (fun x => G (52 + r * 52 + x) && S x) = T := ⟨_, rfl⟩
  have HTT := hid (show ∀ x, T x = (G (52 + r * 52 + x) && S x) from fun x => by rw [← hT])
  rw [hT]
  clear hT
  go_enter Tryz.func92, Tryz.ntmps92
  go_wp2_with fail
  go_loopw [7, 8] (fun cv mv wr => ∃ m : Nat, m ≤ 52 ∧ mv = .int .i64 m ∧ cv = .int .i64 (Sp.cT T m : Nat) ∧ w = wr) (fun _ mv _ => 52 - (intOf mv).toNat)
  case atStart => exact ⟨0, by omega, rfl, rfl, rfl⟩
  case round =>
    obtain ⟨m, hm, rfl, rfl, rfl⟩ := hrel
    have hle := Sp.cT_le T m
    by_cases hlt : m < 52
    · have HH1 := hid (gmeet_any b G r m w HG.out hr hlt)
      have HH2 := hid (has_any sb so S m w HS.out hlt)
      have HTM := hid (HTT.out m)
      cases h2 : S m
      · have HN := hid (show Sp.cT T (m + 1) = Sp.cT T m by simp only [Sp.cT]; rw [if_neg (by rw [HTM.out, h2]; simp)]; rfl)
        rw [h2] at HH2
        clear h2
        go_wp2_with (go_at_call 45; refine HH2.out.mono ?_; rintro e w' ⟨rfl, rfl⟩)
        go_roundw
        case rel => exact ⟨m + 1, by omega, by go_num, by rw [HN.out], (by first | rfl | trivial)⟩
        case measure => simp [intOf]; omega
      · cases h1 : G (52 + r * 52 + m)
        · have HN := hid (show Sp.cT T (m + 1) = Sp.cT T m by simp only [Sp.cT]; rw [if_neg (by rw [HTM.out, h1]; simp)]; rfl)
          rw [h1] at HH1
          rw [h2] at HH2
          clear h1 h2
          go_wp2_with (first | (go_at_call 45; refine HH2.out.mono ?_; rintro e w' ⟨rfl, rfl⟩) | (go_at_call 85; refine HH1.out.mono ?_; rintro e w' ⟨rfl, rfl⟩))
          go_roundw
          case rel => exact ⟨m + 1, by omega, by go_num, by rw [HN.out], (by first | rfl | trivial)⟩
          case measure => simp [intOf]; omega
        · have HN := hid (show Sp.cT T (m + 1) = Sp.cT T m + 1 by simp only [Sp.cT]; rw [if_pos (by rw [HTM.out, h1, h2]; rfl)])
          rw [h1] at HH1
          rw [h2] at HH2
          clear h1 h2
          go_wp2_with (first | (go_at_call 45; refine HH2.out.mono ?_; rintro e w' ⟨rfl, rfl⟩) | (go_at_call 85; refine HH1.out.mono ?_; rintro e w' ⟨rfl, rfl⟩))
          go_roundw
          case rel => exact ⟨m + 1, by omega, by go_num, by rw [HN.out]; rfl, (by first | rfl | trivial)⟩
          case measure => simp [intOf]; omega
    · have HM := hid (show m = 52 by omega)
      go_wp2_with fail
      go_ret
      exact ⟨ret_int (by rw [HM.out]), rfl⟩

/-- what loose tells -/
def LooseR (G S : Nat → Bool) (c z : Int) : Prop := (∃ r : Nat, r < 52 ∧ z = r ∧ S r = true ∧ (Sp.cT (fun x => G (52 + r * 52 + x) && S x) 52 : Int) < c) ∨ (z = -1 ∧ ∀ r, r < 52 → S r = true → c ≤ (Sp.cT (fun x => G (52 + r * 52 + x) && S x) 52 : Int))

set_option maxRecDepth 20000 in
set_option maxHeartbeats 2000000 in
theorem loose_any (b sb so : Nat) (G S : Nat → Bool) (c : Int) (w : World) (h : GrAt w b G) (hS : SetAt w sb so S) :
    Calls Tryz.prog 84 #[.pointer (some ⟨b, 0, none⟩), .pointer (some ⟨sb, so, none⟩), .int .i64 c] w fun e w' => ∃ z : Int, e = .returned (.int .i64 z) ∧ LooseR G S c z ∧ w = w' := by
  have HG := hid h
  have HS := hid hS
  clear h hS
  go_enter Tryz.func84, Tryz.ntmps84
  go_wp2_with fail
  go_loopw [7] (fun mv wr => ∃ m : Nat, m ≤ 52 ∧ mv = .int .i64 m ∧ (∀ r, r < m → S r = true → c ≤ (Sp.cT (fun x => G (52 + r * 52 + x) && S x) 52 : Int)) ∧ w = wr) (fun mv _ => 52 - (intOf mv).toNat)
  case atStart => exact ⟨0, by omega, rfl, fun r hr => by omega, rfl⟩
  case round =>
    obtain ⟨m, hm, rfl, hall, rfl⟩ := hrel
    have HALL := hid hall
    clear hall
    by_cases hlt : m < 52
    · have HH := hid (has_any sb so S m w HS.out hlt)
      have HMT := hid (meeting_any b sb so G S m w HG.out HS.out hlt)
      cases h1 : S m
      · rw [h1] at HH
        have HN := hid h1
        clear h1
        go_wp2_with (go_at_call 45; refine HH.out.mono ?_; rintro e w' ⟨rfl, rfl⟩)
        go_roundw
        case rel => exact ⟨m + 1, by omega, by go_num, (fun r hr hs => by
          by_cases e : r = m
          · rw [e, HN.out] at hs; cases hs
          · exact HALL.out r (by omega) hs), (by first | rfl | trivial)⟩
        case measure => simp [intOf]; omega
      · rw [h1] at HH
        have HY := hid h1
        clear h1
        generalize hn : Sp.cT (fun x => G (52 + m * 52 + x) && S x) 52 = n at *
        have HNN := hid hn
        clear hn
        by_cases hc : (n : Int) < c
        · go_wp2_with (first | (go_at_call 45; refine HH.out.mono ?_; rintro e w' ⟨rfl, rfl⟩) | (go_at_call 92; refine HMT.out.mono ?_; rintro e w' ⟨rfl, rfl⟩))
          go_ret
          exact ⟨_, rfl, Or.inl ⟨m, hlt, rfl, HY.out, by rw [HNN.out]; exact hc⟩, rfl⟩
        · go_wp2_with (first | (go_at_call 45; refine HH.out.mono ?_; rintro e w' ⟨rfl, rfl⟩) | (go_at_call 92; refine HMT.out.mono ?_; rintro e w' ⟨rfl, rfl⟩))
          go_roundw
          case rel => exact ⟨m + 1, by omega, by go_num, (fun r hr hs => by
            by_cases e : r = m
            · rw [e, HNN.out]; omega
            · exact HALL.out r (by omega) hs), (by first | rfl | trivial)⟩
          case measure => simp [intOf]; omega
    · have HM := hid (show m = 52 by omega)
      go_wp2_with fail
      go_ret
      exact ⟨_, rfl, Or.inr ⟨rfl, fun r hr hs => HALL.out r (by rw [HM.out]; exact hr) hs⟩, rfl⟩
end Go.Proofs.YtccndnckceagfabGreatDoorR
