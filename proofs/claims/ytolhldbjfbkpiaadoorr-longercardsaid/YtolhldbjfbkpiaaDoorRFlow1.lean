/-
  Sets of registers in memory: contracts of the program's functions on them.
-/
import Derived.Test.YtolhldbjfbkpiaaDoorRDev8
import Derived.Test.YtolhldbjfbkpiaaDoorRDLive
import Derived.Deep.MidRow
namespace Go.Proofs.YtolhldbjfbkpiaaDoorR
open Go.RowKit

/-- from offset o of block b on lie the 52 cells of the set S, which may be written -/
structure SetAt (w : World) (b o : Nat) (S : Nat → Bool) : Prop where
  cell : ∀ r, r < 52 → w.cell? ⟨b, o + r, none⟩ = some (.bool (S r))
  free : ∀ r, r < 52 → w.frozen? ⟨b, o + r, none⟩ = false

theorem SetAt.of_block {w w' : World} {b o : Nat} {S : Nat → Bool} (h : SetAt w b o S) (e : w'.heap[b]? = w.heap[b]?) : SetAt w' b o S :=
  ⟨fun r hr => (World.cell?_of_block e).trans (h.cell r hr), fun r hr => (World.frozen?_of_block e).trans (h.free r hr)⟩
theorem SetAt.congr {w : World} {b o : Nat} {S T : Nat → Bool} (h : SetAt w b o S) (e : ∀ r, r < 52 → S r = T r) : SetAt w b o T :=
  ⟨fun r hr => by rw [h.cell r hr, e r hr], h.free⟩
theorem SetAt.lt {w : World} {b o : Nat} {S : Nat → Bool} (h : SetAt w b o S) : b < w.heap.size := block_lt_of_cell (h.cell 0 (by omega))
theorem frozen_setCell (w : World) (a x : Addr) (v : Value) : (w.setCell a v).frozen? x = w.frozen? x := by simp
theorem SetAt.put {w : World} {b o : Nat} {S : Nat → Bool} (h : SetAt w b o S) (r : Nat) (hr : r < 52) (v : Bool) : SetAt (w.setCell ⟨b, o + r, none⟩ (.bool v)) b o (fun x => if x = r then v else S x) := by
  refine ⟨fun x hx => ?_, fun x hx => by rw [frozen_setCell]; exact h.free x hx⟩
  by_cases e : x = r
  · subst e
    rw [World.cell?_setCell_same' _ _ _ (by rw [h.cell x hx]; rfl)]
    simp
  · rw [World.cell?_setCell_other _ _ _ _ (fun h => e (by have := congrArg Addr.off h; simp at this; omega)), h.cell x hx]
    simp [e]

set_option maxHeartbeats 400000 in
theorem has_any (b o : Nat) (S : Nat → Bool) (r : Nat) (w : World) (h : SetAt w b o S) (hr : r < 52) :
    Calls Tryd.prog 118 #[.pointer (some ⟨b, o, none⟩), .int .i64 r] w fun e w' => e = .returned (.bool (S r)) ∧ w = w' := by
  have c := h.cell r hr
  clear h
  go_enter Tryd.func118, Tryd.ntmps118
  go_wp2
  go_ret
  exact ⟨rfl, rfl⟩

set_option maxHeartbeats 400000 in
theorem put_any (b o : Nat) (S : Nat → Bool) (r : Int) (v : Bool) (w : World) (h : SetAt w b o S) (hr : r < 52) :
    Calls Tryd.prog 65 #[.pointer (some ⟨b, o, none⟩), .int .i64 r, .bool v] w fun e w' => e = .returned (.tuple #[]) ∧ SetAt w' b o (fun x => if (x : Int) = r then v else S x) ∧ Only b w w' := by
  by_cases h0 : 0 ≤ r
  · obtain ⟨k, rfl⟩ := Int.eq_ofNat_of_zero_le h0
    have hk : k < 52 := by omega
    have c := h.cell k hk
    have z := h.free k hk
    have HP := hid ((h.put k hk v).congr (T := fun x => if (x : Int) = (k : Int) then v else S x) (fun x _ => by
      by_cases e : x = k
      · rw [if_pos e, if_pos (by omega)]
      · rw [if_neg e, if_neg (by omega)]))
    clear h
    go_enter Tryd.func65, Tryd.ntmps65
    go_wp2
    go_end0
    exact ⟨rfl, HP.out, Only.set _ _ _ _⟩
  · have HP := hid (h.congr (T := fun x => if (x : Int) = r then v else S x) (fun x _ => by rw [if_neg (by omega)]))
    clear h
    go_enter Tryd.func65, Tryd.ntmps65
    go_wp2
    go_end0
    exact ⟨rfl, HP.out, Only.refl _ _⟩

set_option maxHeartbeats 1000000 in
theorem join_any (sb lb nb : Nat) (S : Nat → Bool) (F : Nat → Nat → Bool) (b : Int) (w : World) (hS : SetAt w sb 0 S) (hF : ∀ k, k < nb → SetAt w lb (k * 52) (F k)) (hne : lb ≠ sb) (_hnb : nb ≤ 1000) :
    Calls Tryd.prog 103 #[.pointer (some ⟨sb, 0, none⟩), .slice (some ⟨lb, 0, none⟩) nb nb, .int .i64 b] w fun e w' => e = .returned (.tuple #[]) ∧ SetAt w' sb 0 (Sp.joinS S F nb b) ∧ Only sb w w' := by
  by_cases hb : 0 ≤ b ∧ b < nb
  · obtain ⟨h0, h1⟩ := hb
    obtain ⟨k, rfl⟩ := Int.eq_ofNat_of_zero_le h0
    have hk : k < nb := by omega
    have HJ := hid (show ∀ r, Sp.joinS S F nb (k : Int) r = (S r || F k r) from fun r => by simp [Sp.joinS, hk])
    have t1 : decide ((k : Int) < 0) = false := by simp
    have t2 : decide (nb ≤ k) = false := by simp; omega
    have HFK := hid (hF k hk)
    have HS := hid hS
    clear hF hS
    go_enter Tryd.func103, Tryd.ntmps103
    go_wp2_with fail
    go_loopw [6] (fun kv wr => ∃ r : Nat, r ≤ 52 ∧ kv = .int .i64 r ∧ SetAt wr sb 0 (fun x => S x || (decide (x < r) && F k x)) ∧ Only sb w wr) (fun kv _ => 52 - (intOf kv).toNat)
    case atStart => exact ⟨0, by omega, rfl, HS.out.congr (fun x _ => by simp), Only.refl _ _⟩
    case round =>
      obtain ⟨r, hr, rfl, hs, ho⟩ := hrel
      have HSR := hid hs
      have HO := hid ho
      have HF2 := hid (HFK.out.of_block (ho.block lb hne))
      clear hs ho
      by_cases hlt : r < 52
      · go_wp2_with fail
        refine (has_any _ _ _ r _ (by exact HF2.out) hlt).mono ?_
        rintro e w' ⟨rfl, rfl⟩
        cases hfr : F k r
        · have HFR := hid hfr
          clear hfr
          go_wp2_with fail
          go_roundw
          case rel => exact ⟨r + 1, by omega, by go_num, HSR.out.congr (fun x _ => by
            by_cases e : x = r
            · subst e; simp [HFR.out]
            · have : (x < r) = (x < r + 1) := by simp; omega
              simp only [this]), HO.out⟩
          case measure => simp [intOf]; omega
        · have HFR := hid hfr
          clear hfr
          go_wp2_with fail
          refine (put_any _ _ _ _ true _ HSR.out (by omega)).mono ?_
          rintro e w' ⟨rfl, hs2, ho2⟩
          have HS2 := hid hs2
          have HO2 := hid ho2
          clear hs2 ho2
          go_wp2_with fail
          go_roundw
          case rel => exact ⟨r + 1, by omega, by go_num, HS2.out.congr (fun x _ => by
            by_cases e : x = r
            · subst e; simp [HFR.out]
            · have : (x < r) = (x < r + 1) := by simp; omega
              simp [this, show ¬ (x : Int) = (r : Int) by omega]), HO.out.trans HO2.out⟩
          case measure => simp [intOf]; omega
      · have HR := hid (show r = 52 by omega)
        go_wp2_with fail
        go_end0
        exact ⟨rfl, HSR.out.congr (fun x hx => by rw [HJ.out, HR.out]; simp [hx]), HO.out⟩
  · have HJ := hid (hS.congr (T := Sp.joinS S F nb b) (fun r _ => by simp [Sp.joinS, hb]))
    clear hF hS
    by_cases h0 : b < 0
    · clear hb
      go_enter Tryd.func103, Tryd.ntmps103
      go_wp2_with fail
      refine bodyPost_ret (v := .tuple #[]) (by simp [results, Tryd.results103]) rfl ⟨rfl, HJ.out, Only.refl _ _⟩
    · have h1 : (nb : Int) ≤ b := by omega
      clear hb
      go_enter Tryd.func103, Tryd.ntmps103
      go_wp2_with fail
      refine bodyPost_ret (v := .tuple #[]) (by simp [results, Tryd.results103]) rfl ⟨rfl, HJ.out, Only.refl _ _⟩

set_option maxHeartbeats 1000000 in
theorem goBack_any (sb : Nat) (S : Nat → Bool) (o d x y n k m : Int) (w : World) (hS : SetAt w sb 0 S) (hd : d < 52) (hx : x < 52) (hy : y < 52) :
    Calls Tryd.prog 104 #[.pointer (some ⟨sb, 0, none⟩), .agg #[.int .u8 o, .int .i64 d, .int .i64 x, .int .i64 y, .int .i64 n, .int .i64 k, .int .i64 m]] w fun e w' => e = .returned (.tuple #[]) ∧ SetAt w' sb 0 (Sp.goB S ⟨o, d, x, y, n, k, m⟩) ∧ But w.heap.size sb w w' := by
  have hlt := hS.lt
  have HS := hid hS
  clear hS
  go_enter Tryd.func104, Tryd.ntmps104
  go_wp2_with fail
  refine (put_any sb 0 S _ false _ (by exact HS.out.of_block (((Below.refl w.heap.size w).alloc (Nat.le_refl _) _).block _ hlt)) hd).mono ?_
  rintro e w1 ⟨rfl, hs1, ho1⟩
  have r1 := (row_new w o d x y n k m 81).of_block (ho1.block w.heap.size (by omega))
  obtain ⟨_, c1, c2, c3, _, _, _⟩ := row_cells r1
  have HS1 := hid hs1
  have HO1 := hid ho1
  have HR1 := hid r1
  clear hs1 ho1 r1
  go_wp2_with fail
  refine (put_any sb 0 _ _ true _ HS1.out hx).mono ?_
  rintro e w2 ⟨rfl, hs2, ho2⟩
  have r2 := HR1.out.of_block (ho2.block w.heap.size (by omega))
  clear c1 c2 c3
  obtain ⟨_, c1, c2, c3, _, _, _⟩ := row_cells r2
  have HS2 := hid hs2
  have HO2 := hid ho2
  clear hs2 ho2 r2
  go_wp2_with fail
  refine (put_any sb 0 _ _ true _ HS2.out hy).mono ?_
  rintro e w3 ⟨rfl, hs3, ho3⟩
  have HS3 := hid hs3
  have HO3 := hid ho3
  clear hs3 ho3 c1 c2 c3
  go_wp2_with fail
  go_end0
  refine ⟨rfl, HS3.out, ?_⟩
  have hb := (Below.refl w.heap.size w).alloc (Nat.le_refl _) (.cells #[.int .u8 o, .int .i64 d, .int .i64 x, .int .i64 y, .int .i64 n, .int .i64 k, .int .i64 m] 81)
  have ho := (HO1.out.trans HO2.out).trans HO3.out
  exact ⟨ho.os.trans hb.os, ho.tape.trans hb.tape, ho.output.trans hb.output, by rw [ho.size]; exact hb.size, fun j hj hne => (ho.block j hne).trans (hb.block j hj)⟩
end Go.Proofs.YtolhldbjfbkpiaaDoorR
