/-
  A program's registers under other names: the walks of the statement's own functions.
-/
import Derived.Test.YtccndnckceagfaaDoorRTurnR
import Derived.Lib.ConvBytes
namespace Go.Proofs.YtccndnckceagfaaDoorR
open Go.RowKit

set_option maxRecDepth 20000 in
set_option maxHeartbeats 1000000 in
theorem knext_any (c b : Int) (w : World) (c0 : 0 ≤ c) (c1 : c ≤ 255) (b0 : 0 ≤ b) (b1 : b < 24) :
    Calls Tryd.prog 59 #[.int .u8 c, .int .i64 b] w fun e w' => e = .returned (.int .u8 (Sp.nx b c)) ∧ w = w' := by
  by_cases h1 : 99 ≤ c ∧ c ≤ 122
  · have HE := hid (show Sp.nx b c = 99 + (c - 99 + b) % 24 by unfold Sp.nx; rw [if_pos h1])
    obtain ⟨p, q⟩ := h1
    have e1 : (c - 99 + b).tmod 24 = (c - 99 + b) % 24 := Int.tmod_eq_emod_of_nonneg (by omega)
    have m0 : 0 ≤ (c - 99 + b) % 24 := by omega
    have m1 : (c - 99 + b) % 24 < 24 := by omega
    have e2 : IntKind.u8.wrap (c - 99) = c - 99 := IntWalk.u8_in _ (by omega)
    have e3 : IntKind.u8.wrap (99 + (c - 99 + b) % 24) = 99 + (c - 99 + b) % 24 := IntWalk.u8_in _ (by omega)
    go_enter Tryd.func59, Tryd.ntmps59
    go_wp2_with fail
    go_ret
    exact ⟨by rw [HE.out]; first | rfl | simp [e1], rfl⟩
  · by_cases h2 : 67 ≤ c ∧ c ≤ 90
    · have HE := hid (show Sp.nx b c = 67 + (c - 67 + b) % 24 by unfold Sp.nx; rw [if_neg h1, if_pos h2])
      obtain ⟨p, q⟩ := h2
      have hlow : ¬ 99 ≤ c := by omega
      have e1 : (c - 67 + b).tmod 24 = (c - 67 + b) % 24 := Int.tmod_eq_emod_of_nonneg (by omega)
      have m0 : 0 ≤ (c - 67 + b) % 24 := by omega
      have m1 : (c - 67 + b) % 24 < 24 := by omega
      have e2 : IntKind.u8.wrap (c - 67) = c - 67 := IntWalk.u8_in _ (by omega)
      have e3 : IntKind.u8.wrap (67 + (c - 67 + b) % 24) = 67 + (c - 67 + b) % 24 := IntWalk.u8_in _ (by omega)
      clear h1
      go_enter Tryd.func59, Tryd.ntmps59
      go_wp2_with fail
      go_ret
      exact ⟨by rw [HE.out]; first | rfl | simp [e1], rfl⟩
    · have HE := hid (show Sp.nx b c = c by unfold Sp.nx; rw [if_neg h1, if_neg h2])
      have hc : (122 < c) ∨ (90 < c ∧ c < 99) ∨ c < 67 := by omega
      clear h1 h2
      rcases hc with h | ⟨h, h'⟩ | h
      · have h' : 99 ≤ c := by omega
        have h'' : 67 ≤ c := by omega
        have h3 : 90 < c := by omega
        go_enter Tryd.func59, Tryd.ntmps59
        go_wp2_with fail
        go_ret
        exact ⟨by rw [HE.out]; rfl, rfl⟩
      · have h'' : 67 ≤ c := by omega
        go_enter Tryd.func59, Tryd.ntmps59
        go_wp2_with fail
        go_ret
        exact ⟨by rw [HE.out]; rfl, rfl⟩
      · have h'' : c < 99 := by omega
        go_enter Tryd.func59, Tryd.ntmps59
        go_wp2_with fail
        go_ret
        exact ⟨by rw [HE.out]; rfl, rfl⟩

/-- bytes at block b -/
structure ByAt (w : World) (b n : Nat) (f : Nat → Int) : Prop where
  cell : ∀ j, j < n → w.cell? ⟨b, j, none⟩ = some (.int .u8 (f j))
  free : ∀ j, j < n → w.frozen? ⟨b, j, none⟩ = false
theorem ByAt.put {w : World} {b n : Nat} {f : Nat → Int} (h : ByAt w b n f) (j : Nat) (hj : j < n) (v : Int) : ByAt (w.setCell ⟨b, j, none⟩ (.int .u8 v)) b n (fun x => if x = j then v else f x) := by
  refine ⟨fun x hx => ?_, fun x hx => by rw [frozen_setCell]; exact h.free x hx⟩
  by_cases e : x = j
  · subst e
    rw [World.cell?_setCell_same' _ _ _ (by rw [h.cell x hx]; rfl), if_pos rfl]
  · rw [World.cell?_setCell_other _ _ _ _ (fun h => e (by have := congrArg Addr.off h; simp at this; omega)), h.cell x hx, if_neg e]
theorem ByAt.congr {w : World} {b n : Nat} {f g : Nat → Int} (h : ByAt w b n f) (e : ∀ j, j < n → f j = g j) : ByAt w b n g := ⟨fun j hj => by rw [h.cell j hj, e j hj], h.free⟩
theorem by_new (w : World) (s : ByteArray) : ByAt (Lib.bytesWorld w 5 s) w.heap.size s.size (Sp.B s) := by
  refine ⟨fun j hj => ?_, fun j hj => ?_⟩
  · rw [Lib.bytesWorld_cell w 5 s j hj, ← Sp.B_get s j hj]
    congr 2
    have hj' : j < s.data.toList.length := by rw [Array.length_toList]; exact hj
    rw [List.getD_eq_getElem?_getD, List.getElem?_eq_getElem hj', Option.getD_some, Array.getElem_toList]
    rfl
  · have hs : s.size ≤ (Lib.bytesCells w 5 s).size := by
      unfold Lib.bytesCells
      rw [Array.size_append, Array.size_map]
      exact Nat.le_add_right _ _
    simp [World.frozen?, Lib.bytesWorld_at_new]
    omega
theorem by_below (w : World) (s : ByteArray) : Below w.heap.size w (Lib.bytesWorld w 5 s) := by
  refine ⟨?_, ?_, ?_, by rw [Lib.bytesWorld_size]; omega, fun k hk => Lib.bytesWorld_at_old w _ s k hk⟩
  all_goals first | rfl | simp [Lib.bytesWorld, World.freeze]
namespace Sp
/-- the bytes of a text whose registers have other names up to place p -/
def tnF (s : ByteArray) (b : Int) (p x : Nat) : Int := if x % 4 = 0 ∨ p ≤ x then B s x else nx b (B s x)
theorem tnF_bd (s : ByteArray) (b : Int) (b0 : 0 ≤ b) (b1 : b < 24) (p x : Nat) : 0 ≤ tnF s b p x ∧ tnF s b p x ≤ 255 := by
  have h := B_bd s x
  unfold tnF
  split
  · exact h
  · have := nx_cases b0 b1 (B s x)
    omega
/-- the text with other names -/
def tnT (s : ByteArray) (b : Int) : ByteArray := ⟨((List.range s.size).map fun x => UInt8.ofNat (tnF s b (4 * (s.size / 4)) x).toNat).toArray⟩
theorem tnT_size (s : ByteArray) (b : Int) : (tnT s b).size = s.size := by
  show (List.toArray _).size = s.size
  simp
theorem tnT_at (s : ByteArray) (b : Int) (b0 : 0 ≤ b) (b1 : b < 24) (x : Nat) (hx : x < s.size) : B (tnT s b) x = tnF s b (4 * (s.size / 4)) x := by
  rw [← B_get _ x (by rw [tnT_size]; exact hx)]
  have hb := tnF_bd s b b0 b1 (4 * (s.size / 4)) x
  have e : (tnT s b)[x]'(by rw [tnT_size]; exact hx) = UInt8.ofNat (tnF s b (4 * (s.size / 4)) x).toNat := by
    show (((List.range s.size).map fun x => UInt8.ofNat (tnF s b (4 * (s.size / 4)) x).toNat).toArray)[x]'(by simpa using hx) = _
    simp
  rw [e, UInt8.toNat_ofNat']
  omega
theorem tnT_trn (s : ByteArray) (b : Int) (b0 : 0 ≤ b) (b1 : b < 24) : Trn (B s) (B (tnT s b)) b (s.size / 4) := by
  refine ⟨b0, b1, fun i => ?_, fun i k hi h1 h3 => ?_⟩
  · by_cases h : 4 * i < s.size
    · rw [tnT_at s b b0 b1 _ h]
      unfold tnF
      rw [if_pos (by omega)]
    · have out : ∀ t : ByteArray, t.size ≤ 4 * i → B t (4 * i) = B ⟨#[]⟩ 0 := fun t ht => by
        unfold B
        have h1 : t.data.size ≤ 4 * i := ht
        rw [Array.getD, dif_neg (by omega)]
        rfl
      rw [out s (by omega), out (tnT s b) (by rw [tnT_size]; omega)]
  · have hx : 4 * i + k < s.size := by omega
    rw [tnT_at s b b0 b1 _ hx]
    unfold tnF
    rw [if_neg (by omega)]
end Sp

set_option maxRecDepth 20000 in
set_option maxHeartbeats 2000000 in
theorem kturned_any (s : ByteArray) (b : Int) (w : World) (hs : s.size ≤ maxLen) (b0 : 0 ≤ b) (b1 : b < 24) :
    Calls Tryd.prog 30 #[.string s, .int .i64 b] w fun e w' => e = .returned (.string (Sp.tnT s b)) ∧ Below w.heap.size w w' := by
  have hs2 : s.size ≤ 9223372036854775807 := hs
  have hcv := Lib.run_convert_string_bytes (P := Tryd.prog) w 9 95 5 s Tryd.underlying9 Tryd.underlying95 Tryd.underlying5
  have HBY := hid (by_new w s)
  have HBB := hid (by_below w s)
  have HSZ := hid (Lib.bytesWorld_size w 5 s)
  generalize grownCap w s.size 0 5 = cap at *
  generalize Lib.bytesWorld w 5 s = W at *
  generalize hN : w.heap.size = N at *
  go_enter Tryd.func30, Tryd.ntmps30
  go_upto_region 3 with fail
  go_loopw [6] (fun iv wr => ∃ i : Nat, i ≤ s.size ∧ i % 4 = 0 ∧ iv = .int .i64 i ∧ ByAt wr N s.size (Sp.tnF s b i) ∧ Below N w wr) (fun iv _ => s.size + 4 - (intOf iv).toNat)
  case atStart => exact ⟨0, by omega, rfl, rfl, HBY.out.congr (fun j _ => by unfold Sp.tnF; rw [if_pos (by omega)]), HBB.out⟩
  case round =>
    clear HBY HBB HSZ
    obtain ⟨i, hi, h4, rfl, hY, hB⟩ := hrel
    have HY := hid hY
    have HB := hid hB
    have hi4 : i + 3 ≤ 9223372036854775807 := by omega
    clear hB
    by_cases hlt : i + 3 < s.size
    · clear hY
      go_wp2_with fail
      go_loopw [7] (fun kv wq => ∃ k : Nat, 1 ≤ k ∧ k ≤ 4 ∧ kv = .int .i64 k ∧ ByAt wq N s.size (Sp.tnF s b (i + k)) ∧ Below N w wq) (fun kv _ => 4 - (intOf kv).toNat)
      case atStart => exact ⟨1, by omega, by omega, rfl, HY.out.congr (fun j _ => by
        unfold Sp.tnF
        by_cases e : j % 4 = 0 ∨ i ≤ j
        · rw [if_pos e, if_pos (by omega)]
        · rw [if_neg e, if_neg (by omega)]), HB.out⟩
      case round =>
        clear HY HB
        obtain ⟨k, hk1, hk4, rfl, hY, hB⟩ := hrel
        have HY := hid hY
        have HB := hid hB
        clear hB
        by_cases hkl : k < 4
        · have cc := hY.cell (i + k) (by omega)
          have fc := hY.free (i + k) (by omega)
          have hb := Sp.B_bd s (i + k)
          rw [show Sp.tnF s b (i + k) (i + k) = Sp.B s (i + k) from by unfold Sp.tnF; rw [if_pos (by omega)]] at cc
          have HNX := hid (fun w => knext_any (Sp.B s (i + k)) b w hb.1 hb.2 b0 b1)
          have HUP := hid (show ∀ x, (if x = i + k then Sp.nx b (Sp.B s (i + k)) else Sp.tnF s b (i + k) x) = Sp.tnF s b (i + (k + 1)) x from fun x => by
            unfold Sp.tnF
            by_cases e : x = i + k
            · subst e
              rw [if_pos rfl, if_neg (by omega)]
            · rw [if_neg e]
              by_cases e2 : x % 4 = 0 ∨ i + k ≤ x
              · rw [if_pos e2, if_pos (by omega)]
              · rw [if_neg e2, if_neg (by omega)])
          generalize Sp.B s (i + k) = c at *
          clear hY
          go_wp2_with (go_at_call 59; refine (HNX.out _).mono ?_; rintro e w' ⟨rfl, rfl⟩)
          go_roundw
          case rel =>
            first | simp only [show decide (i + 3 < s.size) = true from decide_eq_true hlt] | simp only [show decide ((i : Int) + 3 < s.size) = true from decide_eq_true (by omega)]
            repeat apply Exists.intro
            refine ⟨?_, rfl⟩
            exact ⟨k + 1, by omega, by omega, by go_num, (HY.out.put (i + k) (by omega) _).congr (fun x _ => HUP.out x), HB.out.setCell (show N ≤ N from Nat.le_refl N) _⟩
          case measure => simp [intOf]; omega
        · have HK := hid (show k = 4 by omega)
          clear hY
          go_wp2_with fail
          go_roundw
          case rel => exact ⟨i + 4, by omega, by omega, by go_num, by have := HY.out; rw [HK.out] at this; exact this, HB.out⟩
          case measure => simp [intOf]; omega
    · have HI := hid (show i = 4 * (s.size / 4) by omega)
      have hlen : ((List.range s.size).map fun x => UInt8.ofNat (Sp.tnF s b (4 * (s.size / 4)) x).toNat).length = s.size := by simp
      have hbk := run_convert_bytes_back (P := Tryd.prog) wr 95 9 5 ⟨N, 0, none⟩ cap ((List.range s.size).map fun x => UInt8.ofNat (Sp.tnF s b (4 * (s.size / 4)) x).toNat) Tryd.underlying95 Tryd.underlying5 Tryd.underlying9 (fun j hj => by
        rw [hlen] at hj
        have := hY.cell j hj
        rw [HI.out] at this
        have hb := Sp.tnF_bd s b b0 b1 (4 * (s.size / 4)) j
        rw [show ((⟨N, 0, none⟩ : Addr).add j) = ⟨N, j, none⟩ from by simp [Addr.add]; exact fun e => e.symm, this]
        simp only [List.getElem_map, List.getElem_range]
        rw [UInt8.toNat_ofNat']
        congr 2
        omega)
      rw [hlen] at hbk
      have hbk' : (convert 95 9 (.slice (some ⟨N, 0, none⟩) s.size cap)).run Tryd.prog wr = .ok (.string (Sp.tnT s b)) wr := hbk
      clear hbk hlen hY
      go_wp2_with fail
      go_ret
      exact ⟨rfl, HB.out⟩
end Go.Proofs.YtccndnckceagfaaDoorR
