/-
  A machine program with its slots turned round in a ring: the walks, and the statement.
  The statement on machine programs with other slots, walked.
-/
import Derived.Test.YtccndnckceagfabDoorHRen2
import Derived.Test.YtccndnckceagfabDoorHCmp2
import Derived.Lib.ConvBytes
namespace Go.Proofs.YtccndnckceagfabDoor
open Go.RowKit

/-- bytes at block b -/
structure ByAt (w : World) (b n : Nat) (f : Nat → Int) : Prop where
  cell : ∀ j, j < n → w.cell? ⟨b, j, none⟩ = some (.int .u8 (f j))
  free : ∀ j, j < n → w.frozen? ⟨b, j, none⟩ = false
theorem ByAt.put {w : World} {b n : Nat} {f : Nat → Int} (h : ByAt w b n f) (j : Nat) (hj : j < n) (v : Int) : ByAt (w.setCell ⟨b, j, none⟩ (.int .u8 v)) b n (fun x => if x = j then v else f x) := by
  refine ⟨fun x hx => ?_, fun x hx => by rw [frozen_setCell]; exact h.free x hx⟩
  by_cases e : x = j
  · subst e
    rw [World.cell?_setCell_same' _ _ _ (by rw [h.cell x hx]; rfl), if_pos rfl]
  · rw [World.cell?_setCell_other _ _ _ _ (fun h => e (by have := congrArg Addr.off h; simp at this; omega)), h.cell x hx, if_neg e]
theorem ByAt.congr {w : World} {b n : Nat} {f g : Nat → Int} (h : ByAt w b n f) (e : ∀ j, j < n → f j = g j) : ByAt w b n g := ⟨fun j hj => by rw [h.cell j hj, e j hj], h.free⟩
theorem by_new (w : World) (s : ByteArray) : ByAt (Lib.bytesWorld w 5 s) w.heap.size s.size (Sp.B s) := by
  refine ⟨fun j hj => ?_, fun j hj => ?_⟩
  · rw [Lib.bytesWorld_cell w 5 s j hj, ← Sp.B_get s j hj]
    congr 2
    have hj' : j < s.data.toList.length := by rw [Array.length_toList]; exact hj
    rw [List.getD_eq_getElem?_getD, List.getElem?_eq_getElem hj', Option.getD_some, Array.getElem_toList]
    rfl
  · have hs : s.size ≤ (Lib.bytesCells w 5 s).size := by
      unfold Lib.bytesCells
      rw [Array.size_append, Array.size_map]
      exact Nat.le_add_right _ _
    simp [World.frozen?, Lib.bytesWorld_at_new]
    omega
theorem by_below (w : World) (s : ByteArray) : Below w.heap.size w (Lib.bytesWorld w 5 s) := by
  refine ⟨?_, ?_, ?_, by rw [Lib.bytesWorld_size]; omega, fun k hk => Lib.bytesWorld_at_old w _ s k hk⟩
  all_goals first | rfl | simp [Lib.bytesWorld, World.freeze]

namespace Sp
theorem tsl_bd (n : Nat) {c : Int} (h : 0 ≤ c ∧ c ≤ 255) : 0 ≤ tsl n c ∧ tsl n c ≤ 255 := by
  unfold tsl
  split
  · exact h
  · exact B_bd _ _
/-- the bytes of the turned text up to place p -/
def rsF (s : ByteArray) (n p x : Nat) : Int := if p ≤ x then B s x else rsB (B s) n s.size x
theorem rsB_bd (s : ByteArray) (n m x : Nat) : 0 ≤ rsB (B s) n m x ∧ rsB (B s) n m x ≤ 255 := by
  have h := B_bd s x
  unfold rsB
  repeat' split
  all_goals first | exact h | exact tsl_bd n h
theorem rsF_bd (s : ByteArray) (n p x : Nat) : 0 ≤ rsF s n p x ∧ rsF s n p x ≤ 255 := by
  unfold rsF
  split
  · exact B_bd s x
  · exact rsB_bd s n _ x
def rsT (s : ByteArray) (n : Nat) : ByteArray := ⟨((List.range s.size).map fun x => UInt8.ofNat (rsF s n (4 * (s.size / 4)) x).toNat).toArray⟩
theorem rsT_size (s : ByteArray) (n : Nat) : (rsT s n).size = s.size := by
  show (List.toArray _).size = s.size
  simp
theorem rsT_at (s : ByteArray) (n x : Nat) (hx : x < s.size) : B (rsT s n) x = rsF s n (4 * (s.size / 4)) x := by
  rw [← B_get _ x (by rw [rsT_size]; exact hx)]
  have hb := rsF_bd s n (4 * (s.size / 4)) x
  have e : (rsT s n)[x]'(by rw [rsT_size]; exact hx) = UInt8.ofNat (rsF s n (4 * (s.size / 4)) x).toNat := by
    show (((List.range s.size).map fun x => UInt8.ofNat (rsF s n (4 * (s.size / 4)) x).toNat).toArray)[x]'(by simpa using hx) = _
    simp
  rw [e, UInt8.toNat_ofNat']
  omega
theorem rsT_rs (s : ByteArray) (n : Nat) : Rs n s (rsT s n) := by
  refine ⟨rsT_size s n, fun j hj => ?_⟩
  rw [rsT_at s n j hj]
  unfold rsF
  by_cases h : 4 * (s.size / 4) ≤ j
  · rw [if_pos h]
    unfold rsB
    rw [if_neg (by omega), if_neg (by omega)]
  · rw [if_neg h]
end Sp

set_option maxRecDepth 20000 in
set_option maxHeartbeats 1000000 in
theorem turnedSlot_any (c : Int) (n : Nat) (w : World) (hn : n < 52) :
    Calls Tryd.prog 20 #[.int .u8 c, .int .i64 (n : Nat)] w fun e w' => e = .returned (.int .u8 (Sp.tsl n c)) ∧ w = w' := by
  go_enter Tryd.func20, Tryd.ntmps20
  go_wp2_with fail
  go_loopw [5] (fun kv wr => ∃ i : Nat, i ≤ 52 ∧ kv = .int .i64 (i : Nat) ∧ (∀ m, m < i → Sp.B Sp.alpha m ≠ c) ∧ w = wr) (fun kv _ => 52 - (intOf kv).toNat)
  case atStart => exact ⟨0, by omega, rfl, fun m hm => by omega, rfl⟩
  case round =>
    obtain ⟨i, hi, rfl, hall, rfl⟩ := hrel
    have HALL := hid hall
    clear hall
    by_cases hlt : i < 52
    · have ix : ∀ q : Nat, q < 52 → ∀ W : World, (Instr.index 9 (.string ⟨#[97, 98, 99, 100, 101, 102, 103, 104, 105, 106, 107, 108, 109, 110, 111, 112, 113, 114, 115, 116, 117, 118, 119, 120, 121, 122, 65, 66, 67, 68, 69, 70, 71, 72, 73, 74, 75, 76, 77, 78, 79, 80, 81, 82, 83, 84, 85, 86, 87, 88, 89, 90]⟩) (.int .i64 (q : Int))).run Tryd.prog W = .ok (.int .u8 (Sp.B Sp.alpha q)) W := by
        intro q hq W
        have hz : q < Sp.alpha.size := hq
        show (Instr.index 9 (.string Sp.alpha) (.int .i64 (q : Int))).run Tryd.prog W = .ok (.int .u8 (Sp.B Sp.alpha q)) W
        rw [run_index_string W 9 Sp.alpha .i64 _ Tryd.underlying9, dif_pos (by omega)]
        exact congrArg (fun z => Result.ok (Value.int .u8 z) W) (Sp.B_get Sp.alpha q hz)
      have hix := ix i hlt
      by_cases he : Sp.B Sp.alpha i = c
      · have HE := hid (show Sp.tsl n c = Sp.B Sp.alpha ((i + n) % 52) by
          have h1 := Sp.alpha_yes i c hlt he
          unfold Sp.tsl
          rw [h1, if_neg (by omega), Int.toNat_natCast])
        have t1 : (Sp.B Sp.alpha i == c) = true := by simp [he]
        clear ix he
        go_wp2_with fail
        go_ret
        exact ⟨by rw [HE.out]; exact congrArg (fun z => Ending.returned (Value.int .u8 z)) (Sp.B_get Sp.alpha ((i + n) % 52) (Nat.mod_lt _ (by decide))), rfl⟩
      · have HE := hid he
        have t1 : (Sp.B Sp.alpha i == c) = false := by simp [he]
        clear ix he
        go_wp2_with fail
        go_roundw
        case rel => exact ⟨i + 1, by omega, by go_num, (fun m hm => by
          by_cases e : m = i
          · rw [e]; exact HE.out
          · exact HALL.out m (by omega)), by first | rfl | trivial⟩
        case measure => simp [intOf]; omega
    · have HN := hid (show Sp.tsl n c = c by
        have h1 := Sp.alpha_no c (fun m hm => HALL.out m (by omega))
        unfold Sp.tsl
        rw [if_pos h1])
      go_wp2_with fail
      go_ret
      exact ⟨by rw [HN.out]; rfl, rfl⟩

set_option maxRecDepth 20000 in
set_option maxHeartbeats 4000000 in
theorem reslotted_any (s : ByteArray) (n : Nat) (w : World) (hs : s.size ≤ maxLen) (hn : n < 52) :
    Calls Tryd.prog 9 #[.string s, .int .i64 (n : Nat)] w fun e w' => e = .returned (.string (Sp.rsT s n)) ∧ Below w.heap.size w w' := by
  have hs2 : s.size ≤ 9223372036854775807 := hs
  have hcv := Lib.run_convert_string_bytes (P := Tryd.prog) w 9 48 5 s Tryd.underlying9 Tryd.underlying48 Tryd.underlying5
  have HBY := hid (by_new w s)
  have HBB := hid (by_below w s)
  generalize grownCap w s.size 0 5 = cap at *
  generalize Lib.bytesWorld w 5 s = W at *
  generalize hN : w.heap.size = N at *
  go_enter Tryd.func9, Tryd.ntmps9
  go_upto_region 3 with fail
  go_loopw [6] (fun iv wr => ∃ i : Nat, i ≤ s.size ∧ i % 4 = 0 ∧ iv = .int .i64 (i : Nat) ∧ ByAt wr N s.size (Sp.rsF s n i) ∧ Below N w wr) (fun iv _ => s.size + 4 - (intOf iv).toNat)
  case atStart => exact ⟨0, by omega, rfl, rfl, HBY.out.congr (fun j _ => by unfold Sp.rsF; rw [if_pos (by omega)]), HBB.out⟩
  case round =>
    clear HBY HBB
    obtain ⟨i, hi, h4, rfl, hY, hB⟩ := hrel
    have HY := hid hY
    have HB := hid hB
    have hi4 : i + 3 ≤ 9223372036854775807 := by omega
    clear hB
    by_cases hlt : i + 3 < s.size
    · have low : ∀ x, i ≤ x → Sp.rsF s n i x = Sp.B s x := fun x hx => by unfold Sp.rsF; rw [if_pos hx]
      have a0 := hY.cell i (by omega)
      have a1 := hY.cell (i + 1) (by omega)
      have a2 := hY.cell (i + 2) (by omega)
      rw [low i (by omega)] at a0
      rw [low (i + 1) (by omega)] at a1
      rw [low (i + 2) (by omega)] at a2
      have f1 := hY.free (i + 1) (by omega)
      have f2 := hY.free (i + 2) (by omega)
      have HT1 := hid (fun W => turnedSlot_any (Sp.B s (i + 1)) n W hn)
      have HT2 := hid (fun W => turnedSlot_any (Sp.B s (i + 2)) n W hn)
      have same : ∀ x, x < i ∨ i + 4 ≤ x → Sp.rsF s n (i + 4) x = Sp.rsF s n i x := fun x hx => by
        unfold Sp.rsF
        rcases hx with h | h
        · rw [if_neg (by omega), if_neg (by omega)]
        · rw [if_pos (by omega), if_pos (by omega)]
      have new : ∀ x, i ≤ x → x < i + 4 → Sp.rsF s n (i + 4) x = Sp.rsB (Sp.B s) n s.size x := fun x h1 h2 => by unfold Sp.rsF; rw [if_neg (by omega)]
      clear hY
      by_cases h62 : Sp.B s i = 62 ∨ Sp.B s i = 126
      · have HUP := hid (show ∀ x, (if x = i + 1 then Sp.tsl n (Sp.B s (i + 1)) else Sp.rsF s n i x) = Sp.rsF s n (i + 4) x from fun x => by
          by_cases e : x = i + 1
          · subst e
            rw [if_pos rfl, new _ (by omega) (by omega)]
            unfold Sp.rsB
            rw [if_pos ⟨by omega, by rw [show i + 1 - 1 = i by omega]; exact h62, by omega⟩]
          · rw [if_neg e]
            by_cases hx : x < i ∨ i + 4 ≤ x
            · exact (same x hx).symm
            · rw [low x (by omega), new x (by omega) (by omega)]
              unfold Sp.rsB
              rw [if_neg (by omega)]
              by_cases e2 : x = i + 2
              · subst e2
                rw [if_neg (by rw [show i + 2 - 2 = i by omega]; omega)]
              · rw [if_neg (by omega)])
        clear low same new a2 f2 HT2
        rcases h62 with h | h
        · have t1 : (Sp.B s i == 62) = true := by simp [h]
          generalize Sp.B s (i + 1) = c at *
          generalize Sp.B s i = o at *
          go_wp2_with (go_at_call 20; refine (HT1.out _).mono ?_; rintro e w' ⟨rfl, rfl⟩)
          go_roundw
          case rel => exact ⟨i + 4, by omega, by omega, by go_num, (HY.out.put (i + 1) (by omega) _).congr (fun x _ => HUP.out x), HB.out.setCell (show N ≤ N from Nat.le_refl N) _⟩
          case measure => simp [intOf]; omega
        · have t1 : (Sp.B s i == 62) = false := by simp [h]
          have t2 : (Sp.B s i == 126) = true := by simp [h]
          generalize Sp.B s (i + 1) = c at *
          generalize Sp.B s i = o at *
          go_wp2_with (go_at_call 20; refine (HT1.out _).mono ?_; rintro e w' ⟨rfl, rfl⟩)
          go_roundw
          case rel => exact ⟨i + 4, by omega, by omega, by go_num, (HY.out.put (i + 1) (by omega) _).congr (fun x _ => HUP.out x), HB.out.setCell (show N ≤ N from Nat.le_refl N) _⟩
          case measure => simp [intOf]; omega
      · have t1 : (Sp.B s i == 62) = false := by simp; omega
        have t2 : (Sp.B s i == 126) = false := by simp; omega
        by_cases h60 : Sp.B s i = 60
        · have t3 : (Sp.B s i == 60) = true := by simp [h60]
          have HUP := hid (show ∀ x, (if x = i + 2 then Sp.tsl n (Sp.B s (i + 2)) else Sp.rsF s n i x) = Sp.rsF s n (i + 4) x from fun x => by
            by_cases e : x = i + 2
            · subst e
              rw [if_pos rfl, new _ (by omega) (by omega)]
              unfold Sp.rsB
              rw [if_neg (by omega), if_pos ⟨by omega, by rw [show i + 2 - 2 = i by omega]; exact h60, by omega⟩]
            · rw [if_neg e]
              by_cases hx : x < i ∨ i + 4 ≤ x
              · exact (same x hx).symm
              · rw [low x (by omega), new x (by omega) (by omega)]
                unfold Sp.rsB
                by_cases e2 : x = i + 1
                · subst e2
                  rw [if_neg (by rw [show i + 1 - 1 = i by omega]; omega), if_neg (by omega)]
                · rw [if_neg (by omega), if_neg (by omega)])
          clear low same new a1 f1 HT1 h62 h60
          generalize Sp.B s (i + 2) = c at *
          generalize Sp.B s i = o at *
          go_wp2_with (go_at_call 20; refine (HT2.out _).mono ?_; rintro e w' ⟨rfl, rfl⟩)
          go_roundw
          case rel => exact ⟨i + 4, by omega, by omega, by go_num, (HY.out.put (i + 2) (by omega) _).congr (fun x _ => HUP.out x), HB.out.setCell (show N ≤ N from Nat.le_refl N) _⟩
          case measure => simp [intOf]; omega
        · have t3 : (Sp.B s i == 60) = false := by simp [h60]
          have HUP := hid (show ∀ x, Sp.rsF s n i x = Sp.rsF s n (i + 4) x from fun x => by
            by_cases hx : x < i ∨ i + 4 ≤ x
            · exact (same x hx).symm
            · rw [low x (by omega), new x (by omega) (by omega)]
              unfold Sp.rsB
              by_cases e1 : x = i + 1
              · subst e1
                rw [if_neg (by rw [show i + 1 - 1 = i by omega]; omega), if_neg (by omega)]
              · by_cases e2 : x = i + 2
                · subst e2
                  rw [if_neg (by omega), if_neg (by rw [show i + 2 - 2 = i by omega]; omega)]
                · rw [if_neg (by omega), if_neg (by omega)])
          clear low same new a1 f1 HT1 a2 f2 HT2 h62 h60
          generalize Sp.B s i = o at *
          go_wp2_with fail
          go_roundw
          case rel => exact ⟨i + 4, by omega, by omega, by go_num, HY.out.congr (fun x _ => HUP.out x), HB.out⟩
          case measure => simp [intOf]; omega
    · have HI := hid (show i = 4 * (s.size / 4) by omega)
      have hlen : ((List.range s.size).map fun x => UInt8.ofNat (Sp.rsF s n (4 * (s.size / 4)) x).toNat).length = s.size := by simp
      have hbk := run_convert_bytes_back (P := Tryd.prog) wr 48 9 5 ⟨N, 0, none⟩ cap ((List.range s.size).map fun x => UInt8.ofNat (Sp.rsF s n (4 * (s.size / 4)) x).toNat) Tryd.underlying48 Tryd.underlying5 Tryd.underlying9 (fun j hj => by
        rw [hlen] at hj
        have := hY.cell j hj
        rw [HI.out] at this
        have hb := Sp.rsF_bd s n (4 * (s.size / 4)) j
        rw [show ((⟨N, 0, none⟩ : Addr).add j) = ⟨N, j, none⟩ from by simp [Addr.add]; exact fun e => e.symm, this]
        simp only [List.getElem_map, List.getElem_range]
        rw [UInt8.toNat_ofNat']
        congr 2
        omega)
      rw [hlen] at hbk
      have hbk' : (convert 48 9 (.slice (some ⟨N, 0, none⟩) s.size cap)).run Tryd.prog wr = .ok (.string (Sp.rsT s n)) wr := hbk
      clear hbk hlen hY
      go_wp2_with fail
      go_ret
      exact ⟨rfl, HB.out⟩
end Go.Proofs.YtccndnckceagfabDoor

namespace Go.Proofs.YtccndnckceagfabDoor
open Go.RowKit

theorem rgs_mac' (k : Int) : Sp.macB (Sp.rgs k) = true := by
  have := rgs_bd k
  simp [Sp.macB]
  omega
/-- what Compile makes is accepted -/
theorem made_acc {s u : ByteArray} {k : Int} {H : Nat → Int} {K : Nat → Bool} (hf : Sp.FormedR s 0) (hm : Sp.macB k = true) (h : MadeOf s u k H K) : Sp.AccIs s u k true 0 := by
  obtain ⟨h1, h2, h3⟩ := hf.zero
  exact Or.inr (Or.inr (Or.inr (Or.inr ⟨h1, h.md.size.2, hm, h2, h.md.prog, h3, h.md.acc.symm, rfl⟩)))

set_option maxRecDepth 20000 in
set_option maxHeartbeats 8000000 in
theorem renamed_any (s t : ByteArray) (k y : Int) (w : World) (hs : s.size ≤ maxLen) (ht : t.size ≤ maxLen) (hk : -9223372036854775808 ≤ k ∧ k ≤ 9223372036854775807) (hy : -9223372036854775808 ≤ y ∧ y ≤ 9223372036854775807) (hA : ArgsAt w) :
    Calls Tryd.prog 3 #[.string s, .string t, .int .i64 k, .int .i64 y] w fun e w' => e = .returned (.bool true) ∧ Below w.heap.size w w' := by
  have HA := hid hA
  have hlt0 := hA.lt
  have hAX : Hid (∀ W, Below w.heap.size w W → ArgsAt W) := hid (fun W hW => HA.out.of_block (hW.block 0 hlt0))
  have HBG := hid (begun_any w hA)
  have HRG := hid (fun W => registers_any k W hk)
  have HMC := hid (rgs_mac' k)
  have hkb := rgs_bd k
  generalize Sp.rgs k = k1 at *
  have HPK := hid (fun W => pick_any y 52 W hy (by omega))
  have hpk := Sp.pk_bd y 52 (by omega)
  generalize Sp.pk y 52 = n1 at *
  obtain ⟨n, rfl⟩ := Int.eq_ofNat_of_zero_le hpk.1
  have hn : n < 52 := by omega
  have HACT := hid (fun W (hW : Below w.heap.size w W) => accept_any s t k1 W (hAX.out W hW))
  have HRST := hid (fun W => reslotted_any t n W ht hn)
  have HACR := hid (fun W (hW : Below w.heap.size w W) => accept_any s (Sp.rsT t n) k1 W (hAX.out W hW))
  have HCMP := hid (fun W (hW : Below w.heap.size w W) => compile_any s k1 W hs (hAX.out W hW))
  have HBOTH := hid (fun ok yes e f h1 h2 => Sp.acc_both hkb hn (s := s) (Sp.rsT_rs t n) (ok := ok) (yes := yes) (e := e) (f := f) h1 h2)
  clear hA hk hy
  generalize hN : w.heap.size = N at *
  unfold AccPost at HACT HACR
  unfold CompPost at HCMP
  generalize Sp.rsT t n = t' at *
  go_enter Tryd.func3, Tryd.ntmps3
  go_upto_region 2 with (go_at_call 5; refine HBG.out.mono ?_; rintro e w1 ⟨rfl, hb1⟩; have HW1 := hid hb1; clear hb1)
  have hs1 : N ≤ w1.heap.size := by have := HW1.out.size; omega
  have HAT := hid (HACT.out w1 HW1.out)
  clear HBG HACT
  go_upto_region 7 with (first | (go_at_call 6; refine (HRG.out _).mono ?_; rintro e w' ⟨rfl, rfl⟩) | (go_at_call 7; refine (HPK.out _).mono ?_; rintro e w' ⟨rfl, rfl⟩) | (go_at_call 8; refine HAT.out.mono ?_; rintro e w2 ⟨ok, f2, rfl, hacc, hb2⟩; have HA2 := hid hacc; have HW2 := hid (HW1.out.trans (hb2.mono hs1)); have hs2 := Nat.le_trans hs1 hb2.size; clear hacc hb2))
  clear HAT HW1 HRG HPK
  go_upto_region 8 with (first | (go_at_call 9; refine (HRST.out _).mono ?_; rintro e w3 ⟨rfl, hb3⟩; have HW3 := hid (HW2.out.trans (hb3.mono hs2)); have hs3 := Nat.le_trans hs2 hb3.size; clear hb3) | (go_at_call 8; refine (HACR.out w3 HW3.out).mono ?_; rintro e w4 ⟨yes, f4, rfl, hacc, hb4⟩; obtain ⟨e1, e2⟩ := HBOTH.out ok yes f2 f4 HA2.out hacc; subst e1; subst e2; have HW4 := hid (HW3.out.trans (hb4.mono hs3)); have hs4 := Nat.le_trans hs3 hb4.size; clear hacc hb4))
  clear HACR HRST HBOTH HW2 HW3 HA2
  have HCM := hid (HCMP.out w4 HW4.out)
  go_upto_region 9 with (go_at_call 10; refine HCM.out.mono ?_; rintro e w5 ⟨u, f5, rfl, hcp, hb5⟩; have HCP := hid hcp; have HW5 := hid (HW4.out.trans (hb5.mono hs4)); have hs5 := Nat.le_trans hs4 hb5.size; clear hcp hb5)
  clear HCM HCMP HW4
  by_cases h0 : f5 = 0
  case neg =>
    have t1 : (f5 != 0) = true := by simp [h0]
    cases ok
    · go_wp2_with fail
      go_ret
      exact ⟨rfl, HW5.out⟩
    · go_wp2_with fail
      go_ret
      exact ⟨rfl, HW5.out⟩
  subst h0
  have hcp : Sp.FormedR s 0 ∧ ∃ H K, MadeOf s u k1 H K := by
    rcases HCP.out with ⟨h1, _⟩ | ⟨_, _, _, h4⟩ | ⟨_, h2, _, _, h5⟩
    · exact absurd rfl h1
    · omega
    · exact ⟨h2, h5⟩
  obtain ⟨hfs, H, K, hmd⟩ := hcp
  have hus : u.size ≤ maxLen := by have := hmd.md.size.2; unfold maxLen; omega
  have HRSU := hid (fun W => reslotted_any u n W hus hn)
  have HACU := hid (fun W (hW : Below N w W) => accept_any s (Sp.rsT u n) k1 W (hAX.out W hW))
  have HOWN := hid (fun yes f h2 => Sp.acc_both hkb hn (s := s) (Sp.rsT_rs u n) (yes := yes) (f := f) (made_acc hfs HMC.out hmd) h2)
  unfold AccPost at HACU
  generalize Sp.rsT u n = u' at *
  clear hfs hmd HCP hus
  cases ok
  · go_wp2_with (first | (go_at_call 9; refine (HRSU.out _).mono ?_; rintro e w6 ⟨rfl, hb6⟩; have HW6 := hid (HW5.out.trans (hb6.mono hs5)); have hs6 := Nat.le_trans hs5 hb6.size; clear hb6) | (go_at_call 8; refine (HACU.out w6 HW6.out).mono ?_; rintro e w7 ⟨yes, f7, rfl, hacc, hb7⟩; obtain ⟨e1, e2⟩ := HOWN.out yes f7 hacc; subst e1; subst e2; have HW7 := hid (HW6.out.trans (hb7.mono hs6)); clear hacc hb7))
    go_ret
    exact ⟨rfl, HW7.out⟩
  · go_wp2_with (first | (go_at_call 9; refine (HRSU.out _).mono ?_; rintro e w6 ⟨rfl, hb6⟩; have HW6 := hid (HW5.out.trans (hb6.mono hs5)); have hs6 := Nat.le_trans hs5 hb6.size; clear hb6) | (go_at_call 8; refine (HACU.out w6 HW6.out).mono ?_; rintro e w7 ⟨yes, f7, rfl, hacc, hb7⟩; obtain ⟨e1, e2⟩ := HOWN.out yes f7 hacc; subst e1; subst e2; have HW7 := hid (HW6.out.trans (hb7.mono hs6)); clear hacc hb7))
    go_ret
    exact ⟨rfl, HW7.out⟩
end Go.Proofs.YtccndnckceagfabDoor
