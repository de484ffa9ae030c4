/-
  Whether a machine program is accepted for a source program: the program's Accept.
  What every statement about accepted programs begins with.
  The helpers with which a machine's run is held against a source program's: walked.
  Nothing is left behind: walked.
  Two runs held against each other: walked.
  The statement on machine programs that are accepted, walked.
-/
import Derived.Test.YtccndnckceagfabDoorHAccC
import Derived.Test.YtccndnckceagfabDoorHDev10
import Derived.Test.YtccndnckceagfabDoorG09
import Derived.Test.YtccndnckceagfabDoorHKeep4
import Derived.Test.YtccndnckceagfabDoorHSnd5
namespace Go.Proofs.YtccndnckceagfabDoor.Sp
/-- what Accept answers -/
def AccIs (s t : ByteArray) (k : Int) (ok : Bool) (f : Int) : Prop :=
  ((256 < s.size ∨ 4096 < t.size) ∧ ok = false ∧ f = 1) ∨
  (s.size ≤ 256 ∧ t.size ≤ 4096 ∧ macB k = false ∧ ok = false ∧ f = 2) ∨
  (s.size ≤ 256 ∧ t.size ≤ 4096 ∧ macB k = true ∧ (progB (B s) s.size 0 = false ∨ progB (B t) t.size k = false) ∧ ok = false ∧ f = 3) ∨
  (s.size ≤ 256 ∧ t.size ≤ 4096 ∧ macB k = true ∧ progB (B s) s.size 0 = true ∧ progB (B t) t.size k = true ∧ Unset (B s) (s.size / 4) ∧ ok = false ∧ f = 4) ∨
  (s.size ≤ 256 ∧ t.size ≤ 4096 ∧ macB k = true ∧ progB (B s) s.size 0 = true ∧ progB (B t) t.size k = true ∧ ¬ Unset (B s) (s.size / 4) ∧ ok = accB (codeTo (B s) (s.size / 4)) (blksTo (B s) (s.size / 4)) (codeK k (B t) (t.size / 4)) (blksTo (B t) (t.size / 4)) ∧ f = 0)
end Go.Proofs.YtccndnckceagfabDoor.Sp

namespace Go.Proofs.YtccndnckceagfabDoor
open Go.RowKit

def AccPost (s t : ByteArray) (k : Int) (w : World) (e : Ending) (w' : World) : Prop :=
  ∃ ok f, e = .returned (.tuple #[.bool ok, .int .i64 f]) ∧ Sp.AccIs s t k ok f ∧ Below w.heap.size w w'

set_option maxRecDepth 20000 in
set_option maxHeartbeats 4000000 in
theorem accept_any (s t : ByteArray) (k : Int) (w : World) (hA : ArgsAt w) :
    Calls Tryd.prog 8 #[.string s, .string t, .int .i64 k] w fun e w' => AccPost s t k w e w' := by
  have HA := hid hA
  clear hA
  by_cases h256 : 256 < s.size
  · have h' : (256 : Int) < s.size := by omega
    go_enter Tryd.func8, Tryd.ntmps8
    go_wp2_with fail
    exact bodyPost_ret (v := .tuple #[.bool false, .int .i64 1]) (by simp [results, Tryd.results8]) rfl ⟨false, 1, rfl, Or.inl ⟨Or.inl h256, rfl, rfl⟩, Below.refl _ _⟩
  have hs1 : ¬ (256 : Int) < s.size := by omega
  have hs2 : s.size ≤ 256 := by omega
  clear h256
  by_cases h4096 : 4096 < t.size
  · have h' : (4096 : Int) < t.size := by omega
    go_enter Tryd.func8, Tryd.ntmps8
    go_wp2_with fail
    exact bodyPost_ret (v := .tuple #[.bool false, .int .i64 1]) (by simp [results, Tryd.results8]) rfl ⟨false, 1, rfl, Or.inl ⟨Or.inr h4096, rfl, rfl⟩, Below.refl _ _⟩
  have ht1 : ¬ (4096 : Int) < t.size := by omega
  have ht2 : t.size ≤ 4096 := by omega
  clear h4096
  have HHM := hid (fun w => hasMachine_any k w)
  cases hk : Sp.macB k
  · have HM := hid hk
    rw [hk] at HHM
    clear hk
    go_enter Tryd.func8, Tryd.ntmps8
    go_wp2_with (go_at_call 15; refine (HHM.out _).mono ?_; rintro e w' ⟨rfl, rfl⟩)
    exact bodyPost_ret (v := .tuple #[.bool false, .int .i64 2]) (by simp [results, Tryd.results8]) rfl ⟨false, 2, rfl, Or.inr (Or.inl ⟨hs2, ht2, HM.out, rfl, rfl⟩), Below.refl _ _⟩
  have HM := hid hk
  have hk6 : 6 ≤ k ∧ k ≤ 10 := by simpa [Sp.macB] using hk
  rw [hk] at HHM
  clear hk
  have HRS := hid (read_any s w hs2)
  go_enter Tryd.func8, Tryd.ntmps8
  go_upto_region 6 with (first | (go_at_call 15; refine (HHM.out _).mono ?_; rintro e w' ⟨rfl, rfl⟩) | (go_at_call 16; refine HRS.out.mono ?_; rintro e w1 ⟨vC, vB, ok, rfl, hok, hsrc, hb1, ⟨aC, nC, cC, rfl⟩, ⟨aB, nB, cB, rfl⟩⟩; have HOK := hid hok; have HSRC := hid hsrc; have HB1 := hid hb1; clear hok hsrc hb1))
  have HBA := hid ((Below.refl w1.heap.size w1).alloc (Nat.le_refl _) (.cells #[.slice aC nC cC, .slice aB nB cB] 41))
  have HR1 := hid (row_two w1 (.slice aC nC cC) (.slice aB nB cB))
  have hz2 : (w1.alloc (.cells #[.slice aC nC cC, .slice aB nB cB] 41)).heap.size = w1.heap.size + 1 := by simp
  have hz1 := HB1.out.size
  have HBW2 := hid (HB1.out.trans (HBA.out.mono hz1))
  generalize w1.alloc (.cells #[.slice aC nC cC, .slice aB nB cB] 41) = w2 at *
  have HRM := hid (readMachine_any t k (by omega) w2 ht2)
  go_upto_region 7 with (go_at_call 17; refine HRM.out.mono ?_; rintro e w3 ⟨vD, vM, okm, rfl, hokm, hsrm, hb3, ⟨aD, nD, cD, rfl⟩, ⟨aM, nM, cM, rfl⟩⟩; have HOKM := hid hokm; have HSRM := hid hsrm; have HB3 := hid hb3; clear hokm hsrm hb3)
  have HBA3 := hid ((Below.refl w3.heap.size w3).alloc (Nat.le_refl _) (.cells #[.slice aD nD cD, .slice aM nM cM] 41))
  have HR3 := hid (row_two w3 (.slice aD nD cD) (.slice aM nM cM))
  have hz4 : (w3.alloc (.cells #[.slice aD nD cD, .slice aM nM cM] 41)).heap.size = w3.heap.size + 1 := by simp
  have hz3 := HB3.out.size
  have HB24 := hid (HB3.out.trans (HBA3.out.mono hz3))
  have HBW4 := hid (HBW2.out.trans (HB24.out.mono (by omega)))
  generalize w3.alloc (.cells #[.slice aD nD cD, .slice aM nM cM] 41) = w4 at *
  cases ok
  · go_wp2_with fail
    exact bodyPost_ret (v := .tuple #[.bool false, .int .i64 3]) (by simp [results, Tryd.results8]) rfl ⟨false, 3, rfl, Or.inr (Or.inr (Or.inl ⟨hs2, ht2, HM.out, Or.inl HOK.out.symm, rfl, rfl⟩)), HBW4.out⟩
  cases okm
  · go_wp2_with fail
    exact bodyPost_ret (v := .tuple #[.bool false, .int .i64 3]) (by simp [results, Tryd.results8]) rfl ⟨false, 3, rfl, Or.inr (Or.inr (Or.inl ⟨hs2, ht2, HM.out, Or.inr HOKM.out.symm, rfl, rfl⟩)), HBW4.out⟩
  have HPB : Hid (Sp.progB (Sp.B s) s.size 0 = true) := hid HOK.out.symm
  have HPM : Hid (Sp.progB (Sp.B t) t.size k = true) := hid HOKM.out.symm
  obtain ⟨o1, o2, o3⟩ := HSRC.out rfl
  obtain ⟨q1, q2, q3⟩ := HSRM.out rfl
  have hb14 : Below w1.heap.size w1 w4 := HBA.out.trans (HB24.out.mono (by omega))
  have HP4 := hid (show ProgAt w4 w.heap.size w1.heap.size (Sp.codeTo (Sp.B s) (s.size / 4)) (Sp.blksTo (Sp.B s) (s.size / 4)) from ⟨.slice aC nC cC, .slice aB nB cB, HR1.out.of_block (HB24.out.block _ (by omega)), by rw [Sp.codeTo_len]; exact own_below o1 hb14, by rw [Sp.blksTo_len]; exact own_below o2 hb14, o3⟩)
  have HQ4 := hid (show ProgAt w4 w2.heap.size w3.heap.size (Sp.codeK k (Sp.B t) (t.size / 4)) (Sp.blksTo (Sp.B t) (t.size / 4)) from ⟨.slice aD nD cD, .slice aM nM cM, HR3.out, by rw [Sp.codeK_len]; exact own_below q1 HBA3.out, by rw [Sp.blksTo_len]; exact own_below q2 HBA3.out, q3⟩)
  clear o1 o2 o3 q1 q2 q3 hb14
  have HA4 := hid (HA.out.move HBW4.out)
  have hp4 := Sp.size_of_progB HPB.out
  have HMU := hid (mayReadUnset_any w1.heap.size (Sp.blocksTo (Sp.B s) (s.size / 4)) w.heap.size (Sp.codeTo (Sp.B s) (s.size / 4)) (Sp.blksTo (Sp.B s) (s.size / 4)) w4 HP4.out HA4.out (Sp.blksTo_len _ _) (by rw [Sp.codeTo_len]; omega) (by rw [Sp.codeTo_len]; omega) hp4.2.2.1 (Sp.blocks_pos _ _ (by omega) hp4.2.2.2) (fun i hi => by
    obtain ⟨j, hj, rfl⟩ := List.getElem_of_mem hi
    rw [Sp.codeTo_get]
    rw [Sp.codeTo_len] at hj
    exact (Sp.insIs_of (Sp.dok_of_progB HPB.out j hj)).bd))
  rw [unset_iff HPB.out] at HMU
  clear hp4
  have hok1 := prOk_of 0 (by omega) (Sp.B s) s.size (by omega) HPB.out
  rw [Sp.codeK_src _ _ (fun i hi => okAt_of_progB HPB.out i hi)] at hok1
  have hok2 := prOk_of k (by omega) (Sp.B t) t.size ht2 HPM.out
  have HAC := hid (fun w5 (hb : Below w4.heap.size w4 w5) => accepted_any w.heap.size w1.heap.size w2.heap.size w3.heap.size _ _ _ _ w5 (HP4.out.move hb) (HQ4.out.move hb) (HA4.out.move hb) hok1.1 hok2.1 hok1.2)
  clear hok1 hok2
  go_wp2_with fail
  refine HMU.out.mono ?_
  rintro e w5 ⟨r, rfl, hr, hb5⟩
  have HRR := hid hr
  have HB5 := hid hb5
  have HBW5 := hid (HBW4.out.trans (hb5.mono HBW4.out.size))
  have hz5 := HBW5.out.size
  clear hr hb5
  cases r
  · have HAC5 := hid (HAC.out w5 HB5.out)
    generalize hacc : Sp.accB (Sp.codeTo (Sp.B s) (s.size / 4)) (Sp.blksTo (Sp.B s) (s.size / 4)) (Sp.codeK k (Sp.B t) (t.size / 4)) (Sp.blksTo (Sp.B t) (t.size / 4)) = ac at *
    have HACC := hid hacc
    clear hacc
    go_wp2_with (go_at_call 19; refine HAC5.out.mono ?_; rintro e w6 ⟨rfl, hb6⟩; have HB6 := hid hb6; clear hb6)
    exact bodyPost_ret (v := .tuple #[.bool ac, .int .i64 0]) (by simp [results, Tryd.results8]) rfl ⟨ac, 0, rfl, Or.inr (Or.inr (Or.inr (Or.inr ⟨hs2, ht2, HM.out, HPB.out, HPM.out, (fun h => by have := HRR.out.2 h; cases this), HACC.out.symm, rfl⟩))), HBW5.out.trans (HB6.out.mono hz5)⟩
  · go_wp2_with fail
    exact bodyPost_ret (v := .tuple #[.bool false, .int .i64 4]) (by simp [results, Tryd.results8]) rfl ⟨false, 4, rfl, Or.inr (Or.inr (Or.inr (Or.inl ⟨hs2, ht2, HM.out, HPB.out, HPM.out, HRR.out.1 trivial, rfl, rfl⟩))), HBW5.out⟩
end Go.Proofs.YtccndnckceagfabDoor

namespace Go.Proofs.YtccndnckceagfabDoor.Sp
/-- the smallest program's own machine program, and one that leaves something behind -/
def ownT : ByteArray := ⟨#[126, 49, 46, 46, 126, 50, 46, 46, 126, 51, 46, 46, 114, 48, 46, 46]⟩
def bareT : ByteArray := ⟨#[114, 48, 46, 46]⟩
theorem small_check : CheckR small 1 0 := Or.inr (Or.inr ⟨small_formed, fun i hi => by
  have h1 : small.size / 4 = 1 := by decide
  have h2 : i = 0 := by omega
  subst h2
  decide, by decide, rfl⟩)
theorem accIs_good {s t : ByteArray} {k : Int} {ok : Bool} {f : Int} (h : AccIs s t k ok f) (hs : FormedR s 0) (ht : t.size ≤ 4096) (hk : macB k = true) (hp : progB (B t) t.size k = true) : f = 0 ∧ ok = accB (codeTo (B s) (s.size / 4)) (blksTo (B s) (s.size / 4)) (codeK k (B t) (t.size / 4)) (blksTo (B t) (t.size / 4)) := by
  obtain ⟨h1, h2, h3⟩ := hs.zero
  rcases h with ⟨a, _⟩ | ⟨_, _, a, _⟩ | ⟨_, _, _, a, _⟩ | ⟨_, _, _, _, _, a, _⟩ | ⟨_, _, _, _, _, _, a, b⟩
  · omega
  · rw [hk] at a; cases a
  · rcases a with a | a
    · rw [h2] at a; cases a
    · rw [hp] at a; cases a
  · exact absurd a h3
  · exact ⟨b, a⟩
theorem own_acc {ok : Bool} {f : Int} (h : AccIs small ownT 6 ok f) : ok = true ∧ f = 0 := by
  obtain ⟨a, b⟩ := accIs_good h small_formed (by decide) (by decide) (by decide +kernel)
  exact ⟨by rw [b]; decide +kernel, a⟩
theorem bare_acc {ok : Bool} {f : Int} (h : AccIs small bareT 6 ok f) : ok = false ∧ f = 0 := by
  obtain ⟨a, b⟩ := accIs_good h small_formed (by decide) (by decide) (by decide +kernel)
  exact ⟨by rw [b]; decide +kernel, a⟩
/-- of a machine, out of a raw number -/
def rgs (k : Int) : Int := if 6 ≤ k ∧ k ≤ 10 then k else 6 + pk k 5
end Go.Proofs.YtccndnckceagfabDoor.Sp

namespace Go.Proofs.YtccndnckceagfabDoor
open Go.RowKit
theorem rgs_bd (k : Int) : 6 ≤ Sp.rgs k ∧ Sp.rgs k ≤ 10 := by
  unfold Sp.rgs
  split
  · assumption
  · have := Sp.pk_bd k 5 (by omega)
    omega
theorem registers_any (k : Int) (w : World) (hk : -9223372036854775808 ≤ k ∧ k ≤ 9223372036854775807) :
    Calls Tryd.prog 6 #[.int .i64 k] w fun e w' => e = .returned (.int .i64 (Sp.rgs k)) ∧ w = w' := by
  by_cases h1 : 6 ≤ k
  · by_cases h2 : k ≤ 10
    · have HE := hid (show Sp.rgs k = k by unfold Sp.rgs; rw [if_pos ⟨h1, h2⟩])
      go_enter Tryd.func6, Tryd.ntmps6
      go_wp2_with fail
      go_ret
      exact ⟨by rw [HE.out]; rfl, rfl⟩
    · have HE := hid (show Sp.rgs k = 6 + Sp.pk k 5 by unfold Sp.rgs; rw [if_neg (by omega)])
      have HP := hid (pick_any k 5 w hk (by omega))
      have hb := Sp.pk_bd k 5 (by omega)
      have h3 : 10 < k := by omega
      clear h2
      generalize Sp.pk k 5 = z at *
      go_enter Tryd.func6, Tryd.ntmps6
      go_wp2_with (go_at_call 7; refine HP.out.mono ?_; rintro e w' ⟨rfl, rfl⟩)
      go_ret
      exact ⟨by rw [HE.out]; rfl, rfl⟩
  · have HE := hid (show Sp.rgs k = 6 + Sp.pk k 5 by unfold Sp.rgs; rw [if_neg (by omega)])
    have HP := hid (pick_any k 5 w hk (by omega))
    have hb := Sp.pk_bd k 5 (by omega)
    have h3 : k < 6 := by omega
    clear h1
    generalize Sp.pk k 5 = z at *
    go_enter Tryd.func6, Tryd.ntmps6
    go_wp2_with (go_at_call 7; refine HP.out.mono ?_; rintro e w' ⟨rfl, rfl⟩)
    go_ret
    exact ⟨by rw [HE.out]; rfl, rfl⟩

set_option maxRecDepth 20000 in
set_option maxHeartbeats 2000000 in
theorem begun_any (w : World) (hA : ArgsAt w) : Calls Tryd.prog 5 #[] w fun e w' => e = .returned (.bool true) ∧ Below w.heap.size w w' := by
  have HC := hid (show Calls Tryd.prog 14 #[.string { data := #[114, 97, 46, 46] }] w fun e w' => e = .returned (.tuple #[.int .i64 1, .int .i64 0]) ∧ Below w.heap.size w w' from (check_any Sp.small w (by decide) hA).mono (by
    rintro e w' ⟨n, f, rfl, h, hb⟩
    obtain ⟨rfl, rfl⟩ := h.eq Sp.small_check
    exact ⟨rfl, hb⟩))
  have HO := hid (show ∀ W, ArgsAt W → Calls Tryd.prog 8 #[.string { data := #[114, 97, 46, 46] }, .string { data := #[126, 49, 46, 46, 126, 50, 46, 46, 126, 51, 46, 46, 114, 48, 46, 46] }, .int .i64 6] W fun e w' => e = .returned (.tuple #[.bool true, .int .i64 0]) ∧ Below W.heap.size W w' from fun W hW => (accept_any Sp.small Sp.ownT 6 W hW).mono (by
    rintro e w' ⟨ok, f, rfl, h, hb⟩
    obtain ⟨rfl, rfl⟩ := Sp.own_acc h
    exact ⟨rfl, hb⟩))
  have HN := hid (show ∀ W, ArgsAt W → Calls Tryd.prog 8 #[.string { data := #[114, 97, 46, 46] }, .string { data := #[114, 48, 46, 46] }, .int .i64 6] W fun e w' => e = .returned (.tuple #[.bool false, .int .i64 0]) ∧ Below W.heap.size W w' from fun W hW => (accept_any Sp.small Sp.bareT 6 W hW).mono (by
    rintro e w' ⟨ok, f, rfl, h, hb⟩
    obtain ⟨rfl, rfl⟩ := Sp.bare_acc h
    exact ⟨rfl, hb⟩))
  have HA := hid hA
  clear hA
  go_enter Tryd.func5, Tryd.ntmps5
  go_upto_region 2 with (go_at_call 14; refine HC.out.mono ?_; rintro e w1 ⟨rfl, hb1⟩; have HB1 := hid hb1; clear hb1)
  have HA1 := hid (HA.out.move HB1.out)
  have hz1 := HB1.out.size
  go_upto_region 3 with (go_at_call 8; refine (HO.out w1 HA1.out).mono ?_; rintro e w2 ⟨rfl, hb2⟩; have HB2 := hid (HB1.out.trans (hb2.mono hz1)); clear hb2)
  have HA2 := hid (HA.out.move HB2.out)
  have hz2 := HB2.out.size
  go_wp2_with (go_at_call 8; refine (HN.out w2 HA2.out).mono ?_; rintro e w3 ⟨rfl, hb3⟩; have HB3 := hid (HB2.out.trans (hb3.mono hz2)); clear hb3)
  go_ret
  exact ⟨rfl, HB3.out⟩
end Go.Proofs.YtccndnckceagfabDoor

namespace Go.Proofs.YtccndnckceagfabDoor
open Go.RowKit

theorem B_list (s : ByteArray) (i : Nat) (h : i < s.size) : s.data.toList.drop i = s.data[i] :: s.data.toList.drop (i + 1) := by
  have hl : i < s.data.toList.length := by rw [Array.length_toList]; exact h
  rw [List.drop_eq_getElem_cons hl]
  simp
theorem frB_not {c : UInt8} (h1 : ((c.toNat : Int) == 62) = false) (h2 : ((c.toNat : Int) == 60) = false) (h3 : ((c.toNat : Int) == 126) = false) : Sp.frB c = false := by
  unfold Sp.frB
  rw [beq_eq_false_iff_ne] at h1 h2 h3
  simp only [Bool.or_eq_false_iff, beq_eq_false_iff_ne]
  refine ⟨⟨fun e => h1 ?_, fun e => h2 ?_⟩, fun e => h3 ?_⟩ <;> rw [e] <;> rfl
theorem frB_yes {c : UInt8} (h : (c.toNat : Int) = 62 ∨ (c.toNat : Int) = 60 ∨ (c.toNat : Int) = 126) : Sp.frB c = true := by
  unfold Sp.frB
  have key : ∀ n : Nat, c.toNat = n → c = UInt8.ofNat n := fun n hn => by rw [← hn]; exact (UInt8.ofNat_toNat).symm
  rcases h with h | h | h
  · rw [key 62 (by omega)]; rfl
  · rw [key 60 (by omega)]; rfl
  · rw [key 126 (by omega)]; rfl
theorem er_two {c : UInt8} (h : Sp.frB c = true) (X : List UInt8) : Sp.er (c :: X) = Sp.er (X.drop 1) := by
  cases X with
  | nil => simp [Sp.er, h]
  | cons d r => simp [Sp.er, h]
theorem ext_one (s : ByteArray) (i : Nat) (h : i < s.size) : (s.extract i (i + 1)).data.toList = [s.data[i]] := by
  rw [ByteArray.data_extract]
  simp only [Array.toList_extract]
  rw [List.extract_eq_take_drop]
  have := B_list s i h
  rw [this]
  simp

end Go.Proofs.YtccndnckceagfabDoor

namespace Go.Proofs.YtccndnckceagfabDoor
open Go.RowKit

/-- nothing is left behind -/
def Clean (st : Sp.St) : Prop := st.status = 0 → (∀ i, 1 ≤ i → i < 10 → st.regs i = 0) ∧ (∀ i, i < 52 → st.slots i = 0) ∧ st.regs 0 = st.value

end Go.Proofs.YtccndnckceagfabDoor

namespace Go.Proofs.YtccndnckceagfabDoor
open Go.RowKit

end Go.Proofs.YtccndnckceagfabDoor

namespace Go.Proofs.YtccndnckceagfabDoor
open Go.RowKit

theorem walkP_ok {C : List Sp.Ins} (hC : ∀ j (h : j < C.length), insOk C[j]) (F : Int → Int) : ∀ (f : Nat) (m : Sp.PSt) (n : Nat) (a : Int), m.ok n → (Sp.walkP C F f m a).ok (n + 9 * f)
  | 0, _, _, _, h => h
  | f + 1, m, n, a, h => by
    simp only [Sp.walkP]
    have mono : ∀ {m : Sp.PSt} {n k : Nat}, m.ok n → n ≤ k → m.ok k := fun h hk => ⟨h.pl, h.pub, h.sec, Nat.le_trans h.trace hk⟩
    split
    · exact mono h (by omega)
    · split
      · rename_i hb
        have := walkP_ok hC F f _ (n + 9) (Sp.stepP F m a (C[a.toNat]'hb.2)).2 (stepP_ok (F := F) h a (hC _ hb.2))
        rw [show n + 9 * (f + 1) = n + 9 + 9 * f by omega]
        exact this
      · exact mono h (by omega)
theorem Sp.ExecR.good {s : ByteArray} {k : Int} {I : Sp.Inp} {fuel : Int} {st : Sp.St} {e : Int} (h : Sp.ExecR s k I fuel st e) (h1 : s.size ≤ 4096) (h2 : (Sp.mayB I fuel && Sp.macB k) = true) (h3 : Sp.progB (Sp.B s) s.size k = true) : e = 0 ∧ st = Sp.fillM k (Sp.runG (Sp.stepU s) fuel.toNat (Sp.start Sp.pM I.cut 4)) := by
  rcases h with ⟨a, _⟩ | ⟨_, a, _⟩ | ⟨_, _, a, _⟩ | ⟨_, _, _, a, b⟩
  · omega
  · rw [h2] at a; cases a
  · rw [h3] at a; cases a
  · exact ⟨a, b⟩
/-- what a run that returned leaves, as the program tells it -/
theorem fin_clean {m μ : Sp.PSt} (h : Sp.Fin' m μ) : Clean (outM μ) := by
  intro hs
  have hs' : m.status = 0 := by rw [h.st]; exact hs
  obtain ⟨c1, c2⟩ := h.cl hs'
  exact ⟨fun i h1 h2 => c1 i h1 (by omega), fun i h2 => c1 (10 + i) (by omega) (by omega), c2⟩
theorem src_eq {s : ByteArray} (hp : Sp.progB (Sp.B s) s.size 0 = true) : Sp.codeK 0 (Sp.B s) (s.size / 4) = Sp.codeTo (Sp.B s) (s.size / 4) :=
  Sp.codeK_src _ _ (fun i hi => Sp.dok_of_progB hp i hi)

end Go.Proofs.YtccndnckceagfabDoor
