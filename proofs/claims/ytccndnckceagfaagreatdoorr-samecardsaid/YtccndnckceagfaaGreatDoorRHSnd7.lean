/-
  Whether a machine program is accepted for a source program: the program's Accept.
  What every statement about accepted programs begins with.
  The helpers with which a machine's run is held against a source program's: walked.
  Nothing is left behind: walked.
  Two runs held against each other: walked.
  The statement on machine programs that are accepted, walked.
-/
import Derived.Test.YtccndnckceagfaaGreatDoorRHAccC
import Derived.Test.YtccndnckceagfaaGreatDoorRG03
import Derived.Test.YtccndnckceagfaaGreatDoorRG14
import Derived.Test.YtccndnckceagfaaGreatDoorRHKeep4
import Derived.Test.YtccndnckceagfaaGreatDoorRHSnd5
import Derived.Test.YtccndnckceagfaaGreatDoorRHRunE
namespace Go.Proofs.YtccndnckceagfaaGreatDoorR.Sp
/-- what Accept answers -/
def AccIs (s t : ByteArray) (k : Int) (ok : Bool) (f : Int) : Prop :=
  ((256 < s.size ∨ 4096 < t.size) ∧ ok = false ∧ f = 1) ∨
  (s.size ≤ 256 ∧ t.size ≤ 4096 ∧ macB k = false ∧ ok = false ∧ f = 2) ∨
  (s.size ≤ 256 ∧ t.size ≤ 4096 ∧ macB k = true ∧ (progB (B s) s.size 0 = false ∨ progB (B t) t.size k = false) ∧ ok = false ∧ f = 3) ∨
  (s.size ≤ 256 ∧ t.size ≤ 4096 ∧ macB k = true ∧ progB (B s) s.size 0 = true ∧ progB (B t) t.size k = true ∧ Unset (B s) (s.size / 4) ∧ ok = false ∧ f = 4) ∨
  (s.size ≤ 256 ∧ t.size ≤ 4096 ∧ macB k = true ∧ progB (B s) s.size 0 = true ∧ progB (B t) t.size k = true ∧ ¬ Unset (B s) (s.size / 4) ∧ ok = accB (codeTo (B s) (s.size / 4)) (blksTo (B s) (s.size / 4)) (codeK k (B t) (t.size / 4)) (blksTo (B t) (t.size / 4)) ∧ f = 0)
end Go.Proofs.YtccndnckceagfaaGreatDoorR.Sp

namespace Go.Proofs.YtccndnckceagfaaGreatDoorR
open Go.RowKit

def AccPost (s t : ByteArray) (k : Int) (w : World) (e : Ending) (w' : World) : Prop :=
  ∃ ok f, e = .returned (.tuple #[.bool ok, .int .i64 f]) ∧ Sp.AccIs s t k ok f ∧ Below w.heap.size w w'

set_option maxRecDepth 20000 in
set_option maxHeartbeats 4000000 in
theorem accept_any (s t : ByteArray) (k : Int) (w : World) (hA : ArgsAt w) :
    Calls Tryz.prog 10 #[.string s, .string t, .int .i64 k] w fun e w' => AccPost s t k w e w' := by
  have HA := hid hA
  clear hA
  by_cases h256 : 256 < s.size
  · have h' : (256 : Int) < s.size := by omega
    go_enter Tryz.func10, Tryz.ntmps10
    go_wp2_with fail
    exact bodyPost_ret (v := .tuple #[.bool false, .int .i64 1]) (by simp [results, Tryz.results10]) rfl ⟨false, 1, rfl, Or.inl ⟨Or.inl h256, rfl, rfl⟩, Below.refl _ _⟩
  have hs1 : ¬ (256 : Int) < s.size := by omega
  have hs2 : s.size ≤ 256 := by omega
  clear h256
  by_cases h4096 : 4096 < t.size
  · have h' : (4096 : Int) < t.size := by omega
    go_enter Tryz.func10, Tryz.ntmps10
    go_wp2_with fail
    exact bodyPost_ret (v := .tuple #[.bool false, .int .i64 1]) (by simp [results, Tryz.results10]) rfl ⟨false, 1, rfl, Or.inl ⟨Or.inr h4096, rfl, rfl⟩, Below.refl _ _⟩
  have ht1 : ¬ (4096 : Int) < t.size := by omega
  have ht2 : t.size ≤ 4096 := by omega
  clear h4096
  have HHM := hid (fun w => hasMachine_any k w)
  cases hk : Sp.macB k
  · have HM := hid hk
    rw [hk] at HHM
    clear hk
    go_enter Tryz.func10, Tryz.ntmps10
    go_wp2_with (go_at_call 15; refine (HHM.out _).mono ?_; rintro e w' ⟨rfl, rfl⟩)
    exact bodyPost_ret (v := .tuple #[.bool false, .int .i64 2]) (by simp [results, Tryz.results10]) rfl ⟨false, 2, rfl, Or.inr (Or.inl ⟨hs2, ht2, HM.out, rfl, rfl⟩), Below.refl _ _⟩
  have HM := hid hk
  have hk6 : 6 ≤ k ∧ k ≤ 10 := by simpa [Sp.macB] using hk
  rw [hk] at HHM
  clear hk
  have HRS := hid (read_any s w hs2)
  go_enter Tryz.func10, Tryz.ntmps10
  go_upto_region 6 with (first | (go_at_call 15; refine (HHM.out _).mono ?_; rintro e w' ⟨rfl, rfl⟩) | (go_at_call 17; refine HRS.out.mono ?_; rintro e w1 ⟨vC, vB, ok, rfl, hok, hsrc, hb1, ⟨aC, nC, cC, rfl⟩, ⟨aB, nB, cB, rfl⟩⟩; have HOK := hid hok; have HSRC := hid hsrc; have HB1 := hid hb1; clear hok hsrc hb1))
  have HBA := hid ((Below.refl w1.heap.size w1).alloc (Nat.le_refl _) (.cells #[.slice aC nC cC, .slice aB nB cB] 49))
  have HR1 := hid (row_two w1 (.slice aC nC cC) (.slice aB nB cB))
  have hz2 : (w1.alloc (.cells #[.slice aC nC cC, .slice aB nB cB] 49)).heap.size = w1.heap.size + 1 := by simp
  have hz1 := HB1.out.size
  have HBW2 := hid (HB1.out.trans (HBA.out.mono hz1))
  generalize w1.alloc (.cells #[.slice aC nC cC, .slice aB nB cB] 49) = w2 at *
  have HRM := hid (readMachine_any t k (by omega) w2 ht2)
  go_upto_region 7 with (go_at_call 18; refine HRM.out.mono ?_; rintro e w3 ⟨vD, vM, okm, rfl, hokm, hsrm, hb3, ⟨aD, nD, cD, rfl⟩, ⟨aM, nM, cM, rfl⟩⟩; have HOKM := hid hokm; have HSRM := hid hsrm; have HB3 := hid hb3; clear hokm hsrm hb3)
  have HBA3 := hid ((Below.refl w3.heap.size w3).alloc (Nat.le_refl _) (.cells #[.slice aD nD cD, .slice aM nM cM] 49))
  have HR3 := hid (row_two w3 (.slice aD nD cD) (.slice aM nM cM))
  have hz4 : (w3.alloc (.cells #[.slice aD nD cD, .slice aM nM cM] 49)).heap.size = w3.heap.size + 1 := by simp
  have hz3 := HB3.out.size
  have HB24 := hid (HB3.out.trans (HBA3.out.mono hz3))
  have HBW4 := hid (HBW2.out.trans (HB24.out.mono (by omega)))
  generalize w3.alloc (.cells #[.slice aD nD cD, .slice aM nM cM] 49) = w4 at *
  cases ok
  · go_wp2_with fail
    exact bodyPost_ret (v := .tuple #[.bool false, .int .i64 3]) (by simp [results, Tryz.results10]) rfl ⟨false, 3, rfl, Or.inr (Or.inr (Or.inl ⟨hs2, ht2, HM.out, Or.inl HOK.out.symm, rfl, rfl⟩)), HBW4.out⟩
  cases okm
  · go_wp2_with fail
    exact bodyPost_ret (v := .tuple #[.bool false, .int .i64 3]) (by simp [results, Tryz.results10]) rfl ⟨false, 3, rfl, Or.inr (Or.inr (Or.inl ⟨hs2, ht2, HM.out, Or.inr HOKM.out.symm, rfl, rfl⟩)), HBW4.out⟩
  have HPB : Hid (Sp.progB (Sp.B s) s.size 0 = true) := hid HOK.out.symm
  have HPM : Hid (Sp.progB (Sp.B t) t.size k = true) := hid HOKM.out.symm
  obtain ⟨o1, o2, o3⟩ := HSRC.out rfl
  obtain ⟨q1, q2, q3⟩ := HSRM.out rfl
  have hb14 : Below w1.heap.size w1 w4 := HBA.out.trans (HB24.out.mono (by omega))
  have HP4 := hid (show ProgAt w4 w.heap.size w1.heap.size (Sp.codeTo (Sp.B s) (s.size / 4)) (Sp.blksTo (Sp.B s) (s.size / 4)) from ⟨.slice aC nC cC, .slice aB nB cB, HR1.out.of_block (HB24.out.block _ (by omega)), by rw [Sp.codeTo_len]; exact own_below o1 hb14, by rw [Sp.blksTo_len]; exact own_below o2 hb14, o3⟩)
  have HQ4 := hid (show ProgAt w4 w2.heap.size w3.heap.size (Sp.codeK k (Sp.B t) (t.size / 4)) (Sp.blksTo (Sp.B t) (t.size / 4)) from ⟨.slice aD nD cD, .slice aM nM cM, HR3.out, by rw [Sp.codeK_len]; exact own_below q1 HBA3.out, by rw [Sp.blksTo_len]; exact own_below q2 HBA3.out, q3⟩)
  clear o1 o2 o3 q1 q2 q3 hb14
  have HA4 := hid (HA.out.move HBW4.out)
  have hp4 := Sp.size_of_progB HPB.out
  have HMU := hid (mayReadUnset_any w1.heap.size (Sp.blocksTo (Sp.B s) (s.size / 4)) w.heap.size (Sp.codeTo (Sp.B s) (s.size / 4)) (Sp.blksTo (Sp.B s) (s.size / 4)) w4 HP4.out HA4.out (Sp.blksTo_len _ _) (by rw [Sp.codeTo_len]; omega) (by rw [Sp.codeTo_len]; omega) hp4.2.2.1 (Sp.blocks_pos _ _ (by omega) hp4.2.2.2) (fun i hi => by
    obtain ⟨j, hj, rfl⟩ := List.getElem_of_mem hi
    rw [Sp.codeTo_get]
    rw [Sp.codeTo_len] at hj
    exact (Sp.insIs_of (Sp.dok_of_progB HPB.out j hj)).bd))
  rw [unset_iff HPB.out] at HMU
  clear hp4
  have hok1 := prOk_of 0 (by omega) (Sp.B s) s.size (by omega) HPB.out
  rw [Sp.codeK_src _ _ (fun i hi => okAt_of_progB HPB.out i hi)] at hok1
  have hok2 := prOk_of k (by omega) (Sp.B t) t.size ht2 HPM.out
  have HAC := hid (fun w5 (hb : Below w4.heap.size w4 w5) => accepted_any w.heap.size w1.heap.size w2.heap.size w3.heap.size _ _ _ _ w5 (HP4.out.move hb) (HQ4.out.move hb) (HA4.out.move hb) hok1.1 hok2.1 hok1.2)
  clear hok1 hok2
  go_wp2_with fail
  refine HMU.out.mono ?_
  rintro e w5 ⟨r, rfl, hr, hb5⟩
  have HRR := hid hr
  have HB5 := hid hb5
  have HBW5 := hid (HBW4.out.trans (hb5.mono HBW4.out.size))
  have hz5 := HBW5.out.size
  clear hr hb5
  cases r
  · have HAC5 := hid (HAC.out w5 HB5.out)
    generalize hacc : Sp.accB (Sp.codeTo (Sp.B s) (s.size / 4)) (Sp.blksTo (Sp.B s) (s.size / 4)) (Sp.codeK k (Sp.B t) (t.size / 4)) (Sp.blksTo (Sp.B t) (t.size / 4)) = ac at *
    have HACC := hid hacc
    clear hacc
    go_wp2_with (go_at_call 20; refine HAC5.out.mono ?_; rintro e w6 ⟨rfl, hb6⟩; have HB6 := hid hb6; clear hb6)
    exact bodyPost_ret (v := .tuple #[.bool ac, .int .i64 0]) (by simp [results, Tryz.results10]) rfl ⟨ac, 0, rfl, Or.inr (Or.inr (Or.inr (Or.inr ⟨hs2, ht2, HM.out, HPB.out, HPM.out, (fun h => by have := HRR.out.2 h; cases this), HACC.out.symm, rfl⟩))), HBW5.out.trans (HB6.out.mono hz5)⟩
  · go_wp2_with fail
    exact bodyPost_ret (v := .tuple #[.bool false, .int .i64 4]) (by simp [results, Tryz.results10]) rfl ⟨false, 4, rfl, Or.inr (Or.inr (Or.inr (Or.inl ⟨hs2, ht2, HM.out, HPB.out, HPM.out, HRR.out.1 trivial, rfl, rfl⟩))), HBW5.out⟩
end Go.Proofs.YtccndnckceagfaaGreatDoorR

namespace Go.Proofs.YtccndnckceagfaaGreatDoorR.Sp
/-- the smallest program's own machine program, and one that leaves something behind -/
def ownT : ByteArray := ⟨#[126, 49, 46, 46, 126, 50, 46, 46, 126, 51, 46, 46, 114, 48, 46, 46]⟩
def bareT : ByteArray := ⟨#[114, 48, 46, 46]⟩
theorem small_check : CheckR small 1 0 := Or.inr (Or.inr ⟨small_formed, fun i hi => by
  have h1 : small.size / 4 = 1 := by decide
  have h2 : i = 0 := by omega
  subst h2
  decide, by decide, rfl⟩)
theorem accIs_good {s t : ByteArray} {k : Int} {ok : Bool} {f : Int} (h : AccIs s t k ok f) (hs : FormedR s 0) (ht : t.size ≤ 4096) (hk : macB k = true) (hp : progB (B t) t.size k = true) : f = 0 ∧ ok = accB (codeTo (B s) (s.size / 4)) (blksTo (B s) (s.size / 4)) (codeK k (B t) (t.size / 4)) (blksTo (B t) (t.size / 4)) := by
  obtain ⟨h1, h2, h3⟩ := hs.zero
  rcases h with ⟨a, _⟩ | ⟨_, _, a, _⟩ | ⟨_, _, _, a, _⟩ | ⟨_, _, _, _, _, a, _⟩ | ⟨_, _, _, _, _, _, a, b⟩
  · omega
  · rw [hk] at a; cases a
  · rcases a with a | a
    · rw [h2] at a; cases a
    · rw [hp] at a; cases a
  · exact absurd a h3
  · exact ⟨b, a⟩
theorem own_acc {ok : Bool} {f : Int} (h : AccIs small ownT 6 ok f) : ok = true ∧ f = 0 := by
  obtain ⟨a, b⟩ := accIs_good h small_formed (by decide) (by decide) (by decide +kernel)
  exact ⟨by rw [b]; decide +kernel, a⟩
theorem bare_acc {ok : Bool} {f : Int} (h : AccIs small bareT 6 ok f) : ok = false ∧ f = 0 := by
  obtain ⟨a, b⟩ := accIs_good h small_formed (by decide) (by decide) (by decide +kernel)
  exact ⟨by rw [b]; decide +kernel, a⟩
/-- of a machine, out of a raw number -/
def rgs (k : Int) : Int := if 6 ≤ k ∧ k ≤ 10 then k else 6 + pk k 5
end Go.Proofs.YtccndnckceagfaaGreatDoorR.Sp

namespace Go.Proofs.YtccndnckceagfaaGreatDoorR
open Go.RowKit
theorem rgs_bd (k : Int) : 6 ≤ Sp.rgs k ∧ Sp.rgs k ≤ 10 := by
  unfold Sp.rgs
  split
  · assumption
  · have := Sp.pk_bd k 5 (by omega)
    omega
theorem registers_any (k : Int) (w : World) (hk : -9223372036854775808 ≤ k ∧ k ≤ 9223372036854775807) :
    Calls Tryz.prog 6 #[.int .i64 k] w fun e w' => e = .returned (.int .i64 (Sp.rgs k)) ∧ w = w' := by
  by_cases h1 : 6 ≤ k
  · by_cases h2 : k ≤ 10
    · have HE := hid (show Sp.rgs k = k by unfold Sp.rgs; rw [if_pos ⟨h1, h2⟩])
      go_enter Tryz.func6, Tryz.ntmps6
      go_wp2_with fail
      go_ret
      exact ⟨by rw [HE.out]; rfl, rfl⟩
    · have HE := hid (show Sp.rgs k = 6 + Sp.pk k 5 by unfold Sp.rgs; rw [if_neg (by omega)])
      have HP := hid (pick_any k 5 w hk (by omega))
      have hb := Sp.pk_bd k 5 (by omega)
      have h3 : 10 < k := by omega
      clear h2
      generalize Sp.pk k 5 = z at *
      go_enter Tryz.func6, Tryz.ntmps6
      go_wp2_with (go_at_call 7; refine HP.out.mono ?_; rintro e w' ⟨rfl, rfl⟩)
      go_ret
      exact ⟨by rw [HE.out]; rfl, rfl⟩
  · have HE := hid (show Sp.rgs k = 6 + Sp.pk k 5 by unfold Sp.rgs; rw [if_neg (by omega)])
    have HP := hid (pick_any k 5 w hk (by omega))
    have hb := Sp.pk_bd k 5 (by omega)
    have h3 : k < 6 := by omega
    clear h1
    generalize Sp.pk k 5 = z at *
    go_enter Tryz.func6, Tryz.ntmps6
    go_wp2_with (go_at_call 7; refine HP.out.mono ?_; rintro e w' ⟨rfl, rfl⟩)
    go_ret
    exact ⟨by rw [HE.out]; rfl, rfl⟩

set_option maxRecDepth 20000 in
set_option maxHeartbeats 2000000 in
theorem begun_any (w : World) (hA : ArgsAt w) : Calls Tryz.prog 4 #[] w fun e w' => e = .returned (.bool true) ∧ Below w.heap.size w w' := by
  have HC := hid (show Calls Tryz.prog 8 #[.string { data := #[114, 97, 46, 46] }] w fun e w' => e = .returned (.tuple #[.int .i64 1, .int .i64 0]) ∧ Below w.heap.size w w' from (check_any Sp.small w (by decide) hA).mono (by
    rintro e w' ⟨n, f, rfl, h, hb⟩
    obtain ⟨rfl, rfl⟩ := h.eq Sp.small_check
    exact ⟨rfl, hb⟩))
  have HO := hid (show ∀ W, ArgsAt W → Calls Tryz.prog 10 #[.string { data := #[114, 97, 46, 46] }, .string { data := #[126, 49, 46, 46, 126, 50, 46, 46, 126, 51, 46, 46, 114, 48, 46, 46] }, .int .i64 6] W fun e w' => e = .returned (.tuple #[.bool true, .int .i64 0]) ∧ Below W.heap.size W w' from fun W hW => (accept_any Sp.small Sp.ownT 6 W hW).mono (by
    rintro e w' ⟨ok, f, rfl, h, hb⟩
    obtain ⟨rfl, rfl⟩ := Sp.own_acc h
    exact ⟨rfl, hb⟩))
  have HN := hid (show ∀ W, ArgsAt W → Calls Tryz.prog 10 #[.string { data := #[114, 97, 46, 46] }, .string { data := #[114, 48, 46, 46] }, .int .i64 6] W fun e w' => e = .returned (.tuple #[.bool false, .int .i64 0]) ∧ Below W.heap.size W w' from fun W hW => (accept_any Sp.small Sp.bareT 6 W hW).mono (by
    rintro e w' ⟨ok, f, rfl, h, hb⟩
    obtain ⟨rfl, rfl⟩ := Sp.bare_acc h
    exact ⟨rfl, hb⟩))
  have HA := hid hA
  clear hA
  go_enter Tryz.func4, Tryz.ntmps4
  go_upto_region 2 with (go_at_call 8; refine HC.out.mono ?_; rintro e w1 ⟨rfl, hb1⟩; have HB1 := hid hb1; clear hb1)
  have HA1 := hid (HA.out.move HB1.out)
  have hz1 := HB1.out.size
  go_upto_region 3 with (go_at_call 10; refine (HO.out w1 HA1.out).mono ?_; rintro e w2 ⟨rfl, hb2⟩; have HB2 := hid (HB1.out.trans (hb2.mono hz1)); clear hb2)
  have HA2 := hid (HA.out.move HB2.out)
  have hz2 := HB2.out.size
  go_wp2_with (go_at_call 10; refine (HN.out w2 HA2.out).mono ?_; rintro e w3 ⟨rfl, hb3⟩; have HB3 := hid (HB2.out.trans (hb3.mono hz2)); clear hb3)
  go_ret
  exact ⟨rfl, HB3.out⟩
end Go.Proofs.YtccndnckceagfaaGreatDoorR

namespace Go.Proofs.YtccndnckceagfaaGreatDoorR
open Go.RowKit

theorem B_list (s : ByteArray) (i : Nat) (h : i < s.size) : s.data.toList.drop i = s.data[i] :: s.data.toList.drop (i + 1) := by
  have hl : i < s.data.toList.length := by rw [Array.length_toList]; exact h
  rw [List.drop_eq_getElem_cons hl]
  simp
theorem frB_not {c : UInt8} (h1 : ((c.toNat : Int) == 62) = false) (h2 : ((c.toNat : Int) == 60) = false) (h3 : ((c.toNat : Int) == 126) = false) : Sp.frB c = false := by
  unfold Sp.frB
  rw [beq_eq_false_iff_ne] at h1 h2 h3
  simp only [Bool.or_eq_false_iff, beq_eq_false_iff_ne]
  refine ⟨⟨fun e => h1 ?_, fun e => h2 ?_⟩, fun e => h3 ?_⟩ <;> rw [e] <;> rfl
theorem frB_yes {c : UInt8} (h : (c.toNat : Int) = 62 ∨ (c.toNat : Int) = 60 ∨ (c.toNat : Int) = 126) : Sp.frB c = true := by
  unfold Sp.frB
  have key : ∀ n : Nat, c.toNat = n → c = UInt8.ofNat n := fun n hn => by rw [← hn]; exact (UInt8.ofNat_toNat).symm
  rcases h with h | h | h
  · rw [key 62 (by omega)]; rfl
  · rw [key 60 (by omega)]; rfl
  · rw [key 126 (by omega)]; rfl
theorem er_two {c : UInt8} (h : Sp.frB c = true) (X : List UInt8) : Sp.er (c :: X) = Sp.er (X.drop 1) := by
  cases X with
  | nil => simp [Sp.er, h]
  | cons d r => simp [Sp.er, h]
theorem ext_one (s : ByteArray) (i : Nat) (h : i < s.size) : (s.extract i (i + 1)).data.toList = [s.data[i]] := by
  rw [ByteArray.data_extract]
  simp only [Array.toList_extract]
  rw [List.extract_eq_take_drop]
  have := B_list s i h
  rw [this]
  simp

set_option maxHeartbeats 1000000 in
theorem erased_any (s : ByteArray) (w : World) (hs : s.size ≤ 10000000) :
    Calls Tryz.prog 26 #[.string s] w fun e w' => e = .returned (.string ⟨(Sp.er s.data.toList).toArray⟩) ∧ w = w' := by
  go_enter Tryz.func26, Tryz.ntmps26
  go_wp2_with fail
  go_loopw [3, 4] (fun tv iv wr => ∃ (i : Nat) (T : ByteArray), i ≤ s.size + 1 ∧ iv = .int .i64 (i : Nat) ∧ tv = .string T ∧ T.data.toList ++ Sp.er (s.data.toList.drop i) = Sp.er s.data.toList ∧ T.size ≤ i ∧ w = wr) (fun _ iv _ => s.size + 1 - (intOf iv).toNat)
  case atStart => exact ⟨0, ⟨#[]⟩, by omega, rfl, rfl, rfl, Nat.le_refl _, rfl⟩
  case round =>
    obtain ⟨i, T, hi, rfl, rfl, hT, hTs, rfl⟩ := hrel
    have HT := hid hT
    clear hT
    by_cases hlt : i < s.size
    · have hix : ∀ W : World, (Instr.index 9 (.string s) (.int .i64 (i : Int))).run Tryz.prog W = .ok (.int .u8 ((s.data[i]'hlt).toNat : Int)) W := by
        intro W
        rw [run_index_string W 9 s .i64 _ Tryz.underlying9, dif_pos (by omega)]
        rfl
      have HC := hid (B_list s i hlt)
      generalize s.data[i]'hlt = c at *
      have HCC : Hid (c = c) := rfl
      by_cases h1 : (c.toNat : Int) = 62 ∨ (c.toNat : Int) = 60 ∨ (c.toNat : Int) = 126
      · have HE := hid (show T.data.toList ++ Sp.er (s.data.toList.drop (i + 1 + 1)) = Sp.er s.data.toList by
          rw [← HT.out, HC.out, er_two (frB_yes h1), List.drop_drop])
        have k1 : ((c.toNat : Int) == 62) = decide ((c.toNat : Int) = 62) := rfl
        rcases h1 with h1 | h1 | h1
        · have t1 : ((c.toNat : Int) == 62) = true := by simp [h1]
          clear k1 h1
          go_wp2_with fail
          go_roundw
          case rel => exact ⟨i + 1 + 1, T, by omega, by go_num, rfl, HE.out, by omega, (by first | rfl | trivial)⟩
          case measure => simp [intOf]; omega
        · have t1 : ((c.toNat : Int) == 62) = false := by simp [h1]
          have t2 : ((c.toNat : Int) == 60) = true := by simp [h1]
          clear k1 h1
          go_wp2_with fail
          go_roundw
          case rel => exact ⟨i + 1 + 1, T, by omega, by go_num, rfl, HE.out, by omega, (by first | rfl | trivial)⟩
          case measure => simp [intOf]; omega
        · have t1 : ((c.toNat : Int) == 62) = false := by simp [h1]
          have t2 : ((c.toNat : Int) == 60) = false := by simp [h1]
          have t3 : ((c.toNat : Int) == 126) = true := by simp [h1]
          clear k1 h1
          go_wp2_with fail
          go_roundw
          case rel => exact ⟨i + 1 + 1, T, by omega, by go_num, rfl, HE.out, by omega, (by first | rfl | trivial)⟩
          case measure => simp [intOf]; omega
      · have t1 : ((c.toNat : Int) == 62) = false := by simp; omega
        have t2 : ((c.toNat : Int) == 60) = false := by simp; omega
        have t3 : ((c.toNat : Int) == 126) = false := by simp; omega
        have HE := hid (show (T ++ s.extract i (i + 1)).data.toList ++ Sp.er (s.data.toList.drop (i + 1)) = Sp.er s.data.toList by
          rw [← HT.out, HC.out, Sp.er_cons (frB_not t1 t2 t3), Sp.append_list, ext_one s i hlt, List.append_assoc]
          have h9 := B_list s i hlt
          rw [HC.out] at h9
          rw [(List.cons.inj h9).1]
          rfl)
        have HZ := hid (show (T ++ s.extract i (i + 1)).size ≤ i + 1 by
          rw [ByteArray.size_append, ByteArray.size_extract]
          omega)
        clear h1
        go_wp2_with fail
        go_roundw
        case rel => exact ⟨i + 1, T ++ s.extract i (i + 1), by omega, by go_num, (by first | rfl | trivial), HE.out, HZ.out, (by first | rfl | trivial)⟩
        case measure => simp [intOf]; omega
    · have HE := hid (show Sp.er s.data.toList = T.data.toList by
        rw [← HT.out, List.drop_eq_nil_of_le (by rw [Array.length_toList]; exact Nat.le_of_not_lt hlt)]
        simp [Sp.er])
      go_wp2_with fail
      go_ret
      exact ⟨by show Ending.returned (Value.string T) = _; rw [HE.out, Array.toArray_toList], rfl⟩
end Go.Proofs.YtccndnckceagfaaGreatDoorR

namespace Go.Proofs.YtccndnckceagfaaGreatDoorR
open Go.RowKit

/-- nothing is left behind -/
def Clean (st : Sp.St) : Prop := st.status = 0 → (∀ i, 1 ≤ i → i < 10 → st.regs i = 0) ∧ (∀ i, i < 52 → st.slots i = 0) ∧ st.regs 0 = st.value

set_option maxRecDepth 20000 in
set_option maxHeartbeats 1000000 in
theorem clean_any (st : Sp.St) (w : World) (h : Clean st) :
    Calls Tryz.prog 27 #[.agg (outL st).toArray] w fun e w' => e = .returned (.bool true) ∧ Below w.heap.size w w' := by
  have hs : (outL st).toArray.size = 81 := by simp [outL_len]
  have R1 := out_new w st 40
  have B1 : Below w.heap.size w (w.alloc (.cells (outL st).toArray 40)) := (Below.refl _ _).alloc (Nat.le_refl _) _
  have HR := hid R1
  have HB := hid B1
  have HC := hid h
  have s1 := R1.status
  clear R1 B1 h
  by_cases h0 : st.status = 0
  · obtain ⟨k1, k2, k3⟩ := HC.out h0
    have HK1 := hid k1
    have HK2 := hid k2
    have HK3 := hid k3
    have t0 : (st.status != 0) = false := by simp [h0]
    clear HC k1 k2 k3 h0
    go_enter Tryz.func27, Tryz.ntmps27
    go_upto_region 1 with fail
    generalize w.alloc (.cells (outL st).toArray 40) = W at *
    generalize hN : w.heap.size = N at *
    go_wp2_with fail
    go_loopw [3] (fun iv wr => ∃ i : Nat, 1 ≤ i ∧ i ≤ 10 ∧ iv = .int .i64 i ∧ W = wr) (fun iv _ => 10 - (intOf iv).toNat)
    case atStart => exact ⟨1, by omega, by omega, rfl, rfl⟩
    case round =>
      obtain ⟨i, hi1, hi, rfl, rfl⟩ := hrel
      by_cases hlt : i < 10
      · have c1 := HR.out.regs i hlt
        rw [HK1.out i hi1 hlt] at c1
        go_wp2_with fail
        go_roundw
        case rel => exact ⟨i + 1, by omega, by omega, by go_num, (by first | rfl | trivial)⟩
        case measure => simp [intOf]; omega
      · go_wp2_with fail
        go_loopw [4] (fun iv wr => ∃ i : Nat, i ≤ 52 ∧ iv = .int .i64 i ∧ W = wr) (fun iv _ => 52 - (intOf iv).toNat)
        case atStart => exact ⟨0, by omega, rfl, rfl⟩
        case round =>
          obtain ⟨j, hj, rfl, rfl⟩ := hrel
          by_cases hjt : j < 52
          · have c1 := HR.out.slots j hjt
            rw [HK2.out j hjt] at c1
            go_wp2_with fail
            go_roundw
            case rel => exact ⟨j + 1, by omega, by go_num, (by first | rfl | trivial)⟩
            case measure => simp [intOf]; omega
          · have c1 := HR.out.regs 0 (by omega)
            have c2 := HR.out.value
            rw [HK3.out] at c1
            go_wp2_with fail
            go_ret
            exact ⟨by simp, by rw [hN]; exact HB.out⟩
  · have t0 : (st.status != 0) = true := by simp [h0]
    go_enter Tryz.func27, Tryz.ntmps27
    go_wp2_with fail
    go_ret
    exact ⟨rfl, HB.out⟩

end Go.Proofs.YtccndnckceagfaaGreatDoorR

namespace Go.Proofs.YtccndnckceagfaaGreatDoorR
open Go.RowKit

set_option maxRecDepth 20000 in
set_option maxHeartbeats 2000000 in
theorem alike_any (x y : Sp.St) (w : World) (hp : x.pub = y.pub) (hq : x.sec = y.sec) (hst : x.status = y.status) (hv : x.value = y.value) (ht : Sp.er y.trace.data.toList = x.trace.data.toList) (hty : y.trace.size ≤ 10000000) (hc : Clean y) :
    Calls Tryz.prog 13 #[.agg (outL x).toArray, .agg (outL y).toArray] w fun e w' => e = .returned (.bool true) ∧ Below w.heap.size w w' := by
  have hs : (outL x).toArray.size = 81 := by simp [outL_len]
  have hs2 : (outL y).toArray.size = 81 := by simp [outL_len]
  have HER := hid (fun W => erased_any y.trace W hty)
  rw [show (⟨(Sp.er y.trace.data.toList).toArray⟩ : ByteArray) = x.trace by rw [ht]] at HER
  have HCL := hid (fun W => clean_any y W hc)
  have HWP := hid (fun W => kwords_same x.pub W)
  have HWS := hid (fun W => kwords_same x.sec W)
  have HP := hid hp
  have HQ := hid hq
  have HST := hid hst
  have HV := hid hv
  clear hp hq hst hv ht hty hc
  go_enter Tryz.func13, Tryz.ntmps13
  go_upto_region 1 with fail
  have R1 := (out_new w x 40).of_block (w' := (w.alloc (.cells (outL x).toArray 40)).alloc (.cells (outL y).toArray 40)) (((Below.refl _ _).alloc (Nat.le_refl _) _).block _ (by simp))
  have R2 := out_new (w.alloc (.cells (outL x).toArray 40)) y 40
  have B2 : Below w.heap.size w ((w.alloc (.cells (outL x).toArray 40)).alloc (.cells (outL y).toArray 40)) := ((Below.refl _ _).alloc (Nat.le_refl _) _).alloc (by simp) _
  have Z2 : ((w.alloc (.cells (outL x).toArray 40)).alloc (.cells (outL y).toArray 40)).heap.size = w.heap.size + 2 := by simp
  simp only [World.size_alloc] at R2
  generalize ((w.alloc (.cells (outL x).toArray 40)).alloc (.cells (outL y).toArray 40)) = W at *
  have HR1 := hid R1
  have HR2 := hid R2
  have HB2 := hid B2
  clear R1 R2 B2
  generalize hN : w.heap.size = N at *
  go_upto_region 2 with (first | (refine wpList_load8 rfl (.tmp 9) rfl N 2 x.pub (by rfl) (fun j hj => HR1.out.pub j hj) ?_) | (refine wpList_load8 rfl (.tmp 11) rfl (N + 1) 2 x.pub (by rfl) (fun j hj => by rw [HP.out]; exact HR2.out.pub j hj) ?_) | (go_at_call 25; refine (HWP.out _).mono ?_; rintro e w1 ⟨rfl, hb1⟩))
  have HS1 := hid (HR1.out.of_block (hb1.block N (by omega)))
  have HS2 := hid (HR2.out.of_block (hb1.block (N + 1) (by omega)))
  have HB3 := hid (HB2.out.trans (hb1.mono (by omega)))
  have hz1 := hb1.size
  clear HR1 HR2 HB2 hb1
  go_upto_region 3 with (first | (refine wpList_load8 rfl (.tmp 14) rfl N 10 x.sec (by rfl) (fun j hj => HS1.out.sec j hj) ?_) | (refine wpList_load8 rfl (.tmp 16) rfl (N + 1) 10 x.sec (by rfl) (fun j hj => by rw [HQ.out]; exact HS2.out.sec j hj) ?_) | (go_at_call 25; refine (HWS.out _).mono ?_; rintro e w2 ⟨rfl, hb2⟩))
  have HT1 := hid (HS1.out.of_block (hb2.block N (by omega)))
  have HT2 := hid (HS2.out.of_block (hb2.block (N + 1) (by omega)))
  have HB4 := hid (HB3.out.trans (hb2.mono (by omega)))
  have hz2 := hb2.size
  have t2 := HT2.out.trace
  clear HS1 HS2 HB3 hb2
  go_upto_region 4 with (go_at_call 26; refine (HER.out _).mono ?_; rintro e w' ⟨rfl, rfl⟩)
  go_upto_region 5 with (first | (refine wpList_load_out rfl (.tmp 3) rfl (N + 1) 0 y (by rfl) HT2.out ?_) | (go_at_call 27; refine (HCL.out _).mono ?_; rintro e w3 ⟨rfl, hb3⟩))
  have r1 := HT1.out.of_block (hb3.block N (by omega))
  have r2 := HT2.out.of_block (hb3.block (N + 1) (by omega))
  have HB5 := hid (HB4.out.trans (hb3.mono (by omega)))
  clear t2
  have s1 := r1.status
  have s2 := r2.status
  have v1 := r1.value
  have v2 := r2.value
  have t1 := r1.trace
  rw [← HST.out] at s2
  rw [← HV.out] at v2
  clear r1 r2 hb3 HT1 HT2 HB4
  go_wp2_with fail
  go_ret
  exact ⟨by simp, by first | exact HB5.out | (rw [hN]; exact HB5.out)⟩
end Go.Proofs.YtccndnckceagfaaGreatDoorR

namespace Go.Proofs.YtccndnckceagfaaGreatDoorR
open Go.RowKit

theorem walkP_ok {C : List Sp.Ins} (hC : ∀ j (h : j < C.length), insOk C[j]) (F : Int → Int) : ∀ (f : Nat) (m : Sp.PSt) (n : Nat) (a : Int), m.ok n → (Sp.walkP C F f m a).ok (n + 9 * f)
  | 0, _, _, _, h => h
  | f + 1, m, n, a, h => by
    simp only [Sp.walkP]
    have mono : ∀ {m : Sp.PSt} {n k : Nat}, m.ok n → n ≤ k → m.ok k := fun h hk => ⟨h.pl, h.pub, h.sec, Nat.le_trans h.trace hk⟩
    split
    · exact mono h (by omega)
    · split
      · rename_i hb
        have := walkP_ok hC F f _ (n + 9) (Sp.stepP F m a (C[a.toNat]'hb.2)).2 (stepP_ok (F := F) h a (hC _ hb.2))
        rw [show n + 9 * (f + 1) = n + 9 + 9 * f by omega]
        exact this
      · exact mono h (by omega)
theorem Sp.ExecR.good {s : ByteArray} {k : Int} {I : Sp.Inp} {fuel : Int} {st : Sp.St} {e : Int} (h : Sp.ExecR s k I fuel st e) (h1 : s.size ≤ 4096) (h2 : (Sp.mayB I fuel && Sp.macB k) = true) (h3 : Sp.progB (Sp.B s) s.size k = true) : e = 0 ∧ st = Sp.fillM k (Sp.runG (Sp.stepU s) fuel.toNat (Sp.start Sp.pM I.cut 4)) := by
  rcases h with ⟨a, _⟩ | ⟨_, a, _⟩ | ⟨_, _, a, _⟩ | ⟨_, _, _, a, b⟩
  · omega
  · rw [h2] at a; cases a
  · rw [h3] at a; cases a
  · exact ⟨a, b⟩
/-- what a run that returned leaves, as the program tells it -/
theorem fin_clean {m μ : Sp.PSt} (h : Sp.Fin' m μ) : Clean (outM μ) := by
  intro hs
  have hs' : m.status = 0 := by rw [h.st]; exact hs
  obtain ⟨c1, c2⟩ := h.cl hs'
  exact ⟨fun i h1 h2 => c1 i h1 (by omega), fun i h2 => c1 (10 + i) (by omega) (by omega), c2⟩
theorem src_eq {s : ByteArray} (hp : Sp.progB (Sp.B s) s.size 0 = true) : Sp.codeK 0 (Sp.B s) (s.size / 4) = Sp.codeTo (Sp.B s) (s.size / 4) :=
  Sp.codeK_src _ _ (fun i hi => Sp.dok_of_progB hp i hi)

end Go.Proofs.YtccndnckceagfaaGreatDoorR
