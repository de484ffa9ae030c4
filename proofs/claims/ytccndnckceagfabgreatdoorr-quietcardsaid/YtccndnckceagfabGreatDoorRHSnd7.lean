/-
  Whether a machine program is accepted for a source program: the program's Accept.
  What every statement about accepted programs begins with.
  The helpers with which a machine's run is held against a source program's: walked.
  Nothing is left behind: walked.
  Two runs held against each other: walked.
  The statement on machine programs that are accepted, walked.
-/
import Derived.Test.YtccndnckceagfabGreatDoorRG11
import Derived.Test.YtccndnckceagfabGreatDoorRG03
import Derived.Test.YtccndnckceagfabGreatDoorRG15
import Derived.Test.YtccndnckceagfabGreatDoorRHKeep4
import Derived.Test.YtccndnckceagfabGreatDoorRHSnd5
import Derived.Test.YtccndnckceagfabGreatDoorRHRunE
namespace Go.Proofs.YtccndnckceagfabGreatDoorR.Sp
/-- what Accept answers -/
def AccIs (s t : ByteArray) (k : Int) (ok : Bool) (f : Int) : Prop :=
  ((256 < s.size ∨ 4096 < t.size) ∧ ok = false ∧ f = 1) ∨
  (s.size ≤ 256 ∧ t.size ≤ 4096 ∧ macB k = false ∧ ok = false ∧ f = 2) ∨
  (s.size ≤ 256 ∧ t.size ≤ 4096 ∧ macB k = true ∧ (progB (B s) s.size 0 = false ∨ progB (B t) t.size k = false) ∧ ok = false ∧ f = 3) ∨
  (s.size ≤ 256 ∧ t.size ≤ 4096 ∧ macB k = true ∧ progB (B s) s.size 0 = true ∧ progB (B t) t.size k = true ∧ Unset (B s) (s.size / 4) ∧ ok = false ∧ f = 4) ∨
  (s.size ≤ 256 ∧ t.size ≤ 4096 ∧ macB k = true ∧ progB (B s) s.size 0 = true ∧ progB (B t) t.size k = true ∧ ¬ Unset (B s) (s.size / 4) ∧ ok = accB (codeTo (B s) (s.size / 4)) (blksTo (B s) (s.size / 4)) (codeK k (B t) (t.size / 4)) (blksTo (B t) (t.size / 4)) ∧ f = 0)
end Go.Proofs.YtccndnckceagfabGreatDoorR.Sp

namespace Go.Proofs.YtccndnckceagfabGreatDoorR
open Go.RowKit

def AccPost (s t : ByteArray) (k : Int) (w : World) (e : Ending) (w' : World) : Prop :=
  ∃ ok f, e = .returned (.tuple #[.bool ok, .int .i64 f]) ∧ Sp.AccIs s t k ok f ∧ Below w.heap.size w w'

end Go.Proofs.YtccndnckceagfabGreatDoorR

namespace Go.Proofs.YtccndnckceagfabGreatDoorR.Sp
/-- the smallest program's own machine program, and one that leaves something behind -/
def ownT : ByteArray := ⟨#[126, 49, 46, 46, 126, 50, 46, 46, 126, 51, 46, 46, 114, 48, 46, 46]⟩
def bareT : ByteArray := ⟨#[114, 48, 46, 46]⟩
theorem small_check : CheckR small 1 0 := Or.inr (Or.inr ⟨small_formed, fun i hi => by
  have h1 : small.size / 4 = 1 := by decide
  have h2 : i = 0 := by omega
  subst h2
  decide, by decide, rfl⟩)
theorem accIs_good {s t : ByteArray} {k : Int} {ok : Bool} {f : Int} (h : AccIs s t k ok f) (hs : FormedR s 0) (ht : t.size ≤ 4096) (hk : macB k = true) (hp : progB (B t) t.size k = true) : f = 0 ∧ ok = accB (codeTo (B s) (s.size / 4)) (blksTo (B s) (s.size / 4)) (codeK k (B t) (t.size / 4)) (blksTo (B t) (t.size / 4)) := by
  obtain ⟨h1, h2, h3⟩ := hs.zero
  rcases h with ⟨a, _⟩ | ⟨_, _, a, _⟩ | ⟨_, _, _, a, _⟩ | ⟨_, _, _, _, _, a, _⟩ | ⟨_, _, _, _, _, _, a, b⟩
  · omega
  · rw [hk] at a; cases a
  · rcases a with a | a
    · rw [h2] at a; cases a
    · rw [hp] at a; cases a
  · exact absurd a h3
  · exact ⟨b, a⟩
theorem own_acc {ok : Bool} {f : Int} (h : AccIs small ownT 6 ok f) : ok = true ∧ f = 0 := by
  obtain ⟨a, b⟩ := accIs_good h small_formed (by decide) (by decide) (by decide +kernel)
  exact ⟨by rw [b]; decide +kernel, a⟩
theorem bare_acc {ok : Bool} {f : Int} (h : AccIs small bareT 6 ok f) : ok = false ∧ f = 0 := by
  obtain ⟨a, b⟩ := accIs_good h small_formed (by decide) (by decide) (by decide +kernel)
  exact ⟨by rw [b]; decide +kernel, a⟩
/-- of a machine, out of a raw number -/
def rgs (k : Int) : Int := if 6 ≤ k ∧ k ≤ 10 then k else 6 + pk k 5
end Go.Proofs.YtccndnckceagfabGreatDoorR.Sp

namespace Go.Proofs.YtccndnckceagfabGreatDoorR
open Go.RowKit
theorem rgs_bd (k : Int) : 6 ≤ Sp.rgs k ∧ Sp.rgs k ≤ 10 := by
  unfold Sp.rgs
  split
  · assumption
  · have := Sp.pk_bd k 5 (by omega)
    omega
theorem registers_any (k : Int) (w : World) (hk : -9223372036854775808 ≤ k ∧ k ≤ 9223372036854775807) :
    Calls Tryz.prog 6 #[.int .i64 k] w fun e w' => e = .returned (.int .i64 (Sp.rgs k)) ∧ w = w' := by
  by_cases h1 : 6 ≤ k
  · by_cases h2 : k ≤ 10
    · have HE := hid (show Sp.rgs k = k by unfold Sp.rgs; rw [if_pos ⟨h1, h2⟩])
      go_enter Tryz.func6, Tryz.ntmps6
      go_wp2_with fail
      go_ret
      exact ⟨by rw [HE.out]; rfl, rfl⟩
    · have HE := hid (show Sp.rgs k = 6 + Sp.pk k 5 by unfold Sp.rgs; rw [if_neg (by omega)])
      have HP := hid (pick_any k 5 w hk (by omega))
      have hb := Sp.pk_bd k 5 (by omega)
      have h3 : 10 < k := by omega
      clear h2
      generalize Sp.pk k 5 = z at *
      go_enter Tryz.func6, Tryz.ntmps6
      go_wp2_with (go_at_call 7; refine HP.out.mono ?_; rintro e w' ⟨rfl, rfl⟩)
      go_ret
      exact ⟨by rw [HE.out]; rfl, rfl⟩
  · have HE := hid (show Sp.rgs k = 6 + Sp.pk k 5 by unfold Sp.rgs; rw [if_neg (by omega)])
    have HP := hid (pick_any k 5 w hk (by omega))
    have hb := Sp.pk_bd k 5 (by omega)
    have h3 : k < 6 := by omega
    clear h1
    generalize Sp.pk k 5 = z at *
    go_enter Tryz.func6, Tryz.ntmps6
    go_wp2_with (go_at_call 7; refine HP.out.mono ?_; rintro e w' ⟨rfl, rfl⟩)
    go_ret
    exact ⟨by rw [HE.out]; rfl, rfl⟩

end Go.Proofs.YtccndnckceagfabGreatDoorR

namespace Go.Proofs.YtccndnckceagfabGreatDoorR
open Go.RowKit

theorem B_list (s : ByteArray) (i : Nat) (h : i < s.size) : s.data.toList.drop i = s.data[i] :: s.data.toList.drop (i + 1) := by
  have hl : i < s.data.toList.length := by rw [Array.length_toList]; exact h
  rw [List.drop_eq_getElem_cons hl]
  simp
theorem frB_not {c : UInt8} (h1 : ((c.toNat : Int) == 62) = false) (h2 : ((c.toNat : Int) == 60) = false) (h3 : ((c.toNat : Int) == 126) = false) : Sp.frB c = false := by
  unfold Sp.frB
  rw [beq_eq_false_iff_ne] at h1 h2 h3
  simp only [Bool.or_eq_false_iff, beq_eq_false_iff_ne]
  refine ⟨⟨fun e => h1 ?_, fun e => h2 ?_⟩, fun e => h3 ?_⟩ <;> rw [e] <;> rfl
theorem frB_yes {c : UInt8} (h : (c.toNat : Int) = 62 ∨ (c.toNat : Int) = 60 ∨ (c.toNat : Int) = 126) : Sp.frB c = true := by
  unfold Sp.frB
  have key : ∀ n : Nat, c.toNat = n → c = UInt8.ofNat n := fun n hn => by rw [← hn]; exact (UInt8.ofNat_toNat).symm
  rcases h with h | h | h
  · rw [key 62 (by omega)]; rfl
  · rw [key 60 (by omega)]; rfl
  · rw [key 126 (by omega)]; rfl
theorem er_two {c : UInt8} (h : Sp.frB c = true) (X : List UInt8) : Sp.er (c :: X) = Sp.er (X.drop 1) := by
  cases X with
  | nil => simp [Sp.er, h]
  | cons d r => simp [Sp.er, h]
theorem ext_one (s : ByteArray) (i : Nat) (h : i < s.size) : (s.extract i (i + 1)).data.toList = [s.data[i]] := by
  rw [ByteArray.data_extract]
  simp only [Array.toList_extract]
  rw [List.extract_eq_take_drop]
  have := B_list s i h
  rw [this]
  simp

end Go.Proofs.YtccndnckceagfabGreatDoorR

namespace Go.Proofs.YtccndnckceagfabGreatDoorR
open Go.RowKit

/-- nothing is left behind -/
def Clean (st : Sp.St) : Prop := st.status = 0 → (∀ i, 1 ≤ i → i < 10 → st.regs i = 0) ∧ (∀ i, i < 52 → st.slots i = 0) ∧ st.regs 0 = st.value

end Go.Proofs.YtccndnckceagfabGreatDoorR

namespace Go.Proofs.YtccndnckceagfabGreatDoorR
open Go.RowKit

end Go.Proofs.YtccndnckceagfabGreatDoorR

namespace Go.Proofs.YtccndnckceagfabGreatDoorR
open Go.RowKit

theorem walkP_ok {C : List Sp.Ins} (hC : ∀ j (h : j < C.length), insOk C[j]) (F : Int → Int) : ∀ (f : Nat) (m : Sp.PSt) (n : Nat) (a : Int), m.ok n → (Sp.walkP C F f m a).ok (n + 9 * f)
  | 0, _, _, _, h => h
  | f + 1, m, n, a, h => by
    simp only [Sp.walkP]
    have mono : ∀ {m : Sp.PSt} {n k : Nat}, m.ok n → n ≤ k → m.ok k := fun h hk => ⟨h.pl, h.pub, h.sec, Nat.le_trans h.trace hk⟩
    split
    · exact mono h (by omega)
    · split
      · rename_i hb
        have := walkP_ok hC F f _ (n + 9) (Sp.stepP F m a (C[a.toNat]'hb.2)).2 (stepP_ok (F := F) h a (hC _ hb.2))
        rw [show n + 9 * (f + 1) = n + 9 + 9 * f by omega]
        exact this
      · exact mono h (by omega)
theorem Sp.ExecR.good {s : ByteArray} {k : Int} {I : Sp.Inp} {fuel : Int} {st : Sp.St} {e : Int} (h : Sp.ExecR s k I fuel st e) (h1 : s.size ≤ 4096) (h2 : (Sp.mayB I fuel && Sp.macB k) = true) (h3 : Sp.progB (Sp.B s) s.size k = true) : e = 0 ∧ st = Sp.fillM k (Sp.runG (Sp.stepU s) fuel.toNat (Sp.start Sp.pM I.cut 4)) := by
  rcases h with ⟨a, _⟩ | ⟨_, a, _⟩ | ⟨_, _, a, _⟩ | ⟨_, _, _, a, b⟩
  · omega
  · rw [h2] at a; cases a
  · rw [h3] at a; cases a
  · exact ⟨a, b⟩
/-- what a run that returned leaves, as the program tells it -/
theorem fin_clean {m μ : Sp.PSt} (h : Sp.Fin' m μ) : Clean (outM μ) := by
  intro hs
  have hs' : m.status = 0 := by rw [h.st]; exact hs
  obtain ⟨c1, c2⟩ := h.cl hs'
  exact ⟨fun i h1 h2 => c1 i h1 (by omega), fun i h2 => c1 (10 + i) (by omega) (by omega), c2⟩
theorem src_eq {s : ByteArray} (hp : Sp.progB (Sp.B s) s.size 0 = true) : Sp.codeK 0 (Sp.B s) (s.size / 4) = Sp.codeTo (Sp.B s) (s.size / 4) :=
  Sp.codeK_src _ _ (fun i hi => Sp.dok_of_progB hp i hi)

end Go.Proofs.YtccndnckceagfabGreatDoorR
