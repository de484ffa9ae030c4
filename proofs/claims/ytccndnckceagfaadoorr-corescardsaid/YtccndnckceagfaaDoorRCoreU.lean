/-
  The document's Core; the statement on Core, walked.
-/
import Derived.Test.YtccndnckceagfaaDoorRCoreT
namespace Go.Proofs.YtccndnckceagfaaDoorR
open Go.RowKit
namespace Sp
theorem wr_let {s : ByteArray} (hp : progB (B s) s.size 0 = true) {i : Nat} (hi : i < s.size / 4) (hw : wrAt (B s) (B s (4 * i + 1)) i = true) : letB (B s (4 * i + 1)) = true := by
  have hdok : dokK 0 (B s) i = true := by
    have := okIns_of_progB hp i hi
    rw [okK_eq _ _ 0 (by omega), Bool.and_eq_true] at this
    exact this.1
  have hf := form_of (by omega) hdok
  have rg : ∀ x : Int, regB x 0 = true → letB x = true := fun x hx => by unfold regB at hx; rwa [if_pos rfl] at hx
  unfold wrAt wrB at hw
  simp only [Bool.and_eq_true, Bool.or_eq_true, beq_iff_eq] at hw
  have hw1 := hw.1
  simp only [arithB, Bool.or_eq_true, beq_iff_eq] at hw1
  clear hw
  generalize insK 0 (B s) i = I at hf
  generalize B s (4 * i) = o at *
  generalize B s (4 * i + 1) = a at *
  generalize B s (4 * i + 2) = b at *
  generalize B s (4 * i + 3) = d at *
  cases hf with
  | ar _ ha => exact rg a ha
  | num _ ha => exact rg a ha
  | two _ ha => exact rg a ha
  | sto h => omega
  | jmp h => omega
  | cnd h => omega
  | ret h => omega
  | put h0 => exact absurd rfl h0
  | get h0 => exact absurd rfl h0
  | clrS h0 => exact absurd rfl h0
  | clrR h0 => exact absurd rfl h0
theorem P2_meet {s : ByteArray} (hp : progB (B s) s.size 0 = true) {v u : Int} (hv : letB v = true) (hu : letB u = true) : P2 s (s.size / 4) (cel v u) ↔ Meet (B s) (s.size / 4) v u := by
  constructor
  · rintro (⟨a, b, _, ha, hb, hne, e⟩ | ⟨i, hi, hw, b, _, hb, hne, e⟩)
    · obtain ⟨la, wa⟩ := liveT_at ha
      obtain ⟨lb, wb⟩ := liveT_at hb
      obtain ⟨e1, e2⟩ := cel_inj hv hu la lb e
      refine ⟨fun e3 => hne (liveT_inj ha hb (by rw [← e1, ← e2]; exact e3)), Or.inl ⟨by rw [e1]; exact wa, by rw [e2]; exact wb⟩⟩
    · obtain ⟨lb, wb⟩ := liveT_at hb
      have ld := wr_let hp hi hw
      rcases e with e | e
      · obtain ⟨e1, e2⟩ := cel_inj hv hu ld lb e
        exact ⟨fun e3 => hne (by rw [← e1, ← e2]; exact e3.symm), Or.inr ⟨i, hi, Or.inl ⟨by rw [e1]; exact hw, by rw [e2]; exact wb⟩⟩⟩
      · obtain ⟨e1, e2⟩ := cel_inj hv hu lb ld e
        exact ⟨fun e3 => hne (by rw [← e1, ← e2]; exact e3), Or.inr ⟨i, hi, Or.inr ⟨by rw [e2]; exact hw, by rw [e1]; exact wb⟩⟩⟩
  · rintro ⟨hne, ⟨w1, w2⟩ | ⟨i, hi, ⟨hw, hl⟩ | ⟨hw, hl⟩⟩⟩
    · obtain ⟨a, ha, ea⟩ := liveT_has hv w1
      obtain ⟨b, hb, eb⟩ := liveT_has hu w2
      exact Or.inl ⟨a, b, Or.inl ha, ha, hb, fun e => hne (by rw [← ea, ← eb, e]), by rw [ea, eb]⟩
    · have ed : B s (4 * i + 1) = v := by
        unfold wrAt wrB at hw
        simp only [Bool.and_eq_true, beq_iff_eq] at hw
        exact hw.2
      obtain ⟨b, hb, eb⟩ := liveT_has hu hl
      exact Or.inr ⟨i, hi, by rw [ed]; exact hw, b, hb, hb, by rw [ed, eb]; exact fun e => hne e.symm, Or.inl (by rw [ed, eb])⟩
    · have ed : B s (4 * i + 1) = u := by
        unfold wrAt wrB at hw
        simp only [Bool.and_eq_true, beq_iff_eq] at hw
        exact hw.2
      obtain ⟨b, hb, eb⟩ := liveT_has hv hl
      exact Or.inr ⟨i, hi, by rw [ed]; exact hw, b, hb, hb, by rw [ed, eb]; exact hne, Or.inr (by rw [ed, eb])⟩
theorem letT_has (P : Nat → Bool) (n : Nat) : n ≤ 52 → ∀ k, k < n → P k = true → ∃ j, j < (letT P n).size ∧ B (letT P n) j = reg k := by
  induction n with
  | zero => intro _ k hk; omega
  | succ n ih =>
    intro hn k hk hPk
    by_cases hP : P n = true
    · have hs1 : (⟨#[UInt8.ofNat (reg n).toNat]⟩ : ByteArray).size = 1 := rfl
      have hsz : (letT P n ++ (⟨#[UInt8.ofNat (reg n).toNat]⟩ : ByteArray)).size = (letT P n).size + 1 := by rw [ByteArray.size_append, hs1]
      rw [letT_yes hP, hsz]
      by_cases e : k = n
      · subst e
        refine ⟨(letT P k).size, by omega, ?_⟩
        rw [← B_get _ _ (by rw [hsz]; omega), ByteArray.getElem_append_right (Nat.le_refl _)]
        simp only [Nat.sub_self]
        exact reg_back k (by omega)
      · obtain ⟨j, hj, ej⟩ := ih (by omega) k (by omega) hPk
        refine ⟨j, by omega, ?_⟩
        rw [← B_get _ j (by rw [hsz]; omega), ByteArray.getElem_append_left hj, B_get _ j hj]
        exact ej
    · have hP' : P n = false := by simpa using hP
      rw [letT_no hP']
      by_cases e : k = n
      · subst e; exact absurd hPk hP
      · exact ih (by omega) k (by omega) hPk
theorem cut_size (l : ByteArray) (i : Nat) (h : i < l.size) : (l.extract 0 i ++ l.extract (i + 1) l.size).size + 1 = l.size := by
  rw [ByteArray.size_append, ByteArray.size_extract, ByteArray.size_extract]
  omega
end Sp
def strLen : Value → Nat
  | .string t => t.size
  | _ => 0
def bitOf : Value → Nat
  | .bool true => 1
  | _ => 0

set_option maxRecDepth 20000 in
set_option maxHeartbeats 8000000 in
theorem refCore_any (s : ByteArray) (c : Int) (w : World) (hs : s.size ≤ maxLen) :
    Calls Tryd.prog 29 #[.string s, .int .i64 c] w fun e w' => CorePost s c w e w' := by
  go_enter Tryd.func29, Tryd.ntmps29
  go_wp2_with fail
  refine (formed_any s _ hs).mono ?_
  rintro e w2 ⟨f, rfl, hf, hb2⟩
  have HF := hid hf
  have HB2 := hid hb2
  clear hf hb2
  by_cases h0 : f = 0
  · subst h0
    by_cases hc : 1 ≤ c ∧ c ≤ 52
    · obtain ⟨h1, h2⟩ := hc
      obtain ⟨z256, zp, _⟩ := HF.out.zero
      have hz := Sp.size_of_progB zp
      have HME := hid (meets_any s w2 z256 zp)
      have HPM := hid (fun (v u : Int) (hv : Sp.letB v = true) (hu : Sp.letB u = true) => Sp.P2_meet zp hv hu)
      have HST := hid (fun v w => stands_any s v w (by omega) hz.2.1)
      clear zp
      have hsn := HB2.out.size
      go_upto_region 8 with (first | (go_at_call 57; refine HME.out.mono ?_; rintro e w3 ⟨M, rfl, hMx, hb3⟩; have HMX := hid hMx; have HB3 := hid (HB2.out.trans (hb3.mono hsn)); clear hMx hb3) | (refine wpList_alloc_mt rfl rfl ?_; intro w4 hs4 hb4 hz4; have HS4 := hid hs4; have HB4 := hid hb4; clear hs4 hb4) | (refine wpList_store_mt rfl (.tmp 7) (.tmp 27) rfl w3.heap.size M (fun _ => false) (by rfl) (by rfl) HS4.out ?_; intro w5 hs5 ho5; have HM5 := hid hs5; have HO5 := hid ho5; clear hs5 ho5))
      have hs3 := HB3.out.size
      have HB5 := hid ((HB3.out.trans (HB4.out.mono hs3)).trans (HO5.out.below hs3))
      have HMM := hid (show ∀ k j, k < 52 → j < 52 → M (Sp.cel (Sp.reg k) (Sp.reg j)) = Sp.meetB (Sp.B s) (s.size / 4) k j from fun k j hk hj => by
        rw [Bool.eq_iff_iff, HMX.out, Sp.meetB_iff]
        exact HPM.out _ _ (Sp.reg_let k hk) (Sp.reg_let j hj))
      clear HS4 HB4 HO5 hz4 HB3 HME HPM HMX HB2 hsn
      generalize w3.heap.size = q at *
      obtain ⟨S, hS⟩ : ∃ S, Sp.standsB (Sp.B s) (s.size / 4) = S := ⟨_, rfl⟩
      have HSE := hid hS
      have HSS := hid (show ∀ k, (S k = true ↔ Sp.Stands (Sp.B s) (s.size / 4) (Sp.reg k)) from fun k => by rw [← hS]; exact Sp.standsB_iff _ _ _)
      clear hS
      go_upto_region 9 with fail
      go_loopw [8, 9] (fun lv kv wr => ∃ k : Nat, k ≤ 52 ∧ kv = .int .i64 k ∧ lv = .string (Sp.letT S k) ∧ w5 = wr) (fun _ kv _ => 52 - (intOf kv).toNat)
      case atStart => exact ⟨0, by omega, rfl, rfl, rfl⟩
      case round =>
        obtain ⟨k, hk, rfl, rfl, rfl⟩ := hrel
        have hlen := Sp.letT_size S k
        by_cases hlt : k < 52
        · have hix := regs_index k hlt
          have HCUT := hid (regs_cut k hlt)
          have HSK := hid (HSS.out k)
          have HYES := hid (fun h => Sp.letT_yes (S := S) (n := k) h)
          have HNO := hid (fun h => Sp.letT_no (S := S) (n := k) h)
          generalize Sp.reg k = v at *
          have HSV := hid (HST.out v w5)
          go_wp2_with fail
          refine HSV.out.mono ?_
          rintro e w6 ⟨b, rfl, hb, rfl⟩
          have HSB := hid (show S k = b from by rw [Bool.eq_iff_iff, HSK.out]; exact hb.symm)
          clear hb
          cases b
          · go_wp2_with fail
            go_roundw
            case rel => exact ⟨k + 1, by omega, by go_num, by rw [HNO.out HSB.out], (by first | rfl | trivial)⟩
            case measure => simp [intOf]; omega
          · go_wp2_with fail
            go_roundw
            case rel => exact ⟨k + 1, by omega, by go_num, by rw [HYES.out HSB.out, ← HCUT.out], (by first | rfl | trivial)⟩
            case measure => simp [intOf]; omega
        · have hk52 : k = 52 := by omega
          subst hk52
          clear hlt hk hlen
          go_upto_region 15 with fail
          go_loopw [8, 11] (fun lv av wr => ∃ (P : Nat → Bool) (ag : Bool), lv = .string (Sp.letT P 52) ∧ av = .bool ag ∧ Sp.Peel S (Sp.meetB (Sp.B s) (s.size / 4)) c P ∧ (ag = false → Sp.Dense (Sp.meetB (Sp.B s) (s.size / 4)) c P) ∧ MtAt wr q M ∧ Below w.heap.size w wr) (fun lv av _ => 2 * strLen lv + bitOf av)
          case atStart => exact ⟨S, true, rfl, rfl, Sp.Peel.start _ _ _, fun h => (by cases h), HM5.out, HB5.out⟩
          case round =>
            clear HM5 HB5 HST
            obtain ⟨P, ag, rfl, rfl, hP, hD, hM, hB⟩ := hrel
            have HP := hid hP
            have HD := hid hD
            have HM := hid hM
            have HB := hid hB
            clear hP hD hM hB
            cases ag
            · have HIC := hid (HP.out.fin (HD.out rfl))
              go_wp2_with fail
              go_ret2
              exact ⟨_, 0, rfl, Or.inr (Or.inr ⟨HF.out, ⟨h1, h2⟩, rfl, P, by rw [HSE.out]; exact HIC.out, rfl⟩), HB.out⟩
            · obtain ⟨l, hl⟩ : ∃ l, Sp.letT P 52 = l := ⟨_, rfl⟩
              have hl52 : l.size ≤ 52 := by rw [← hl]; exact Sp.letT_size P 52
              have HLE := hid hl
              have HER := hid (show ∀ i, i < l.size → ∃ k, k < 52 ∧ P k = true ∧ Sp.B l i = Sp.reg k ∧ l.extract 0 i ++ l.extract (i + 1) l.size = Sp.letT (fun x => P x && x != k) 52 from fun i hi => by
                subst hl
                obtain ⟨k, a, b, d, e⟩ := Sp.letT_erase P 52 i hi
                exact ⟨k, a, b, by rw [d, Sp.reg_back k a], e⟩)
              have HCB := hid (show ∀ k, k < 52 → Sp.cB (fun u => M (Sp.cel (Sp.reg k) u)) l l.size = Sp.cT (fun x => Sp.meetB (Sp.B s) (s.size / 4) k x && P x) 52 from fun k hk => by
                subst hl
                rw [Sp.cB_letT _ P 52 (Nat.le_refl _)]
                exact Sp.cT_congr 52 (fun x hx => by rw [HMM.out k x hk hx]))
              have HHA := hid (show ∀ k, k < 52 → P k = true → ∃ i, i < l.size ∧ Sp.B l i = Sp.reg k from fun k hk hPk => by
                subst hl
                exact Sp.letT_has P 52 (Nat.le_refl _) k hk hPk)
              rw [hl]
              clear hl
              go_upto_region 18 with fail
              go_loopw [8, 11, 12] (fun lv av iv wr => ∃ i : Nat, i ≤ l.size ∧ lv = .string l ∧ av = .bool false ∧ iv = .int .i64 i ∧ (∀ j, j < i → c ≤ (Sp.cB (fun u => M (Sp.cel (Sp.B l j) u)) l l.size : Int)) ∧ MtAt wr q M ∧ Below w.heap.size w wr) (fun _ _ iv _ => l.size - (intOf iv).toNat)
              case atStart => exact ⟨0, by omega, rfl, rfl, rfl, fun j hj => by omega, HM.out, HB.out⟩
              case round =>
                clear HM HB
                obtain ⟨i, hi, rfl, rfl, rfl, hall, hM, hB⟩ := hrel
                have HALL := hid hall
                have HM := hid hM
                have HB := hid hB
                clear hall hM hB
                by_cases hil : i < l.size
                · obtain ⟨kk, hkk, hPk, hBk, hcut⟩ := HER.out i hil
                  have hixi := sl_ix l i hil
                  have HBK := hid hBk
                  have HPK := hid hPk
                  have HCUT := hid hcut
                  have hli := Sp.let_bounds (Sp.reg_let kk hkk)
                  have HCK := hid (HCB.out kk hkk)
                  have HFE := hid (show (fun u => M (Sp.cel (Sp.B l i) u)) = fun u => M (Sp.cel (Sp.reg kk) u) by rw [hBk])
                  rw [hBk] at hixi
                  obtain ⟨vi, hvi⟩ := Int.eq_ofNat_of_zero_le hli.1
                  rw [hvi] at hixi hli
                  have HVI := hid hvi
                  have hvi128 : vi < 128 := by omega
                  clear hPk hBk hcut hvi hli
                  obtain ⟨fn, hfn⟩ : ∃ fn : Int → Bool, (fun u => M (Sp.cel (Sp.reg kk) u)) = fn := ⟨_, rfl⟩
                  have HFN := hid (show ∀ u, fn u = M (Sp.cel (Sp.reg kk) u) from fun u => by rw [← hfn])
                  rw [hfn] at HCK HFE
                  clear hfn
                  go_upto_region 22 with fail
                  go_loopw [13, 14] (fun nv kv wq => ∃ k : Nat, k ≤ l.size ∧ kv = .int .i64 k ∧ nv = .int .i64 (Sp.cB fn l k : Nat) ∧ MtAt wq q M ∧ Below w.heap.size w wq) (fun _ kv _ => l.size - (intOf kv).toNat)
                  case atStart => exact ⟨0, by omega, rfl, rfl, HM.out, HB.out⟩
                  case round =>
                    clear HM HB
                    obtain ⟨k, hk, rfl, rfl, hM, hB⟩ := hrel
                    have HM := hid hM
                    have HB := hid hB
                    have hbl := hM.lt
                    have hcn := Sp.cB_le fn l k
                    clear hB
                    by_cases hkl : k < l.size
                    · obtain ⟨kj, hkj, _, hBj, _⟩ := HER.out k hkl
                      have hixk := sl_ix l k hkl
                      have hlk := Sp.let_bounds (Sp.reg_let kj hkj)
                      have HST1 := hid (show Sp.cB fn l (k + 1) = Sp.cB fn l k + if M (Sp.cel (Sp.reg kk) (Sp.B l k)) = true then 1 else 0 by simp only [Sp.cB]; rw [HFN.out])
                      rw [hBj] at hixk HST1
                      obtain ⟨vk, hvk⟩ := Int.eq_ofNat_of_zero_le hlk.1
                      rw [hvk] at hixk hlk HST1
                      have hvk128 : vk < 128 := by omega
                      rw [HVI.out, show Sp.cel (vi : Int) (vk : Int) = vi * 128 + vk by unfold Sp.cel; rw [Int.toNat_natCast, Int.toNat_natCast]] at HST1
                      have cc := World.rowIs.cell hM (i := vi * 128 + vk) (by omega)
                      cases hm : M (vi * 128 + vk)
                      · rw [hm] at cc HST1
                        have HE := hid (show Sp.cB fn l (k + 1) = Sp.cB fn l k by rw [HST1.out]; simp)
                        clear hM hvk hlk hm hBj HST1
                        go_wp2_with fail
                        go_region
                        all_goals
                          go_wp2_with fail
                          go_roundw
                          case rel => exact ⟨k + 1, by omega, by go_num, by rw [HE.out], HM.out.of_block rfl, HB.out.drew⟩
                          case measure => simp [intOf]; omega
                      · rw [hm] at cc HST1
                        have HE := hid (show Sp.cB fn l (k + 1) = Sp.cB fn l k + 1 by rw [HST1.out]; simp)
                        clear hM hvk hlk hm hBj HST1
                        go_wp2_with fail
                        go_region
                        all_goals
                          go_wp2_with fail
                          go_roundw
                          case rel => exact ⟨k + 1, by omega, by go_num, by rw [HE.out]; rfl, HM.out.of_block rfl, HB.out.drew⟩
                          case measure => simp [intOf]; omega
                    · have hks : k = l.size := by omega
                      subst hks
                      clear hM
                      have hcl := hcn
                      generalize hn : Sp.cB fn l l.size = n at *
                      have HNE := hid hn
                      clear hn
                      by_cases hlow : (n : Int) < c
                      · have hsl1 : ∀ W : World, (Instr.slice 9 (.string l) none (some (.int .i64 (i : Int))) none).run Tryd.prog W = .ok (.string (l.extract 0 i)) W := fun W => by
                          rw [run_slice_string_h W 9 l Tryd.underlying9 .i64 (i : Int) (by omega) (by omega), Int.toNat_natCast]
                        have hsl2 : ∀ W : World, (Instr.slice 9 (.string l) (some (.int .i64 ((i : Int) + 1))) none none).run Tryd.prog W = .ok (.string (l.extract (i + 1) l.size)) W := fun W => by
                          rw [run_slice_string_l W 9 l Tryd.underlying9 .i64 ((i : Int) + 1) (by omega) (by omega), show ((i : Int) + 1).toNat = i + 1 from by omega]
                        have hwrap : IntKind.i64.wrap ((i : Int) + 1) = (i : Int) + 1 := IntWalk.i64_in _ (by omega)
                        have HAW := hid (HP.out.away kk (by rw [← HCK.out]; exact hlow))
                        have HSZ := hid (Sp.cut_size l i hil)
                        have hs1 : (l.extract 0 i).size ≤ 52 := by rw [ByteArray.size_extract]; omega
                        have hs2 : (l.extract (i + 1) l.size).size ≤ 52 := by rw [ByteArray.size_extract]; omega
                        generalize l.extract 0 i = la at *
                        generalize l.extract (i + 1) l.size = lb at *
                        go_wp2_with fail
                        go_quiet (fail)
                        go_wp2_with fail
                        go_roundw
                        case rel => exact ⟨fun x => P x && x != kk, true, by rw [HCUT.out], rfl, HAW.out, fun h => (by cases h), HM.out, ⟨HB.out.os, HB.out.tape, HB.out.output, HB.out.size, HB.out.block⟩⟩
                        case measure =>
                          have := HSZ.out
                          show 2 * (la ++ lb).size + 1 < 2 * l.size + 1
                          omega
                      · go_wp2_with fail
                        go_roundw
                        case rel => exact ⟨i + 1, by omega, rfl, rfl, by go_num, fun j hj => by
                          by_cases e : j = i
                          · rw [e, HFE.out, HNE.out]; omega
                          · exact HALL.out j (by omega), HM.out, HB.out⟩
                        case measure => simp [intOf]; omega
                · have HI := hid (show i = l.size by omega)
                  go_wp2_with fail
                  go_roundw
                  case rel => exact ⟨P, false, by rw [HLE.out], rfl, HP.out, fun _ r hr hPr => by
                    obtain ⟨j, hj, ej⟩ := HHA.out r hr hPr
                    have := HALL.out j (by rw [HI.out]; exact hj)
                    rw [ej, HCB.out r hr] at this
                    exact this, HM.out, HB.out⟩
                  case measure =>
                    show 2 * l.size + 0 < 2 * l.size + 1
                    omega
    · by_cases h1 : c < 1
      · go_wp2_with fail
        go_ret2
        exact ⟨_, 2, rfl, Or.inr (Or.inl ⟨HF.out, by omega, rfl, rfl⟩), HB2.out⟩
      · have h2 : (52 : Int) < c := by omega
        go_wp2_with fail
        go_ret2
        exact ⟨_, 2, rfl, Or.inr (Or.inl ⟨HF.out, by omega, rfl, rfl⟩), HB2.out⟩
  · have HF0 := hid h0
    go_wp2_with fail
    go_ret2
    exact ⟨_, f, rfl, Or.inl ⟨HF0.out, HF.out, rfl⟩, HB2.out⟩

set_option maxRecDepth 20000 in
set_option maxHeartbeats 2000000 in
theorem cores_any (s : ByteArray) (c : Int) (w : World) (hs : s.size ≤ maxLen) (hA : ArgsAt w) :
    Calls Tryd.prog 9 #[.string s, .int .i64 c] w fun e w' => e = .returned (.bool true) ∧ Below w.heap.size w w' := by
  have HPL := hid (pcore_any s c w hs hA)
  clear hA
  go_enter Tryd.func9, Tryd.ntmps9
  go_wp2_with fail
  refine HPL.out.mono ?_
  rintro e w1 ⟨t, f, rfl, hr1, hb1⟩
  have HR1 := hid hr1
  have HB1 := hid hb1
  clear hr1 hb1
  go_wp2_with fail
  refine (refCore_any s c w1 hs).mono ?_
  rintro e w2 ⟨t', f', rfl, hr2, hb2⟩
  obtain ⟨e1, e2⟩ := HR1.out.det hr2
  subst e1 e2
  have HB2 := hid (HB1.out.trans (hb2.mono HB1.out.size))
  clear hr2 hb2
  go_wp2_with fail
  go_ret
  exact ⟨by simp, HB2.out⟩
end Go.Proofs.YtccndnckceagfaaDoorR
