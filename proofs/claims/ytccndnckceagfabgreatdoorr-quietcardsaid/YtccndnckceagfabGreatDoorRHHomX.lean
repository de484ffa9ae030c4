/-
  The order in which homes are given: the program's Order.
-/
import Derived.Test.YtccndnckceagfabGreatDoorRG12
namespace Go.Proofs.YtccndnckceagfabGreatDoorR
open Go.RowKit

def coreTo (L : Nat → Bool) (r : Nat) : List Nat := (List.range r).filter fun x => L x
theorem coreTo_yes {L : Nat → Bool} {r : Nat} (h : L r = true) : coreTo L (r + 1) = coreTo L r ++ [r] := by
  unfold coreTo
  rw [List.range_succ, List.filter_append]
  simp [h]
theorem coreTo_no {L : Nat → Bool} {r : Nat} (h : L r = false) : coreTo L (r + 1) = coreTo L r := by
  unfold coreTo
  rw [List.range_succ, List.filter_append]
  simp [h]
theorem coreTo_len (L : Nat → Bool) (r : Nat) : (coreTo L r).length ≤ r := by
  unfold coreTo
  have := List.length_filter_le (fun x => L x) (List.range r)
  rw [List.length_range] at this
  exact this
theorem own_slice {w : World} {B e size n : Nat} {v : Value} {xs : List Value} (h : w.ownsRow B e size v n xs) : ∃ a k, v = .slice a n k := by
  rcases Joins.ownsRow_forms h with ⟨rfl, rfl⟩ | ⟨g, cap, rfl⟩
  · exact ⟨none, 0, rfl⟩
  · exact ⟨_, _, rfl⟩
theorem rev_take {tk : List Nat} {j : Nat} (h : j < tk.length) : tk.reverse.take (j + 1) = tk.reverse.take j ++ [tk[tk.length - 1 - j]] := by
  have hr : j < tk.reverse.length := by rw [List.length_reverse]; exact h
  rw [List.take_succ_eq_append_getElem hr, List.getElem_reverse]

set_option maxRecDepth 20000 in
set_option maxHeartbeats 4000000 in
theorem order_any (b : Nat) (G : Nat → Bool) (c : Int) (w : World) (h : GrAt w b G) :
    Calls Tryz.prog 40 #[.pointer (some ⟨b, 0, none⟩), .int .i64 c] w fun e w' => ∃ L tk v, e = .returned v ∧ Sp.PeelT (fun r => G r) (fun r x => G (52 + r * 52 + x)) c tk L ∧ Sp.IsCore (fun r => G r) (fun r x => G (52 + r * 52 + x)) c L ∧ w'.ownsRow w.heap.size 3 1 v (Sp.coreL L ++ tk.reverse).length (tkV (Sp.coreL L ++ tk.reverse)) ∧ Below w.heap.size w w' := by
  have HPL := hid (peel_any b G c w h)
  unfold PeelPost at HPL
  clear h
  obtain ⟨ii, zz, hi1, hi2, hi3, hi4, hi5⟩ := info_int
  have HI := hid (And.intro hi1 (And.intro hi2 (And.intro hi3 (And.intro hi4 hi5))))
  clear hi1 hi2 hi3 hi4 hi5
  generalize hN : w.heap.size = N at *
  go_enter Tryz.func40, Tryz.ntmps40
  go_upto_region 2 with (first | (go_at_call 65; refine HPL.out.mono ?_; rintro e w2 ⟨L, tk, v, rfl, hv, hp, hc, ho, hb2⟩; have HV := hid hv; have HPT := hid hp; have HC := hid hc; have HOW := hid ho; have HB2 := hid hb2; clear hv hp hc ho hb2) | (refine wpList_alloc_pe rfl rfl ?_; intro w3 hs3 hb3 hz3; have HS3 := hid hs3; have HB3 := hid hb3; clear hs3 hb3) | (refine wpList_store_pe rfl (.tmp 5) (.tmp 11) rfl w2.heap.size L _ v _ HV.out (by rfl) (by rfl) HS3.out ?_; intro w4 hs4 ho4; have HS4 := hid hs4; have HO4 := hid ho4; clear hs4 ho4))
  obtain ⟨av, kv, hvv⟩ := own_slice HOW.out
  subst hvv
  have htk := HPT.out.len
  have hs2 : N ≤ w2.heap.size := by have := HB2.out.size; omega
  have hz4 : w4.heap.size = w2.heap.size + 1 := by rw [HO4.out.size, hz3]
  have HOW4 := hid (own_move (own_below HOW.out HB3.out) (w' := w4) (fun q hq => HO4.out.block q (by have := (HOW.out.lt q hq).2; omega)))
  have HBW := hid ((HB2.out.trans (HB3.out.mono hs2)).trans (HO4.out.below (B := N) hs2))
  have HVB := hid (fun q (hq : (Value.slice av tk.length kv).ownBlock = some q) => (HOW.out.lt q hq))
  generalize hpb : w2.heap.size = pb at *
  clear HOW HB2 HS3 HB3 HO4 hz3 HPL HV
  go_upto_region 4 with fail
  have hA4 : Below w4.heap.size w4 (w4.alloc (.cells #[] 3)) := (Below.refl _ _).alloc (Nat.le_refl _) _
  have HM := hid (World.ownsRow_made (base := pb + 1) (e := 3) (size := 1) w4 #[] 0 (by omega) (by decide) rfl)
  have HS5 := hid (HS4.out.of_block (hA4.block pb (by omega)))
  have HOW5 := hid (own_below HOW4.out hA4)
  have HB5 := hid (HBW.out.trans (hA4.mono (by omega)))
  have hz5 : (w4.alloc (.cells #[] 3)).heap.size = pb + 2 := by simp [hz4]
  generalize w4.alloc (.cells #[] 3) = w5 at *
  clear hA4 HS4 HOW4 HBW
  rw [hz4] at HM
  try rw [hz4]
  go_loopw [6, 7] (fun ov rv wr => ∃ (r : Nat) (a : Option Addr) (k : Nat), r ≤ 52 ∧ rv = .int .i64 (r : Nat) ∧ ov = .slice a (coreTo L r).length k ∧ wr.ownsRow (pb + 1) 3 1 (.slice a (coreTo L r).length k) (coreTo L r).length (tkV (coreTo L r)) ∧ PeAt wr pb L (.slice av tk.length kv) ∧ wr.ownsRow N 3 1 (.slice av tk.length kv) tk.length (tkV tk) ∧ pb + 2 ≤ wr.heap.size ∧ Below N w wr) (fun _ rv _ => 52 - (intOf rv).toNat)
  case atStart => exact ⟨0, some ⟨pb + 1, 0, none⟩, 0, by omega, rfl, rfl, HM.out, HS5.out, HOW5.out, by omega, HB5.out⟩
  case round =>
    clear HM HS5 HOW5 HB5
    obtain ⟨r, a, k, hr, rfl, rfl, ho, hs, hw, hsz, hb⟩ := hrel
    have HO := hid ho
    have HS := hid hs
    have HW := hid hw
    have HB := hid hb
    have hcl := coreTo_len L r
    clear ho hs hw hb
    by_cases hlt : r < 52
    · have HH := hid (has_any pb 0 L r wr HS.out.sets hlt)
      cases hL : L r
      · have HE := hid (coreTo_no hL)
        rw [hL] at HH
        clear hL
        go_wp2_with (go_at_call 45; refine HH.out.mono ?_; rintro e w' ⟨rfl, rfl⟩)
        go_roundw
        case rel => exact ⟨r + 1, a, k, by omega, by go_num, by rw [HE.out], by rw [HE.out]; exact HO.out, HS.out, HW.out, hsz, HB.out⟩
        case measure => simp [intOf]; omega
      · have HE := hid (coreTo_yes hL)
        rw [hL] at HH
        clear hL
        have HGR := hid (show ∀ w6, (wr.alloc (.cells #[.int .i64 (r : Nat)] 3)).grownBy w6 (Value.slice a (coreTo L r).length k).ownBlock → ∀ q, q < pb + 1 → w6.heap[q]? = wr.heap[q]? from fun w6 hg q hq => by
          have h1 := grown_old HO.out hg (k := q) (Or.inl hq) (by simp; omega)
          have h2 := ((Below.refl wr.heap.size wr).alloc (Nat.le_refl _) (.cells #[.int .i64 (r : Nat)] 3)).block q (by omega)
          rw [h1, h2])
        generalize hcn : (coreTo L r).length = cn at *
        go_wp2_with (first | (go_at_call 45; refine HH.out.mono ?_; rintro e w' ⟨rfl, rfl⟩) | (at_builtin; refine wpList_append_own _ rfl (.tmp 20) (.tmp 22) 91 rfl (pb + 1) 3 ii zz 1 8 Tryz.underlying91 HI.out.1 HI.out.2.1 HI.out.2.2.1 HI.out.2.2.2.1 HI.out.2.2.2.2 (by decide) (.slice a cn k) cn (tkV (coreTo L r)) (by simp [Act.eval]) (by exact own_below HO.out ((Below.refl _ _).alloc (Nat.le_refl _) _)) ⟨wr.heap.size, 0, none⟩ 1 1 [.int .i64 (r : Nat)] (by simp [Act.eval]) rfl (by exact alloc_at wr #[.int .i64 (r : Nat)] 3) (by intro u hu; rw [List.mem_singleton.1 hu]; rfl) (by unfold maxLen; omega) (by omega) (by simp; omega) ?_; intro v' w6 hown hgrow _; obtain ⟨g3, cap3, hv⟩ := Joins.ownsRow_form hown (by omega); subst hv; have HOWN := hid hown; have HGW := hid hgrow; clear hown hgrow))
        have HH6 := hid (HGR.out w6 HGW.out)
        have hz6 : wr.heap.size + 1 ≤ w6.heap.size := by have := HGW.out.size; simpa using this
        go_roundw
        case rel =>
          refine ⟨r + 1, some ⟨g3, 0, none⟩, cap3, by omega, by go_num, ?_, ?_, HS.out.of_block (HH6.out pb (by omega)), own_move HW.out (fun q hq => HH6.out q (by have := (HVB.out q hq).2; omega)), by omega, ⟨by rw [HGW.out.os]; exact HB.out.os, by rw [HGW.out.tape]; exact HB.out.tape, by rw [HGW.out.output]; exact HB.out.output, by have := HB.out.size; omega, fun q hq => by rw [HH6.out q (by omega), HB.out.block q hq]⟩⟩
          · rw [HE.out, List.length_append, List.length_singleton, hcn]
          · rw [HE.out, List.length_append, List.length_singleton, hcn, show tkV (coreTo L r ++ [r]) = tkV (coreTo L r) ++ [.int .i64 (r : Nat)] by simp [tkV]]
            exact HOWN.out
        case measure => simp [intOf]; omega
    · have HR := hid (show coreTo L r = Sp.coreL L by
        have : r = 52 := by omega
        subst this
        rfl)
      rw [HR.out] at HO hcl
      rw [HR.out]
      have c52 := HS.out.sl
      have hcc : (Sp.coreL L).length ≤ 52 := by omega
      clear HR
      generalize hcn : (Sp.coreL L).length = cn at *
      go_wp2_with fail
      go_loopw [6, 8] (fun ov tv wr => ∃ (j : Nat) (a : Option Addr) (k : Nat), j ≤ tk.length ∧ tv = .int .i64 ((tk.length : Int) - 1 - j) ∧ ov = .slice a (cn + j) k ∧ wr.ownsRow (pb + 1) 3 1 (.slice a (cn + j) k) (cn + j) (tkV (Sp.coreL L ++ tk.reverse.take j)) ∧ PeAt wr pb L (.slice av tk.length kv) ∧ wr.ownsRow N 3 1 (.slice av tk.length kv) tk.length (tkV tk) ∧ pb + 2 ≤ wr.heap.size ∧ Below N w wr) (fun _ tv _ => ((intOf tv) + 1).toNat)
      case atStart => exact ⟨0, a, k, by omega, by simp, by simp, by simpa using HO.out, HS.out, HW.out, hsz, HB.out⟩
      case round =>
        clear HO HS HW HB c52
        obtain ⟨j, a', k', hj, rfl, rfl, ho, hs, hw, hsz', hb⟩ := hrel
        have HO := hid ho
        have HS := hid hs
        have HW := hid hw
        have HB := hid hb
        clear ho hs hw hb
        by_cases hjt : j < tk.length
        · obtain ⟨g, cap, hg⟩ := Joins.ownsRow_form HW.out (by omega)
          have hcell := HW.out.cells (g := g) (by rw [hg]; rfl) (tk.length - 1 - j) (.int .i64 (tk[tk.length - 1 - j] : Nat)) (by
            unfold tkV
            rw [List.getElem?_map, List.getElem?_eq_getElem (by omega)]
            rfl)
          have hcell' : wr.cell? ⟨g, tk.length - 1 - j, none⟩ = some (.int .i64 (tk[tk.length - 1 - j] : Nat)) := by
            have e : (⟨g, 0, none⟩ : Addr).add (tk.length - 1 - j) = ⟨g, tk.length - 1 - j, none⟩ := by simp only [Addr.add, Nat.zero_add]; split <;> simp_all
            rw [e] at hcell
            exact hcell
          obtain ⟨at', hat⟩ : ∃ at' : Nat, tk.length - 1 - j = at' := ⟨_, rfl⟩
          have hatI : (tk.length : Int) - 1 - j = (at' : Int) := by omega
          have c52 := HS.out.sl
          rw [hg] at c52
          have HE := hid (rev_take hjt)
          simp only [hat] at hcell' HE
          obtain ⟨x, hx⟩ : ∃ x, tk[at']'(by omega) = x := ⟨_, rfl⟩
          rw [hx] at hcell' HE
          rw [hatI]
          have hatl : at' < tk.length := by omega
          have HGR := hid (show ∀ w6, (wr.alloc (.cells #[.int .i64 (x : Nat)] 3)).grownBy w6 (Value.slice a' (cn + j) k').ownBlock → ∀ q, q < pb + 1 → w6.heap[q]? = wr.heap[q]? from fun w6 hg q hq => by
            have h1 := grown_old HO.out hg (k := q) (Or.inl hq) (by simp; omega)
            have h2 := ((Below.refl wr.heap.size wr).alloc (Nat.le_refl _) (.cells #[.int .i64 (x : Nat)] 3)).block q (by omega)
            rw [h1, h2])
          have HAT := hid hatI
          clear hcell hx hat hatI
          go_wp2_with (at_builtin; refine wpList_append_own _ rfl (.tmp 32) (.tmp 38) 91 rfl (pb + 1) 3 ii zz 1 8 Tryz.underlying91 HI.out.1 HI.out.2.1 HI.out.2.2.1 HI.out.2.2.2.1 HI.out.2.2.2.2 (by decide) (.slice a' (cn + j) k') (cn + j) (tkV (Sp.coreL L ++ tk.reverse.take j)) (by simp [Act.eval]) (by exact own_below HO.out ((Below.refl _ _).alloc (Nat.le_refl _) _)) ⟨wr.heap.size, 0, none⟩ 1 1 [.int .i64 (x : Nat)] (by simp [Act.eval]) rfl (by exact alloc_at wr #[.int .i64 (x : Nat)] 3) (by intro u hu; rw [List.mem_singleton.1 hu]; rfl) (by unfold maxLen; omega) (by omega) (by simp; omega) ?_; intro v' w6 hown hgrow _; obtain ⟨g3, cap3, hv⟩ := Joins.ownsRow_form hown (by omega); subst hv; have HOWN := hid hown; have HGW := hid hgrow; clear hown hgrow)
          have HH6 := hid (HGR.out w6 HGW.out)
          have hz6 : wr.heap.size + 1 ≤ w6.heap.size := by have := HGW.out.size; simpa using this
          go_roundw
          case rel =>
            refine ⟨j + 1, some ⟨g3, 0, none⟩, cap3, by omega, ?_, by rw [Nat.add_assoc], ?_, HS.out.of_block (HH6.out pb (by omega)), own_move HW.out (fun q hq => HH6.out q (by have := (HVB.out q hq).2; omega)), by omega, ⟨by rw [HGW.out.os]; exact HB.out.os, by rw [HGW.out.tape]; exact HB.out.tape, by rw [HGW.out.output]; exact HB.out.output, by have := HB.out.size; omega, fun q hq => by rw [HH6.out q (by omega), HB.out.block q hq]⟩⟩
            · have hat2 := HAT.out
              first | go_num | (congr 1; omega) | (simp; omega)
            · rw [HE.out, ← Nat.add_assoc, ← List.append_assoc, show ∀ l : List Nat, tkV (l ++ [x]) = tkV l ++ [.int .i64 (x : Nat)] from fun l => by simp [tkV]]
              exact HOWN.out
          case measure => first | (simp [intOf]; done) | (simp [intOf]; omega)
        · have hj' : j = tk.length := by omega
          have HE := hid (show (Sp.coreL L ++ tk.reverse.take j) = Sp.coreL L ++ tk.reverse by rw [hj', List.take_of_length_le (by rw [List.length_reverse]; exact Nat.le_refl _)])
          have HLN := hid (show (Sp.coreL L ++ tk.reverse).length = cn + j by rw [List.length_append, List.length_reverse, hcn, hj'])
          have hneg : (tk.length : Int) - 1 - j = -1 := by omega
          rw [hneg]
          clear hj' hneg
          go_wp2_with fail
          go_ret
          refine ⟨L, tk, _, rfl, HPT.out, HC.out, ?_, HB.out⟩
          rw [HLN.out, ← HE.out]
          exact own_base HO.out (by omega)
end Go.Proofs.YtccndnckceagfabGreatDoorR
