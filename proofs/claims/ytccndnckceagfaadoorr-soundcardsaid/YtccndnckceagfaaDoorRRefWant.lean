/-
  The document's own search: is there a way to an instruction that reads the register?
-/
import Derived.Test.YtccndnckceagfaaDoorRRefNext
import Derived.Test.YtccndnckceagfaaDoorRWant
namespace Go.Proofs.YtccndnckceagfaaDoorR
open Go.RowKit

theorem hid {p : Prop} (h : p) : Hid p := h
def isT : Value → Bool
  | .bool true => true
  | _ => false
/-- how many of the n cells of block b do not hold true -/
def cntW (w : World) (b n : Nat) : Nat := Sp.cnt (fun j => match w.cell? ⟨b, j, none⟩ with | some v => isT v | none => false) n

theorem cntW_row {w : World} {b t n : Nat} {S : Nat → Bool} (h : w.rowIs b t n (fun j => .bool (S j))) : cntW w b n = Sp.cnt S n := by
  refine Sp.cnt_congr fun j hj => ?_
  rw [h.cell hj]
  cases S j <;> rfl

/-- what holds of the marks S at all times of the search from i -/
structure WInv (w wr : World) (s : ByteArray) (i : Nat) (v : Int) (S : Nat → Bool) : Prop where
  row : wr.rowIs w.heap.size 4 (s.size / 4) (fun j => .bool (S j))
  bel : Below w.heap.size w wr
  dom : ∀ j, S j = true → j < s.size / 4
  snd : ∀ j, S j = true → Sp.Want (Sp.B s) (s.size / 4) v j → Sp.Want (Sp.B s) (s.size / 4) v i
  at0 : S i = true

theorem WInv.mark {w wr : World} {s : ByteArray} {i : Nat} {v : Int} {S : Nat → Bool} (I : WInv w wr s i v S) {j : Nat} (hj : j < s.size / 4) (hw : Sp.Want (Sp.B s) (s.size / 4) v j → Sp.Want (Sp.B s) (s.size / 4) v i) :
    WInv w (wr.setCell ⟨w.heap.size, j, none⟩ (.bool true)) s i v (fun x => x == j || S x) :=
  ⟨(I.row.set j (.bool true)).congr (fun x _ => by by_cases e : x = j <;> simp [e]),
   I.bel.setCell (Nat.le_refl _) _,
   fun x hx => by
     by_cases e : x = j
     · omega
     · exact I.dom x (by simpa [e] using hx),
   fun x hx => by
     by_cases e : x = j
     · rw [e]; exact hw
     · exact I.snd x (by simpa [e] using hx),
   by simp [I.at0]⟩
theorem WInv.move {w wr wr' : World} {s : ByteArray} {i : Nat} {v : Int} {S : Nat → Bool} (I : WInv w wr s i v S) (hb : Below wr.heap.size wr wr') : WInv w wr' s i v S :=
  ⟨I.row.of_block (hb.block _ I.row.lt), I.bel.trans (hb.mono I.bel.size), I.dom, I.snd, I.at0⟩

theorem getD_mem {L : List Nat} {q : Nat} (h : q < L.length) : L.getD q 0 ∈ L := by
  rw [List.getD_eq_getElem?_getD, List.getElem?_eq_getElem h]
  exact List.getElem_mem h
theorem mem_getD {L : List Nat} {t : Nat} (h : t ∈ L) : ∃ q, q < L.length ∧ L.getD q 0 = t := by
  obtain ⟨q, hq, e⟩ := List.getElem_of_mem h
  exact ⟨q, hq, by rw [List.getD_eq_getElem?_getD, List.getElem?_eq_getElem hq]; exact e⟩
theorem info_bool : (Tryd.prog.info? 4).map (fun i => (i.zero, i.size, i.bytes)) = some (some (.bool false), 1, 1) := by kernel_rfl

set_option maxHeartbeats 2000000 in
theorem wanted_any (s : ByteArray) (i : Nat) (v : Int) (w : World) (hs : s.size ≤ 4096) (G : Sp.Good (Sp.B s) (s.size / 4)) (hi : i < s.size / 4) :
    Calls Tryd.prog 86 #[.string s, .int .i64 i, .int .u8 v] w fun e w' => ∃ b, e = .returned (.bool b) ∧ (b = true ↔ Sp.Want (Sp.B s) (s.size / 4) v i) ∧ Below w.heap.size w w' := by
  have hs' : s.size ≤ maxLen := by unfold maxLen; omega
  have hmk := run_make_row' (P := Tryd.prog) 152 4 (.bool false) 1 Tryd.underlying152 info_bool rfl .i64 .i64 (s.size / 4) (by omega) (by omega)
  have ec : ((s.size / 4 : Nat) : Int) = (s.size : Int) / 4 := by omega
  rw [ec] at hmk
  clear ec
  have hm : (madeCells #[Value.bool false] (s.size / 4))[i]? = some (.bool false) := by simp [madeCells, hi, Nat.mod_one]
  have I0 : ∀ wr : World, wr = w.alloc (.cells ((madeCells #[Value.bool false] (s.size / 4)).setIfInBounds i (.bool true)) 4) → WInv w wr s i v (fun x => x == i) := by
    rintro wr rfl
    refine ⟨?_, (Below.refl _ _).alloc (Nat.le_refl _) _, fun j hj => by simp at hj; omega, fun j hj => by simp at hj; rw [hj]; exact id, by simp⟩
    have := World.rowIs_alloc w ((madeCells #[Value.bool false] (s.size / 4)).setIfInBounds i (.bool true)) 4 (fun j => .bool (j == i)) (fun j hj => by
      rw [Array.getElem?_setIfInBounds]
      have hj' : j < s.size / 4 := by simpa [size_madeCells] using hj
      by_cases e : i = j
      · subst e; simp [size_madeCells, hj']
      · rw [if_neg e]; simp [madeCells, hj', Nat.mod_one]; omega)
    simpa [size_madeCells] using this
  have H0 := hid I0
  clear I0
  go_enter Tryd.func86, Tryd.ntmps86
  go_wp2_with (first | (go_at_call 33; refine (count_any _ _ hs').mono ?_; rintro e w' ⟨rfl, rfl⟩))
  go_loopw [8] (fun ag wr => ∃ (S : Nat → Bool) (b : Bool), ag = .bool b ∧ WInv w wr s i v S ∧ (b = false → Sp.Closed (Sp.B s) (s.size / 4) v S (s.size / 4))) (fun ag wr => 2 * cntW wr w.heap.size (s.size / 4) + (if isT ag = true then 1 else 0))
  case atStart => exact ⟨_, true, rfl, H0.out _ rfl, fun h => by cases h⟩
  case round =>
    obtain ⟨S, b, rfl, I, hc⟩ := hrel
    clear H0 hmk hm
    cases b
    · have hno := Sp.closed_no I.dom (hc rfl) I.at0
      have HB : Hid (Below w.heap.size w wr) := hid I.bel
      clear hc
      go_wp2_with fail
      go_ret
      exact ⟨false, rfl, ⟨(fun h => by cases h), fun h => absurd h hno⟩, HB.out⟩
    · clear hc
      have hcnt := cntW_row I.row
      have HC : Hid (cntW wr w.heap.size (s.size / 4) = Sp.cnt S (s.size / 4)) := hid hcnt
      clear hcnt
      go_wp2_with fail
      go_loopw [8, 9] (fun ag kv wk => ∃ (T : Nat → Bool) (b : Bool) (k : Nat), ag = .bool b ∧ kv = .int .i64 k ∧ k ≤ s.size / 4 ∧ WInv w wk s i v T ∧ (b = true → Sp.cnt T (s.size / 4) < Sp.cnt S (s.size / 4)) ∧ (b = false → T = S ∧ Sp.Closed (Sp.B s) (s.size / 4) v T k)) (fun _ kv _ => s.size / 4 - (intOf kv).toNat)
      case atStart => exact ⟨S, false, 0, rfl, rfl, Nat.zero_le _, I, (fun h => by cases h), fun _ => ⟨rfl, fun k hk => by omega⟩⟩
      case round =>
        obtain ⟨T, b, k, rfl, rfl, hk, IT, ht, hf⟩ := hrel
        have HT := hid ht
        have HF := hid hf
        clear ht hf I
        by_cases hlt : k < s.size / 4
        · have hcell := IT.row.cell hlt
          have HCL := hid hcell
          clear hcell
          cases hTk : T k
          · have hcell := HCL.out
            rw [hTk] at hcell
            have HTK := hid hTk
            clear hTk
            go_wp2_with (first | (go_at_call 33; refine (count_any _ _ hs').mono ?_; rintro e w' ⟨rfl, rfl⟩) | (go_at_call 35; refine (at_any _ _ _ hs' (by omega) (by omega)).mono ?_; rintro e w' ⟨rfl, rfl⟩))
            go_roundw
            case rel => exact ⟨T, b, k + 1, rfl, by go_num, by omega, IT, HT.out, fun h => ⟨(HF.out h).1, fun m hm hT => by
              by_cases e : m = k
              · rw [e, HTK.out] at hT; cases hT
              · exact (HF.out h).2 m (by omega) hT⟩⟩
            case measure => simp [intOf]; omega
          · have hcell := HCL.out
            rw [hTk] at hcell
            have HTK := hid hTk
            clear hTk
            go_wp2_with (first | (go_at_call 33; refine (count_any _ _ hs').mono ?_; rintro e w' ⟨rfl, rfl⟩))
            refine (at_ex _ _ _ hs' (by omega) (by omega)).mono ?_
            rintro e w' ⟨x, rfl, hx, rfl⟩
            rw [Int.toNat_natCast] at hx
            go_wp2_with fail
            refine (reads_any _ _ _ hx.size).mono ?_
            rintro e w' ⟨rfl, rfl⟩
            rw [hx.B0, hx.B1, hx.B2, hx.B3]
            cases hrd : Sp.rdB (Sp.B s (4 * k)) (Sp.B s (4 * k + 1)) (Sp.B s (4 * k + 2)) (Sp.B s (4 * k + 3)) v
            · have HRD := hid hrd
              clear hrd
              go_wp2_with fail
              refine (writes_any _ _ _ hx.size).mono ?_
              rintro e w' ⟨rfl, rfl⟩
              rw [hx.B0, hx.B1]
              cases hwr : Sp.wrB (Sp.B s (4 * k)) (Sp.B s (4 * k + 1)) v
              · have HWR := hid hwr
                clear hwr
                go_wp2_with fail
                refine (next_any s k _ hs' (by omega) (fun h => by have := G.jmp k hlt h; omega) (fun h => by have := G.cnd k hlt h; omega)).mono ?_
                rintro e w1 ⟨vv, rfl, hints, hb⟩
                have I1 := IT.move hb
                have hsz := IT.row.lt
                have hnl := Sp.nextL_lt G hlt
                have hlen := Sp.nextL_len (Sp.B s) (s.size / 4) k
                have hstep : ∀ t, t ∈ Sp.nextL (Sp.B s) (s.size / 4) k → Sp.Want (Sp.B s) (s.size / 4) v t → Sp.Want (Sp.B s) (s.size / 4) v i := fun t ht h => IT.snd k HTK.out (Sp.want_step HWR.out ht h)
                have HMEM : Hid (∀ T' : Nat → Bool, (∀ q, q < (Sp.nextL (Sp.B s) (s.size / 4) k).length → T' ((Sp.nextL (Sp.B s) (s.size / 4) k).getD q 0) = true) → ∀ t, t ∈ Sp.nextL (Sp.B s) (s.size / 4) k → T' t = true) := by
                  intro T' h t ht
                  obtain ⟨q, hq, e⟩ := mem_getD ht
                  rw [← e]; exact h q hq
                have HNL := hid hnl
                have HST := hid hstep
                clear hnl hstep IT hcell HCL
                rcases hints with ⟨hL, rfl⟩ | ⟨lb, rfl, hlb, hrow⟩
                · have HL := hid hL
                  clear hL
                  go_wp2_with fail
                  go_loopw [8, 12] (fun ag jv wj => ag = .bool b ∧ jv = .int .i64 0 ∧ wj = w1) (fun _ _ _ => 0)
                  case atStart => exact ⟨rfl, rfl, rfl⟩
                  case round =>
                    obtain ⟨rfl, rfl, rfl⟩ := hrel
                    go_wp2_with fail
                    go_roundw
                    case rel => exact ⟨T, b, k + 1, rfl, by go_num, by omega, I1, HT.out, fun h => ⟨(HF.out h).1, fun m hm hT => by
                      by_cases e : m = k
                      · rw [e]; exact ⟨HRD.out, Or.inr (fun t ht => by rw [HL.out] at ht; cases ht)⟩
                      · exact (HF.out h).2 m (by omega) hT⟩⟩
                    case measure => simp [intOf]; omega
                · generalize hL : Sp.nextL (Sp.B s) (s.size / 4) k = L at *
                  have HL := hid hL
                  clear hL
                  go_wp2_with fail
                  go_loopw [8, 12] (fun ag jv wj => ∃ (T' : Nat → Bool) (b' : Bool) (q : Nat), ag = .bool b' ∧ jv = .int .i64 q ∧ q ≤ L.length ∧ WInv w wj s i v T' ∧ wj.rowIs lb 3 L.length (fun j => .int .i64 (L.getD j 0 : Nat)) ∧ (b' = true → Sp.cnt T' (s.size / 4) < Sp.cnt S (s.size / 4)) ∧ (b' = false → b = false ∧ T' = T ∧ ∀ m, m < q → T' (L.getD m 0) = true)) (fun _ jv _ => L.length - (intOf jv).toNat)
                  case atStart =>
                    refine ⟨T, b, 0, rfl, rfl, Nat.zero_le _, I1, hrow, HT.out, fun h => ⟨h, rfl, fun m hm => by omega⟩⟩
                  case round =>
                    obtain ⟨T', b', q, rfl, rfl, hq, I', hr, ht', hf'⟩ := hrel
                    have HT' := hid ht'
                    have HF' := hid hf'
                    clear ht' hf' I1 hrow
                    by_cases hq' : q < L.length
                    · have hcl := hr.cell hq'
                      have htn := HNL.out _ (getD_mem hq')
                      have hwt := HST.out _ (getD_mem hq')
                      have HWT := hid hwt
                      clear hwt
                      generalize hgt : L.getD q 0 = t at *
                      have HGT := hid hgt
                      clear hgt
                      have hsc := I'.row.cell htn
                      have hfz := I'.row.frozen t
                      have HSC := hid hsc
                      clear hsc
                      cases hTt : T' t
                      · have hsc := HSC.out
                        rw [hTt] at hsc
                        have HTT := hid hTt
                        have IM := hid (I'.mark htn HWT.out)
                        have HRM := hid (hr.setOther (a := ⟨w.heap.size, t, none⟩) (show lb ≠ w.heap.size by omega) (.bool true))
                        have HLT := hid (Sp.cnt_lt (S := T') (T := fun x => x == t || T' x) (fun j hj => by simp [hj]) htn hTt (by simp))
                        have HLE : Hid (Sp.cnt T' (s.size / 4) ≤ Sp.cnt S (s.size / 4)) := by
                          show Sp.cnt T' (s.size / 4) ≤ Sp.cnt S (s.size / 4)
                          cases hb' : b'
                          · obtain ⟨e1, e2, _⟩ := HF'.out hb'
                            rw [e2, (HF.out e1).1]
                            exact Nat.le_refl _
                          · exact Nat.le_of_lt (HT'.out hb')
                        clear hTt
                        go_wp2_with fail
                        go_roundw
                        case rel => exact ⟨_, true, q + 1, rfl, by go_num, by omega, IM.out, HRM.out, (fun _ => Nat.lt_of_lt_of_le HLT.out HLE.out), (fun h => by cases h)⟩
                        case measure => simp [intOf]; omega
                      · have hsc := HSC.out
                        rw [hTt] at hsc
                        have HTT := hid hTt
                        clear hTt
                        go_wp2_with fail
                        go_roundw
                        case rel => exact ⟨T', b', q + 1, rfl, by go_num, by omega, I', hr, HT'.out, fun h => ⟨(HF'.out h).1, (HF'.out h).2.1, fun m hm => by
                          by_cases e : m = q
                          · rw [e, HGT.out]; exact HTT.out
                          · exact (HF'.out h).2.2 m (by omega)⟩⟩
                        case measure => simp [intOf]; omega
                    · have HQ := hid (show q = L.length by omega)
                      go_wp2_with fail
                      go_roundw
                      case rel =>
                        refine ⟨T', b', k + 1, rfl, by go_num, by omega, I', HT'.out, fun h => ?_⟩
                        obtain ⟨e1, e2, e3⟩ := HF'.out h
                        obtain ⟨e4, e5⟩ := HF.out e1
                        refine ⟨e2.trans e4, fun m hm hT => ?_⟩
                        by_cases e : m = k
                        · rw [e]
                          refine ⟨HRD.out, Or.inr (fun t ht => ?_)⟩
                          rw [HL.out] at ht
                          exact HMEM.out T' (fun q' hq' => e3 q' (by rw [HQ.out]; exact hq')) t ht
                        · have := e5 m (by omega) (by rw [← e2]; exact hT)
                          rw [e2]; exact this
                      case measure => simp [intOf]; omega
              · have HWR := hid hwr
                clear hwr
                go_wp2_with fail
                go_roundw
                case rel => exact ⟨T, b, k + 1, rfl, by go_num, by omega, IT, HT.out, fun h => ⟨(HF.out h).1, fun m hm hT => by
                  by_cases e : m = k
                  · rw [e]; exact ⟨HRD.out, Or.inl HWR.out⟩
                  · exact (HF.out h).2 m (by omega) hT⟩⟩
                case measure => simp [intOf]; omega
            · have hw := IT.snd k HTK.out (Sp.want_rd hrd)
              have HW := hid hw
              have HB := hid IT.bel
              clear hrd hw
              go_wp2_with fail
              go_ret
              exact ⟨true, rfl, ⟨fun _ => HW.out, fun _ => rfl⟩, HB.out⟩
        · have HK := hid (show k = s.size / 4 by omega)
          have HCT := hid (cntW_row IT.row)
          go_wp2_with (first | (go_at_call 33; refine (count_any _ _ hs').mono ?_; rintro e w' ⟨rfl, rfl⟩))
          go_roundw
          case rel => exact ⟨T, b, rfl, IT, fun h m hm => (HF.out h).2 m (by rw [HK.out]; exact hm)⟩
          case measure =>
            simp only [isT]
            rw [HC.out, HCT.out]
            cases b
            · rw [(HF.out rfl).1]; simp
            · have := HT.out rfl
              simp; omega
end Go.Proofs.YtccndnckceagfaaDoorR
