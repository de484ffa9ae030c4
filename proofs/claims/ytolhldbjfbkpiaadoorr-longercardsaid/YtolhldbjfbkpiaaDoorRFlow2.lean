/-
  What is live at the beginning of a block: the program's way back through it.
-/
import Derived.Test.YtolhldbjfbkpiaaDoorRFlow1
import Derived.Deep.Cut
namespace Go.Proofs.YtolhldbjfbkpiaaDoorR
open Go.RowKit

def setL (S : Nat → Bool) : List Value := (List.range 52).map (fun r => .bool (S r))
theorem setL_len (S : Nat → Bool) : (setL S).length = 52 := by simp [setL]
theorem setL_at (S : Nat → Bool) (r : Nat) (hr : r < 52) : (setL S)[r]? = some (.bool (S r)) := by simp [setL, hr]
theorem setL_one (S : Nat → Bool) : ∀ v ∈ setL S, v.oneCell' = true := by
  intro v hv
  simp only [setL, List.mem_map] at hv
  obtain ⟨r, _, rfl⟩ := hv
  rfl
theorem SetAt.range {w : World} {b o : Nat} {S : Nat → Bool} (h : SetAt w b o S) : w.rangeAt b o (setL S) := by
  intro j v hj
  have hj' : j < 52 := by have := (List.getElem?_eq_some_iff.1 hj).1; rwa [setL_len] at this
  rw [setL_at S j hj'] at hj
  rw [h.cell j hj', ← hj]
theorem SetAt.there {w : World} {b o : Nat} {S : Nat → Bool} (h : SetAt w b o S) : w.there b o 52 := fun j hj => ⟨by rw [h.cell j hj]; rfl, h.free j hj⟩
theorem SetAt.of_range {w : World} {b o : Nat} {S : Nat → Bool} (h : w.rangeAt b o (setL S)) (ht : w.there b o 52) : SetAt w b o S :=
  ⟨fun r hr => h r _ (setL_at S r hr), fun r hr => (ht r hr).2⟩
theorem only_setCells (w : World) (b o : Nat) (vs : List Value) : Only b w (w.setCells b o vs) := by
  induction vs generalizing o w with
  | nil => exact Only.refl _ _
  | cons v vs ih => exact (Only.set b o w v).trans (ih (w.setCell ⟨b, o, none⟩ v) (o + 1))
theorem info_set : (Tryd.prog.info? 99).map (·.size) = some 52 := by kernel_rfl

theorem run_alloc_set (w : World) : (Instr.alloc 99 true (.tuple #[])).run Tryd.prog w = .ok (.pointer (some ⟨w.heap.size, 0, none⟩)) (w.alloc (.cells (setL (fun _ => false)).toArray 99)) := by kernel_rfl
theorem run_build_set (w : World) : (Instr.build 99 #[]).run Tryd.prog w = .ok (.agg (setL (fun _ => false)).toArray) w := by kernel_rfl

theorem set_new (w : World) (S : Nat → Bool) (t : Nat) : SetAt (w.alloc (.cells (setL S).toArray t)) w.heap.size 0 S := by
  have h := World.rowIs_alloc w (setL S).toArray t (fun r => .bool (S r)) (fun r hr => by
    have hr' : r < 52 := by simpa [setL_len] using hr
    rw [List.getElem?_toArray]
    exact setL_at S r hr')
  have hs : (setL S).toArray.size = 52 := by simp [setL_len]
  rw [hs] at h
  exact ⟨fun r hr => by rw [Nat.zero_add]; exact h.cell hr, fun r _ => by rw [Nat.zero_add]; exact h.frozen r⟩

/-- a new set -/
theorem wpList_alloc_set {ops : Array Oper} {rest : List Oper} {op : Oper} {a : Act} {w : World} {Q : Exit → Act → World → Prop} (hgd : op.guard = none) (ho : op.op = .alloc 99)
    (h : ∀ w', SetAt w' w.heap.size 0 (fun _ => false) → Below w.heap.size w w' → w'.heap.size = w.heap.size + 1 → wpList Tryd.prog ops Q rest (a.put op.dst (.pointer (some ⟨w.heap.size, 0, none⟩))) w') : wpList Tryd.prog ops Q (op :: rest) a w := by
  refine wpList_plain hgd fun K hK => ?_
  unfold Oper.wp execOp
  simp only [ho, Sem.run_bind, run_alloc_set, Result.andThen_ok, Sem.run_pure]
  exact hK _ _ (h _ (set_new _ _ _) ((Below.refl _ _).alloc (Nat.le_refl _) _) (by simp))
theorem wpList_build_set {ops : Array Oper} {rest : List Oper} {op : Oper} {a : Act} {w : World} {Q : Exit → Act → World → Prop} (hgd : op.guard = none) (ho : op.op = .build 99 #[])
    (h : wpList Tryd.prog ops Q rest (a.put op.dst (.agg (setL (fun _ => false)).toArray)) w) : wpList Tryd.prog ops Q (op :: rest) a w := by
  refine wpList_plain hgd fun K hK => ?_
  unfold Oper.wp execOp
  simp only [ho, Sem.run_bind, List.map_toArray, List.map_nil, run_build_set, Result.andThen_ok, Sem.run_pure]
  exact hK _ _ h
/-- a set read whole -/
theorem wpList_load_set {ops : Array Oper} {rest : List Oper} {op : Oper} {a : Act} {w : World} {Q : Exit → Act → World → Prop} (hgd : op.guard = none) (x : Operand) (ho : op.op = .load 99 x)
    (b o : Nat) (S : Nat → Bool) (hx : a.eval x = .pointer (some ⟨b, o, none⟩)) (hS : SetAt w b o S)
    (h : wpList Tryd.prog ops Q rest (a.put op.dst (.agg (setL S).toArray)) w) : wpList Tryd.prog ops Q (op :: rest) a w :=
  wpList_load_mid hgd 99 x ho b o hx (setL S) _ hS.range Tryd.underlying99 rfl (by rw [setL_len]; exact info_set) h
/-- a set written whole -/
theorem wpList_store_set {ops : Array Oper} {rest : List Oper} {op : Oper} {a : Act} {w : World} {Q : Exit → Act → World → Prop} (hgd : op.guard = none) (x y : Operand) (ho : op.op = .store 99 x y)
    (b o : Nat) (S T : Nat → Bool) (hx : a.eval x = .pointer (some ⟨b, o, none⟩)) (hy : a.eval y = .agg (setL S).toArray) (hT : SetAt w b o T)
    (h : ∀ w', SetAt w' b o S → (∀ o' U, o' + 52 ≤ o ∨ o + 52 ≤ o' → SetAt w b o' U → SetAt w' b o' U) → Only b w w' → wpList Tryd.prog ops Q rest (a.put op.dst undef) w') : wpList Tryd.prog ops Q (op :: rest) a w := by
  have hs : (setL S).toArray.size = 52 := by simp [setL_len]
  refine wpList_store_mid hgd 99 x y ho b o (setL S).toArray hx hy (by rw [hs]; exact hT.there) (by rw [hs]; exact info_set) (all_oneCell_toArray (setL_one S)) (h _ ?_ ?_ ?_)
  · exact SetAt.of_range (World.rangeAt_setCells_same w b o (setL S) (by rw [setL_len]; exact hT.there)) (World.there_setCells hT.there b o (setL S))
  · intro o' U hap hU
    exact SetAt.of_range (World.rangeAt_setCells_apart hU.range b o (setL S) (Or.inr (by rw [setL_len, setL_len]; exact hap))) (World.there_setCells hU.there b o (setL S))
  · exact only_setCells w b o (setL S)
theorem results_cell_one {P : Program} {fn : Func} {q : Tmp} {ty : TypeId} (h : fn.results = #[.cell q ty]) (tmps : Array Value) (w : World) {a : Addr} {v : Value} (hp : tmps.getD q undef = .pointer (some a)) (hl : (loadVar ty a).run P w = .ok v w) :
    (results fn tmps).run P w = .ok v w := by
  have hp' : tmps[q]?.getD undef = .pointer (some a) := by simpa using hp
  simp only [results, h]
  simp [hp', asAddr, hl]

set_option maxHeartbeats 1000000 in
theorem liveAtStart_any (p lb nb B b first last : Nat) (C : List Sp.Ins) (L : List (Nat × Nat)) (F : Nat → Nat → Bool) (w : World) (hP : ProgAt w B p C L) (hF : ∀ k, k < nb → SetAt w lb (k * 52) (F k)) (hnb : L.length = nb) (hnb10 : nb ≤ 10) (hb : b < nb)
    (hL : L[b]'(by omega) = (first, last)) (hfl : first ≤ last) (hlc : last < C.length) (hC : C.length ≤ 1000) (hr : ∀ i, i ∈ C → i.d < 52 ∧ i.x < 52 ∧ i.y < 52) :
    Calls Tryd.prog 83 #[.pointer (some ⟨p, 0, none⟩), .slice (some ⟨lb, 0, none⟩) nb nb, .int .i64 b] w fun e w' => e = .returned (.agg (setL (Sp.bkTo C nb F last (last - first + 1))).toArray) ∧ Below w.heap.size w w' := by
  obtain ⟨vC, vB, hrow, hoC, hoB, _⟩ := hP
  have c0 : w.cell? ⟨p, 0, none⟩ = some vC := hrow.cell (i := 0) (by omega)
  have c1 : w.cell? ⟨p, 1, none⟩ = some vB := hrow.cell (i := 1) (by omega)
  have hpl := hrow.lt
  have HR := hid hrow
  have HC := hid hoC
  have HBk := hid hoB
  obtain ⟨g, cap, rfl⟩ := Joins.ownsRow_form hoC (by omega)
  obtain ⟨gb, capb, rfl⟩ := Joins.ownsRow_form hoB (by omega)
  obtain ⟨d0, d1⟩ := blk_cells hoB b (by omega)
  rw [hL] at d0 d1
  have hgl := (hoC.lt g rfl).2
  have hgbl := (hoB.lt gb rfl).2
  have HF := hid hF
  have HRG := hid hr
  rw [hnb] at c1
  clear hrow hoC hoB hF hr hL
  have t1 : decide ((b : Int) < 0) = false := by simp
  have t2 : decide (nb ≤ b) = false := by simp; omega
  have hcells : ∀ wx : World, Below w.heap.size w wx → wx.cell? ⟨p, 0, none⟩ = some (.slice (some ⟨g, 0, none⟩) C.length cap) ∧ wx.cell? ⟨p, 1, none⟩ = some (.slice (some ⟨gb, 0, none⟩) nb capb) ∧ wx.cell? ⟨gb, b * 2, none⟩ = some (.int .i64 first) ∧ wx.cell? ⟨gb, b * 2 + 1, none⟩ = some (.int .i64 last) := fun wx hb =>
    ⟨(hb.cell (p := ⟨p, 0, none⟩) hpl).trans c0, (hb.cell (p := ⟨p, 1, none⟩) hpl).trans c1, (hb.cell (p := ⟨gb, b * 2, none⟩) hgbl).trans d0, (hb.cell (p := ⟨gb, b * 2 + 1, none⟩) hgbl).trans d1⟩
  have HCELLS := hid hcells
  clear hcells c0 c1 d0 d1
  go_enter Tryd.func83, Tryd.ntmps83
  go_upto_region 1 with (refine wpList_alloc_set rfl rfl ?_; intro w1 hs1 hb1 hz1)
  have HS1 := hid hs1
  have HB1 := hid hb1
  clear hs1 hb1
  go_upto_region 2 with (first | (refine wpList_build_set rfl rfl ?_) | (refine wpList_alloc_set rfl rfl ?_; intro w2 hs2 hb2 hz2; have HS2 := hid hs2; have HB2 := hid hb2; clear hs2 hb2) | (refine wpList_store_set rfl (.tmp 7) (.tmp 11) rfl w1.heap.size 0 (fun _ => false) (fun _ => false) (by rfl) (by rfl) HS2.out ?_; intro w3 hs3 hs3' ho3; have HS3 := hid hs3; have HO3 := hid ho3; clear hs3 hs3' ho3))
  -- all that is known of the world so far
  have hbw : Below w.heap.size w w3 := (HB1.out.trans (HB2.out.mono HB1.out.size)).trans (HO3.out.below (by rw [hz1]; omega))
  have hsz3 : w3.heap.size = w.heap.size + 2 := by rw [HO3.out.size, hz2, hz1]
  have HSR := hid ((HS1.out.of_block (HB2.out.block _ HS1.out.lt)).of_block (HO3.out.block w.heap.size (by rw [hz1]; omega)))
  have HSS : Hid (SetAt w3 (w.heap.size + 1) 0 (fun _ => false)) := by rw [← hz1]; exact HS3.out
  have HBW := hid hbw
  obtain ⟨c0, c1, d0, d1⟩ := HCELLS.out w3 hbw
  clear hbw HS1 HB1 HS2 HB2 HS3 HO3 hz2
  go_wp2_with fail
  go_loopw [9] (fun av wr => ∃ (j : Nat) (a : Int), j ≤ last - first + 1 ∧ a = (last : Int) - j ∧ av = .int .i64 a ∧ SetAt wr (w.heap.size + 1) 0 (Sp.bkTo C nb F last j) ∧ SetAt wr w.heap.size 0 (fun _ => false) ∧ wr.cell? ⟨w.heap.size + 2, 0, none⟩ = some (.int .i64 first) ∧ w.heap.size + 3 ≤ wr.heap.size ∧ Below w.heap.size w wr) (fun av _ => (intOf av + 1 - first).toNat)
  case atStart =>
    have hb4 := (Below.refl w3.heap.size w3).alloc (Nat.le_refl _) (.cells #[.int .i64 first, .int .i64 last] 130)
    refine ⟨0, _, by omega, by simp, rfl, HSS.out.of_block (hb4.block _ (by omega)), HSR.out.of_block (hb4.block _ (by omega)), ?_, by simp; omega, HBW.out.trans (hb4.mono (by omega))⟩
    rw [← hsz3]
    exact (World.rowIs_alloc w3 #[.int .i64 first, .int .i64 last] 130 (fun j => if j = 0 then .int .i64 first else .int .i64 last) (fun j hj => by
      have hj' : j = 0 ∨ j = 1 := by simp at hj; omega
      rcases hj' with rfl | rfl <;> rfl)).cell (i := 0) (by simp)
  case round =>
    obtain ⟨j, a, hj, ha, rfl, hs, hsr, hc, hsz, hbel⟩ := hrel
    have HS := hid hs
    have HSR' := hid hsr
    have HB := hid hbel
    have HA := hid ha
    clear hs hsr hbel HSS HSR HBW hsz3 c0 c1 d0 d1
    obtain ⟨c0, c1, d0, d1⟩ := HCELLS.out wr HB.out
    by_cases hlt : j ≤ last - first
    · obtain ⟨t, rfl⟩ : ∃ t : Nat, a = t := ⟨last - j, by omega⟩
      have HT := hid (show t = last - j by omega)
      have htf : first ≤ t := by omega
      have htc : t < C.length := by omega
      clear ha
      obtain ⟨e1, e2, e3, e4, e5, e6, e7⟩ := ins_cells (own_below HC.out HB.out) t htc
      obtain ⟨r1, r2, r3⟩ := HRG.out C[t] (List.getElem_mem htc)
      have HGD := hid (show C.getD (last - j) ⟨0, -1, -1, -1, 0, -1, -1⟩ = C[t] by rw [← HT.out, List.getD_eq_getElem?_getD, List.getElem?_eq_getElem htc]; rfl)
      generalize hI : C[t] = I at *
      have HI := hid hI
      clear hI
      go_wp2_with fail
      have hlb : lb < w.heap.size := (HF.out b hb).lt
      have hba := (Below.refl wr.heap.size wr).alloc (Nat.le_refl _) (.cells #[.int .u8 I.o, .int .i64 I.d, .int .i64 I.x, .int .i64 I.y, .int .i64 I.n, .int .i64 I.k, .int .i64 I.m] 81)
      have HBA := hid hba
      clear hba
      refine (join_any (w.heap.size + 1) lb nb _ F I.k _ (HS.out.of_block (HBA.out.block _ (by omega))) (fun k hk => ((HF.out k hk).of_block (HB.out.block _ hlb)).of_block (HBA.out.block _ (by omega))) (by omega) (by omega)).mono ?_
      rintro e w4 ⟨rfl, hs4, ho4⟩
      have HS4 := hid hs4
      have HO4 := hid ho4
      have q4 := (row_new wr I.o I.d I.x I.y I.n I.k I.m 81).of_block (ho4.block wr.heap.size (by omega))
      have Q4 := hid q4
      obtain ⟨f1, f2, f3, f4, f5, f6, f7⟩ := row_cells q4
      clear hs4 ho4 q4 e1 e2 e3 e4 e5 e6 e7
      go_wp2_with fail
      refine (join_any (w.heap.size + 1) lb nb _ F I.m _ HS4.out (fun k hk => (((HF.out k hk).of_block (HB.out.block _ hlb)).of_block (HBA.out.block _ (by omega))).of_block (HO4.out.block _ (by omega))) (by omega) (by omega)).mono ?_
      rintro e w5 ⟨rfl, hs5, ho5⟩
      have HS5 := hid hs5
      have HO5 := hid ho5
      have q5 := Q4.out.of_block (ho5.block wr.heap.size (by omega))
      clear f1 f2 f3 f4 f5 f6 f7
      obtain ⟨f1, f2, f3, f4, f5, f6, f7⟩ := row_cells q5
      clear hs5 ho5 q5
      go_wp2_with fail
      refine (goBack_any (w.heap.size + 1) _ _ _ _ _ _ _ _ _ HS5.out r1 r2 r3).mono ?_
      rintro e w6 ⟨rfl, hs6, ho6⟩
      have HS6 := hid hs6
      have HO6 := hid ho6
      clear hs6 ho6 f1 f2 f3 f4 f5 f6 f7
      have hsz5 : w5.heap.size = wr.heap.size + 1 := by rw [HO5.out.size, HO4.out.size]; simp
      have HSZ5 := hid hsz5
      have hsz6 := HO6.out.size
      have hblk : ∀ k, k < wr.heap.size → k ≠ w.heap.size + 1 → w6.heap[k]? = wr.heap[k]? := fun k hk hne => by
        rw [HO6.out.block k (by omega) hne, HO5.out.block k hne, HO4.out.block k hne, HBA.out.block k hk]
      have HBL := hid hblk
      clear hblk hsz5 c0 c1 d0 d1
      go_wp2_with fail
      go_roundw
      case rel =>
        refine ⟨j + 1, (t : Int) - 1, by omega, by have := HT.out; omega, rfl, ?_, HSR'.out.of_block (HBL.out _ (by omega) (by omega)), ?_, ?_, ?_⟩
        · have e : Sp.bkTo C nb F last (j + 1) = Sp.goB (Sp.joinS (Sp.joinS (Sp.bkTo C nb F last j) F nb I.k) F nb I.m) ⟨I.o, I.d, I.x, I.y, I.n, I.k, I.m⟩ := by
            simp only [Sp.bkTo]
            rw [HGD.out]
            rfl
          rw [e]
          exact HS6.out
        · rw [World.cell?_of_block (HBL.out (w.heap.size + 2) (by omega) (by omega))]
          exact hc
        · have := HSZ5.out
          omega
        · refine HB.out.trans ⟨?_, ?_, ?_, ?_, fun k hk => HBL.out k (by omega) (by omega)⟩
          · rw [HO6.out.os, HO5.out.os, HO4.out.os, HBA.out.os]
          · rw [HO6.out.tape, HO5.out.tape, HO4.out.tape, HBA.out.tape]
          · rw [HO6.out.output, HO5.out.output, HO4.out.output, HBA.out.output]
          · have := HSZ5.out
            omega
      case measure => simp [intOf]; omega
    · have hj' : j = last - first + 1 := by omega
      have HJ := hid hj'
      have hlt' : a < first := by omega
      clear hj' ha
      go_wp2_with (first | (refine wpList_load_set rfl (.tmp 7) rfl (w.heap.size + 1) 0 _ (by rfl) HS.out ?_) | (refine wpList_store_set rfl (.tmp 6) (.tmp 69) rfl w.heap.size 0 _ _ (by rfl) (by rfl) HSR'.out ?_; intro w7 hs7 hs7' ho7; have HS7 := hid hs7; have HO7 := hid ho7; clear hs7 hs7' ho7))
      have hld := run_loadVar_mid (P := Tryd.prog) w7 w.heap.size 0 99 (setL (Sp.bkTo C nb F last j)) _ HS7.out.range Tryd.underlying99 rfl (by rw [setL_len]; exact info_set)
      refine bodyPost_ret (v := .agg (setL (Sp.bkTo C nb F last j)).toArray) (results_cell_one rfl _ _ rfl hld) rfl ⟨by rw [HJ.out], ?_⟩
      exact HB.out.trans (HO7.out.below (Nat.le_refl _))
end Go.Proofs.YtolhldbjfbkpiaaDoorR
