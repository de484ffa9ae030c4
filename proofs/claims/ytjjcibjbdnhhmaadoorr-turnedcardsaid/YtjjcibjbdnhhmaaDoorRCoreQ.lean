/-
  The graph of a program, and what is left of it: the program's walks.
-/
import Derived.Test.YtjjcibjbdnhhmaaDoorRCoreP
namespace Go.Proofs.YtjjcibjbdnhhmaaDoorR
open Go.RowKit

def grL (G : Nat → Bool) : List Value := (List.range 2756).map (fun j => .bool (G j))
theorem grL_len (G : Nat → Bool) : (grL G).length = 2756 := by simp [grL]
theorem grL_at (G : Nat → Bool) (j : Nat) (hj : j < 2756) : (grL G)[j]? = some (.bool (G j)) := by simp [grL, hj]
theorem grL_one (G : Nat → Bool) : ∀ v ∈ grL G, v.oneCell' = true := by
  intro v hv
  simp only [grL, List.mem_map] at hv
  obtain ⟨r, _, rfl⟩ := hv
  rfl
theorem info_gr : (Tryd.prog.info? 87).map (·.size) = some 2756 := by kernel_rfl
theorem run_alloc_gr (w : World) : (Instr.alloc 87 true (.tuple #[])).run Tryd.prog w = .ok (.pointer (some ⟨w.heap.size, 0, none⟩)) (w.alloc (.cells (grL (fun _ => false)).toArray 87)) := by kernel_rfl
theorem run_build_gr (w : World) : (Instr.build 87 #[]).run Tryd.prog w = .ok (.agg (grL (fun _ => false)).toArray) w := by kernel_rfl
theorem gr_new (w : World) (G : Nat → Bool) : GrAt (w.alloc (.cells (grL G).toArray 87)) w.heap.size G := by
  have h := World.rowIs_alloc w (grL G).toArray 87 (fun j => .bool (G j)) (fun j hj => by
    have hj' : j < 2756 := by simpa [grL_len] using hj
    rw [List.getElem?_toArray]
    exact grL_at G j hj')
  have hs : (grL G).toArray.size = 2756 := by simp [grL_len]
  rw [hs] at h
  exact h
theorem wpList_alloc_gr {ops : Array Oper} {rest : List Oper} {op : Oper} {a : Act} {w : World} {Q : Exit → Act → World → Prop} (hgd : op.guard = none) (ho : op.op = .alloc 87)
    (h : ∀ w', GrAt w' w.heap.size (fun _ => false) → Below w.heap.size w w' → w'.heap.size = w.heap.size + 1 → wpList Tryd.prog ops Q rest (a.put op.dst (.pointer (some ⟨w.heap.size, 0, none⟩))) w') : wpList Tryd.prog ops Q (op :: rest) a w := by
  refine wpList_plain hgd fun K hK => ?_
  unfold Oper.wp execOp
  simp only [ho, Sem.run_bind, run_alloc_gr, Result.andThen_ok, Sem.run_pure]
  exact hK _ _ (h _ (gr_new _ _) ((Below.refl _ _).alloc (Nat.le_refl _) _) (by simp))
theorem wpList_build_gr {ops : Array Oper} {rest : List Oper} {op : Oper} {a : Act} {w : World} {Q : Exit → Act → World → Prop} (hgd : op.guard = none) (ho : op.op = .build 87 #[])
    (h : wpList Tryd.prog ops Q rest (a.put op.dst (.agg (grL (fun _ => false)).toArray)) w) : wpList Tryd.prog ops Q (op :: rest) a w := by
  refine wpList_plain hgd fun K hK => ?_
  unfold Oper.wp execOp
  simp only [ho, Sem.run_bind, List.map_toArray, List.map_nil, run_build_gr, Result.andThen_ok, Sem.run_pure]
  exact hK _ _ h
set_option maxRecDepth 20000 in
theorem GrAt.range {w : World} {b : Nat} {G : Nat → Bool} (h : GrAt w b G) : w.rangeAt b 0 (grL G) := by
  intro j v hj
  have hj' : j < 2756 := by have := (List.getElem?_eq_some_iff.1 hj).1; rwa [grL_len] at this
  rw [grL_at G j hj'] at hj
  rw [Nat.zero_add, World.rowIs.cell h hj', ← hj]
theorem wpList_load_gr {ops : Array Oper} {rest : List Oper} {op : Oper} {a : Act} {w : World} {Q : Exit → Act → World → Prop} (hgd : op.guard = none) (x : Operand) (ho : op.op = .load 87 x)
    (b : Nat) (G : Nat → Bool) (hx : a.eval x = .pointer (some ⟨b, 0, none⟩)) (hG : GrAt w b G)
    (h : wpList Tryd.prog ops Q rest (a.put op.dst (.agg (grL G).toArray)) w) : wpList Tryd.prog ops Q (op :: rest) a w :=
  wpList_load_mid hgd 87 x ho b 0 hx (grL G) _ hG.range Tryd.underlying87 rfl (by rw [grL_len]; exact info_gr) h
set_option maxRecDepth 20000 in
theorem wpList_store_gr {ops : Array Oper} {rest : List Oper} {op : Oper} {a : Act} {w : World} {Q : Exit → Act → World → Prop} (hgd : op.guard = none) (x y : Operand) (ho : op.op = .store 87 x y)
    (b : Nat) (G H : Nat → Bool) (hx : a.eval x = .pointer (some ⟨b, 0, none⟩)) (hy : a.eval y = .agg (grL G).toArray) (hH : GrAt w b H)
    (h : ∀ w', GrAt w' b G → Only b w w' → wpList Tryd.prog ops Q rest (a.put op.dst undef) w') : wpList Tryd.prog ops Q (op :: rest) a w := by
  have hs : (grL G).toArray.size = 2756 := by simp [grL_len]
  refine wpList_store_mid hgd 87 x y ho b 0 (grL G).toArray hx hy (by rw [hs]; exact row_there hH 0 2756 (by omega)) (by rw [hs]; exact info_gr) (all_oneCell_toArray (grL_one G)) (h _ ?_ ?_)
  · have := row_setCells hH (grL G) 0 (by rw [grL_len]; omega)
    refine World.rowIs.congr this fun j hj => ?_
    rw [if_pos (by rw [grL_len]; omega), Nat.sub_zero, List.getD_eq_getElem?_getD, grL_at G j hj]
    rfl
  · exact only_setCells w b 0 (grL G)
theorem run_loadVar_gr {w : World} {b : Nat} {G : Nat → Bool} (h : GrAt w b G) : (loadVar 87 ⟨b, 0, none⟩).run Tryd.prog w = .ok (.agg (grL G).toArray) w :=
  run_loadVar_mid w b 0 87 (grL G) _ h.range Tryd.underlying87 rfl (by rw [grL_len]; exact info_gr)

def cTW (w : World) (b : Nat) : Nat := Sp.cT (fun j => match w.cell? ⟨b, j, none⟩ with | some v => isT v | none => false) 52
theorem cTW_set {w : World} {b : Nat} {S : Nat → Bool} (h : SetAt w b 0 S) : cTW w b = Sp.cT S 52 := by
  refine Sp.cT_congr 52 fun j hj => ?_
  have := h.cell j hj
  rw [Nat.zero_add] at this
  rw [this]
  cases S j <;> rfl

set_option maxRecDepth 20000 in
set_option maxHeartbeats 2000000 in
theorem gcore_any (b : Nat) (G : Nat → Bool) (c : Int) (w : World) (h : GrAt w b G) :
    Calls Tryd.prog 56 #[.pointer (some ⟨b, 0, none⟩), .int .i64 c] w fun e w' => ∃ L, e = .returned (.agg (setL L).toArray) ∧ Sp.IsCore (fun r => G r) (fun r x => G (52 + r * 52 + x)) c L ∧ Below w.heap.size w w' := by
  have hbl := h.lt
  have HG := hid h
  clear h
  generalize hN : w.heap.size = N at *
  go_enter Tryd.func56, Tryd.ntmps56
  go_upto_region 1 with (refine wpList_alloc_set rfl rfl ?_; intro w1 hs1 hb1 hz1; rw [hN] at hs1 hb1 hz1; have HS1 := hid hs1; have HB1 := hid hb1; clear hs1 hb1)
  have HG1 := hid (HG.out.of_block (HB1.out.block b hbl))
  go_upto_region 2 with (first | (refine wpList_load_set rfl (.tmp 9) rfl b 0 (fun x => G (0 + x)) (by rfl) (HG1.out.sets 0 (by omega)) ?_) | (refine wpList_alloc_set rfl rfl ?_; intro w2 hs2 hb2 hz2; rw [hz1] at hs2 hb2 hz2; have HS2 := hid hs2; have HB2 := hid hb2; clear hs2 hb2) | (refine wpList_store_set rfl (.tmp 5) (.tmp 10) rfl (N + 1) 0 (fun x => G (0 + x)) (fun _ => false) (by rw [← hz1]; rfl) (by rfl) HS2.out ?_; intro w3 hs3 hs3' ho3; have HS3 := hid hs3; have HO3 := hid ho3; clear hs3 hs3' ho3))
  have hbw : Below N w w3 := (HB1.out.trans (HB2.out.mono (by omega))).trans (HO3.out.below (by omega))
  have hsz3 : w3.heap.size = N + 2 := by rw [HO3.out.size, hz2]
  have HSR := hid ((HS1.out.of_block (HB2.out.block N (by omega))).of_block (HO3.out.block N (by omega)))
  have HBW := hid hbw
  have HS3' := hid (HS3.out.congr (T := fun r => G r) (fun r _ => by rw [Nat.zero_add]))
  clear hbw HS1 HB1 HS2 HB2 HS3 HO3 hz2 HG1
  have HL0 := hid (loose_any b (N + 1) 0 G (fun r => G r) c w3 (HG.out.of_block (HBW.out.block b hbl)) HS3'.out)
  go_upto_region 3 with (go_at_call 88; refine HL0.out.mono ?_; rintro e w4 ⟨z, rfl, hcase, rfl⟩; have HCS := hid hcase; clear hcase)
  clear HL0
  go_loopw [6] (fun zv wr => ∃ (L : Nat → Bool) (z : Int), zv = .int .i64 z ∧ SetAt wr (N + 1) 0 L ∧ Sp.Peel (fun r => G r) (fun r x => G (52 + r * 52 + x)) c L ∧ LooseR G L c z ∧ SetAt wr N 0 (fun _ => false) ∧ Below N w wr) (fun _ wr => cTW wr (N + 1))
  case atStart => exact ⟨fun r => G r, z, rfl, HS3'.out, Sp.Peel.start _ _ _, HCS.out, HSR.out, HBW.out⟩
  case round =>
    clear HS3' HCS HSR HBW
    obtain ⟨L, z, rfl, hS, hP, hC, hR, hB⟩ := hrel
    have HS := hid hS
    have HP := hid hP
    have HR := hid hR
    have HB := hid hB
    have hlt := hS.lt
    clear hS hP hR hB
    rcases hC with ⟨r, hr, rfl, hrL, hrc⟩ | ⟨rfl, hall⟩
    · have HRL := hid hrL
      have HPA := hid (HP.out.away r hrc)
      have hne : ((r : Int) != -1) = true := by simp
      clear hrL hrc
      have HPT := hid (put_any (N + 1) 0 L (r : Int) false wr HS.out (by omega))
      go_upto_region 4 with (go_at_call 77; refine HPT.out.mono ?_; rintro e w5 ⟨rfl, hs5, ho5⟩; have HS5 := hid (hs5.congr (T := fun x => L x && x != r) (fun x _ => by
        by_cases e : x = r
        · subst e; simp
        · rw [if_neg (by omega)]; simp [e])); have HO5 := hid ho5; clear hs5 ho5)
      have HL5 := hid (loose_any b (N + 1) 0 G (fun x => L x && x != r) c w5 ((HG.out.of_block (HB.out.block b hbl)).of_block (HO5.out.block b (by omega))) HS5.out)
      have HM := hid (show cTW w5 (N + 1) < cTW wr (N + 1) by
        rw [cTW_set HS5.out, cTW_set HS.out]
        exact Sp.cT_lt (fun k _ e => by simp only [Bool.and_eq_true] at e; exact e.1) hr (by simp) HRL.out)
      go_wp2_with (go_at_call 88; refine HL5.out.mono ?_; rintro e w6 ⟨z', rfl, hcase, rfl⟩; have HCS := hid hcase; clear hcase)
      go_roundw
      case rel => exact ⟨_, z', rfl, HS5.out, HPA.out, HCS.out, HR.out.of_block (HO5.out.block N (by omega)), HB.out.trans (HO5.out.below (by omega))⟩
      case measure => exact HM.out
    · have HIC := hid (HP.out.fin hall)
      clear hall
      go_wp2_with (first | (refine wpList_load_set rfl (.tmp 5) rfl (N + 1) 0 L (by rfl) HS.out ?_) | (refine wpList_store_set rfl (.tmp 4) (.tmp 21) rfl N 0 L _ (by rfl) (by rfl) HR.out ?_; intro w12 hs12 hs12' ho12; have HS12 := hid hs12; have HO12 := hid ho12; clear hs12 hs12' ho12))
      have hld := run_loadVar_mid (P := Tryd.prog) w12 N 0 83 (setL L) _ HS12.out.range Tryd.underlying83 rfl (by rw [setL_len]; exact info_set)
      refine bodyPost_ret (v := .agg (setL L).toArray) (results_cell_one (q := 4) (a := ⟨N, 0, none⟩) rfl _ _ (by rfl) hld) (by rfl) ⟨L, rfl, HIC.out, ?_⟩
      exact HB.out.trans (HO12.out.below (Nat.le_refl _))
namespace Sp
def ofTo (C : List Ins) (R : Nat → Nat → Bool) (n : Nat) : Nat → Nat → Bool
  | 0 => fun _ => false
  | j + 1 => if j + 1 < n then maG (stG (ofTo C R n j) (C.getD j noIns)) (C.getD j noIns).d (R (j + 1)) else stG (ofTo C R n j) (C.getD j noIns)
def ofZ (G : Nat → Bool) (S : Nat → Bool) : Nat → Nat → Bool
  | 0 => G
  | r + 1 => if S r = true then maG (ofZ G S r) r S else ofZ G S r
end Sp

set_option maxRecDepth 20000 in
set_option maxHeartbeats 4000000 in
theorem of_any (p nb B : Nat) (C : List Sp.Ins) (L : List (Nat × Nat)) (w : World) (hP : ProgAt w B p C L) (hnb : L.length = nb) (hC1 : 1 ≤ C.length) (hC : C.length ≤ 1000) (hnb10 : nb ≤ 10) (hnb1 : 1 ≤ nb) (hr : ∀ i, i ∈ C → i.d < 52 ∧ i.x < 52 ∧ i.y < 52) :
    Calls Tryd.prog 55 #[.pointer (some ⟨p, 0, none⟩)] w fun e w' => e = .returned (.agg (grL (Sp.ofZ (Sp.ofTo C (Sp.rounds C L nb) C.length C.length) (Sp.rounds C L nb 0) 52)).toArray) ∧ Below w.heap.size w w' := by
  have HLA := hid (fun (W : World) (hW : ProgAt W B p C L) => liveAheads_any p nb B C L W hW hnb hC1 hC hnb10 hnb1 hr)
  have HPR := hid hP
  obtain ⟨vC, vB, hrow, hoC, hoB, _⟩ := hP
  have c0 : w.cell? ⟨p, 0, none⟩ = some vC := hrow.cell (i := 0) (by omega)
  have hpl := hrow.lt
  obtain ⟨g, cap, rfl⟩ := Joins.ownsRow_form hoC (by omega)
  have HC := hid hoC
  have HRG := hid hr
  clear hrow hoC hoB hr
  generalize hR : Sp.rounds C L nb = R at *
  clear hR
  generalize hn : C.length = n at *
  have HN := hid hn
  clear hn
  generalize hN : w.heap.size = N at *
  go_enter Tryd.func55, Tryd.ntmps55
  go_upto_region 1 with (refine wpList_alloc_gr rfl rfl ?_; intro w1 hs1 hb1 hz1; rw [hN] at hs1 hb1 hz1; have HS1 := hid hs1; have HB1 := hid hb1; clear hs1 hb1)
  go_upto_region 2 with (first | (refine wpList_build_gr rfl rfl ?_) | (refine wpList_alloc_gr rfl rfl ?_; intro w2 hs2 hb2 hz2; rw [hz1] at hs2 hb2 hz2; have HS2 := hid hs2; have HB2 := hid hb2; clear hs2 hb2) | (refine wpList_store_gr rfl (.tmp 3) (.tmp 8) rfl (N + 1) (fun _ => false) (fun _ => false) (by rw [← hz1]; rfl) (by rfl) HS2.out ?_; intro w3 hs3 ho3; have HS3 := hid hs3; have HO3 := hid ho3; clear hs3 ho3))
  have hbw : Below N w w3 := (HB1.out.trans (HB2.out.mono (by omega))).trans (HO3.out.below (by omega))
  have hsz3 : w3.heap.size = N + 2 := by rw [HO3.out.size, hz2]
  have HSR := hid ((HS1.out.of_block (HB2.out.block N (by omega))).of_block (HO3.out.block N (by omega)))
  have HBW := hid hbw
  have HLW := hid (HLA.out w3 (HPR.out.move (by rw [hN]; exact hbw)))
  rw [hsz3] at HLW
  clear hbw HS1 HB1 HS2 HB2 HO3 hz2 HLA
  go_upto_region 3 with (go_at_call 52; refine HLW.out.mono ?_; rintro e w4 ⟨rfl, hs4, hb4⟩; have HLV4 := hid hs4; have HG4 := hid (HS3.out.of_block (hb4.block (N + 1) (by omega))); have HSR4 := hid (HSR.out.of_block (hb4.block N (by omega))); have HB4 := hid (HBW.out.trans (hb4.mono (by omega))); have hs4' : N + 3 ≤ w4.heap.size := (by have h1 := (hs4 0 (by omega)).lt; omega); clear hs4 hb4)
  have c0' : w4.cell? ⟨p, 0, none⟩ = some (.slice (some ⟨g, 0, none⟩) n cap) := (HB4.out.cell (p := ⟨p, 0, none⟩) (by omega)).trans c0
  clear HLW HS3 HSR HBW c0 hsz3
  go_wp2_with fail
  go_loopw [16] (fun jv wr => ∃ j : Nat, j ≤ n ∧ jv = .int .i64 j ∧ GrAt wr (N + 1) (Sp.ofTo C R n j) ∧ GrAt wr N (fun _ => false) ∧ (∀ k, k < n → SetAt wr (N + 2) (k * 52) (R k)) ∧ Below N w wr) (fun jv _ => n - (intOf jv).toNat)
  case atStart => exact ⟨0, by omega, rfl, HG4.out, HSR4.out, HLV4.out, HB4.out⟩
  case round =>
    clear HG4 HSR4 HLV4 HB4 hs4' c0'
    obtain ⟨j, hj, rfl, hG, hZ, hL, hB⟩ := hrel
    have HG := hid hG
    have HZ := hid hZ
    have HL := hid hL
    have HB := hid hB
    have hsr : N + 3 ≤ wr.heap.size := by have := (hL 0 (by omega)).lt; omega
    clear hG hZ hL hB
    by_cases hlt : j < n
    · have hjC : j < C.length := by rw [HN.out]; exact hlt
      obtain ⟨e1, e2, e3, e4, e5, e6, e7⟩ := ins_cells (own_below HC.out (by rw [hN]; exact HB.out)) j hjC
      obtain ⟨r1, r2, r3⟩ := HRG.out C[j] (List.getElem_mem hjC)
      have HGD := hid (show C.getD j Sp.noIns = C[j] by rw [List.getD_eq_getElem?_getD, List.getElem?_eq_getElem hjC]; rfl)
      have HSTEP := hid (show Sp.ofTo C R n (j + 1) = if j + 1 < n then Sp.maG (Sp.stG (Sp.ofTo C R n j) C[j]) C[j].d (R (j + 1)) else Sp.stG (Sp.ofTo C R n j) C[j] by simp only [Sp.ofTo]; rw [HGD.out])
      generalize hI : C[j] = I at *
      have HI := hid hI
      clear hI HGD
      have HBA := hid (show Below wr.heap.size wr (wr.alloc (.cells #[.int .u8 I.o, .int .i64 I.d, .int .i64 I.x, .int .i64 I.y, .int .i64 I.n, .int .i64 I.k, .int .i64 I.m] 98)) from (Below.refl _ _).alloc (Nat.le_refl _) _)
      have HQ := hid (row_new wr I.o I.d I.x I.y I.n I.k I.m 98)
      have hsa : (wr.alloc (.cells #[.int .u8 I.o, .int .i64 I.d, .int .i64 I.x, .int .i64 I.y, .int .i64 I.n, .int .i64 I.k, .int .i64 I.m] 98)).heap.size = wr.heap.size + 1 := by simp
      have HST := hid (stand_any (N + 1) _ I.o I.d I.x I.y I.n I.k I.m (wr.alloc (.cells #[.int .u8 I.o, .int .i64 I.d, .int .i64 I.x, .int .i64 I.y, .int .i64 I.n, .int .i64 I.k, .int .i64 I.m] 98)) (HG.out.of_block (HBA.out.block (N + 1) (by omega))) r1 r2 r3)
      rw [hsa] at HST
      go_upto_region 7 with (go_at_call 86; refine HST.out.mono ?_; rintro e w5 ⟨rfl, hg5, hb5⟩; have HG5 := hid hg5; have HB5 := hid hb5; clear hg5 hb5)
      have hs5 : wr.heap.size + 1 ≤ w5.heap.size := by have := HB5.out.size; rw [hsa] at this; exact this
      have HQ5 := hid (HQ.out.of_block (HB5.out.block wr.heap.size (by omega) (by omega)))
      have HZ5 := hid ((HZ.out.of_block (HBA.out.block N (by omega))).of_block (HB5.out.block N (by omega) (by omega)))
      have HL5 := hid (fun k (hk : k < n) => ((HL.out k hk).of_block (HBA.out.block (N + 2) (by omega))).of_block (HB5.out.block (N + 2) (by omega) (by omega)))
      have HW5 := hid ((HB.out.trans (HBA.out.mono (by omega))).trans (show Below N _ w5 from ⟨HB5.out.os, HB5.out.tape, HB5.out.output, HB5.out.size, fun k hk => HB5.out.block k (by omega) (by omega)⟩))
      obtain ⟨f1, f2, f3, f4, f5, f6, f7⟩ := row_cells HQ5.out
      clear HST HBA HQ HB5 HG HZ HL HB e1 e2 e3 e4 e5 e6 e7 hsa HQ5
      generalize wr.heap.size = q at *
      by_cases hj1 : j + 1 < n
      · rw [if_pos hj1] at HSTEP
        have hwrap : IntKind.i64.wrap ((j : Int) + 1) = (j : Int) + 1 := IntWalk.i64_in _ (by omega)
        have HMA := hid (meetAll_any (N + 1) (N + 2) ((j + 1) * 52) _ (R (j + 1)) I.d w5.drew (HG5.out.of_block rfl) ((HL5.out (j + 1) hj1).of_block rfl) (by omega) r1)
        go_wp2_with fail
        go_region_with (go_at_call 87; refine HMA.out.mono ?_; rintro e w6 ⟨rfl, hg6, ho6⟩; have HG6 := hid hg6; have HO6 := hid (show Only (N + 1) w5 w6 from ⟨ho6.os, ho6.tape, ho6.output, ho6.size, ho6.block⟩); clear hg6 ho6)
        all_goals
          go_wp2_with fail
          go_roundw
          case rel => exact ⟨j + 1, by omega, by go_num, by rw [HSTEP.out]; exact HG6.out, HZ5.out.of_block (HO6.out.block N (by omega)), fun k hk => (HL5.out k hk).of_block (HO6.out.block (N + 2) (by omega)), HW5.out.trans (HO6.out.below (by omega))⟩
          case measure => simp [intOf]; omega
      · rw [if_neg hj1] at HSTEP
        go_wp2_with fail
        go_roundw
        case rel => exact ⟨j + 1, by omega, by go_num, by rw [HSTEP.out]; exact HG5.out, HZ5.out, HL5.out, HW5.out⟩
        case measure => simp [intOf]; omega
    · have HJ := hid (show j = n by omega)
      rw [HJ.out] at HG
      generalize hG0 : Sp.ofTo C R n n = G0 at *
      have HG0 := hid hG0
      clear hG0
      have hn0 : (0 : Int) < n := by omega
      go_wp2_with fail
      go_loopw [7] (fun rv wq => ∃ r : Nat, r ≤ 52 ∧ rv = .int .i64 r ∧ GrAt wq (N + 1) (Sp.ofZ G0 (R 0) r) ∧ GrAt wq N (fun _ => false) ∧ SetAt wq (N + 2) 0 (R 0) ∧ Below N w wq) (fun rv _ => 52 - (intOf rv).toNat)
      case atStart => exact ⟨0, by omega, rfl, HG.out, HZ.out, (by have := HL.out 0 (by omega); rwa [Nat.zero_mul] at this), HB.out⟩
      case round =>
        clear HG HZ HL HB
        obtain ⟨r, hr, rfl, hG, hZ, hL, hB⟩ := hrel
        have HG := hid hG
        have HZ := hid hZ
        have HL := hid hL
        have HB := hid hB
        clear hG hZ hL hB
        by_cases hlt : r < 52
        · have HHS := hid (has_any (N + 2) 0 (R 0) r wr HL.out hlt)
          cases hs : R 0 r
          · have HE := hid (show Sp.ofZ G0 (R 0) (r + 1) = Sp.ofZ G0 (R 0) r by simp only [Sp.ofZ]; rw [if_neg (by rw [hs]; simp)])
            rw [hs] at HHS
            clear hs
            go_wp2_with (go_at_call 83; refine HHS.out.mono ?_; rintro e w' ⟨rfl, rfl⟩)
            go_roundw
            case rel =>
              first | simp only [show decide (0 < n) = true from decide_eq_true (by omega)] | simp only [show decide ((0 : Int) < n) = true from decide_eq_true (by omega)]
              repeat apply Exists.intro
              refine ⟨?_, rfl⟩
              exact ⟨r + 1, by omega, by go_num, by rw [HE.out]; exact HG.out, HZ.out, HL.out, HB.out⟩
            case measure => simp [intOf]; omega
          · have HE := hid (show Sp.ofZ G0 (R 0) (r + 1) = Sp.maG (Sp.ofZ G0 (R 0) r) r (R 0) by simp only [Sp.ofZ]; rw [if_pos hs])
            rw [hs] at HHS
            clear hs
            have HMA := hid (meetAll_any (N + 1) (N + 2) 0 _ (R 0) (r : Int) wr HG.out HL.out (by omega) (by omega))
            go_wp2_with (first | (go_at_call 83; refine HHS.out.mono ?_; rintro e w' ⟨rfl, rfl⟩) | (go_at_call 87; refine HMA.out.mono ?_; rintro e w6 ⟨rfl, hg6, ho6⟩; have HG6 := hid hg6; have HO6 := hid ho6; clear hg6 ho6))
            go_roundw
            case rel =>
              first | simp only [show decide (0 < n) = true from decide_eq_true (by omega)] | simp only [show decide ((0 : Int) < n) = true from decide_eq_true (by omega)]
              repeat apply Exists.intro
              refine ⟨?_, rfl⟩
              exact ⟨r + 1, by omega, by go_num, by rw [HE.out]; exact HG6.out, HZ.out.of_block (HO6.out.block N (by omega)), HL.out.of_block (HO6.out.block (N + 2) (by omega)), HB.out.trans (HO6.out.below (by omega))⟩
            case measure => simp [intOf]; omega
        · have HR := hid (show r = 52 by omega)
          rw [HR.out] at HG
          generalize hG1 : Sp.ofZ G0 (R 0) 52 = G1 at *
          have HG1 := hid hG1
          clear hG1
          go_wp2_with (first | (refine wpList_load_gr rfl (.tmp 3) rfl (N + 1) G1 (by rfl) HG.out ?_) | (refine wpList_store_gr rfl (.tmp 2) (.tmp 51) rfl N G1 _ (by rfl) (by rfl) HZ.out ?_; intro w12 hs12 ho12; have HS12 := hid hs12; have HO12 := hid ho12; clear hs12 ho12))
          refine bodyPost_ret (v := .agg (grL G1).toArray) (results_cell_one (q := 2) (a := ⟨N, 0, none⟩) rfl _ _ (by rfl) (run_loadVar_gr HS12.out)) (by rfl) ⟨by rw [← HG1.out, ← HG0.out], ?_⟩
          exact HB.out.trans (HO12.out.below (Nat.le_refl _))
end Go.Proofs.YtjjcibjbdnhhmaaDoorR
