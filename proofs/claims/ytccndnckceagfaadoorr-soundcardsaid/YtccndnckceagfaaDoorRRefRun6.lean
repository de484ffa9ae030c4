/-
  One step of the document's own run, further.
-/
import Derived.Test.YtccndnckceagfaaDoorRRefRun5
import Derived.Deep.RegionHeld3
namespace Go.Proofs.YtccndnckceagfaaDoorR
open Go.RowKit

theorem keep1 {w : World} {b o o' : Nat} {v u : Value} (h : o' ≠ o) (hc : w.cell? ⟨b, o', none⟩ = some u) : (w.setCell ⟨b, o, none⟩ v).drew.cell? ⟨b, o', none⟩ = some u := by
  show (w.setCell ⟨b, o, none⟩ v).cell? ⟨b, o', none⟩ = some u
  rw [World.cell?_setCell_other (a := ⟨b, o, none⟩) (b := ⟨b, o', none⟩) (h := fun e => h (congrArg Addr.off e).symm)]
  exact hc

set_option maxRecDepth 20000 in
set_option maxHeartbeats 2000000 in
theorem step_a (b : Nat) (s : ByteArray) (st : Sp.St) (i : Nat) (w : World) (hS : StAt w b s st) (hok : st.ok 100000000) (hs : s.size ≤ 4096) (hi : st.next = i) (hin : i < s.size / 4) (o : Int) (ho : Sp.B s (4 * i) = o) (hob : o ≠ 114 ∧ o ≠ 106 ∧ o ≠ 63 ∧ o ≠ 108 ∧ o ≠ 76 ∧ o ≠ 115 ∧ o ≠ 83 ∧ o ≠ 62 ∧ o ≠ 60 ∧ o ≠ 126 ∧ o ≠ 35 ∧ o ≠ 61) (h1 : Sp.B s (4 * i + 1) < 128) (h2 : Sp.B s (4 * i + 2) < 128) (h3 : Sp.B s (4 * i + 3) < 128) :
    Calls Tryd.prog 70 #[.pointer (some ⟨b, 0, none⟩)] w fun e w' => e = .returned (.bool true) ∧ StAt w' b s { st with next := i + 1, hold := Sp.upd st.hold (Sp.B s (4 * i + 1)).toNat (Sp.cntS o (st.hold (Sp.B s (4 * i + 2)).toNat) (st.hold (Sp.B s (4 * i + 3)).toNat)) } ∧ But w.heap.size b w w' := by
  have hs' : s.size ≤ maxLen := by unfold maxLen; omega
  have cs := hS.s
  have cn := hS.next
  rw [hi] at cn
  have fn := hS.free 129
  have HS := hidd hS
  have HX := hidd (Sp.insAt_ext s i (by omega))
  have HO := hidd ho
  have HOK := hidd hok
  have hbl := hS.lt
  have htr := hok.trace
  obtain ⟨p1, q1⟩ := Sp.B_bd s (4 * i + 1)
  obtain ⟨k1, e1⟩ := Int.eq_ofNat_of_zero_le p1
  have hk1 : k1 < 128 := by omega
  have HE1 := hidd e1
  have ch1 := hS.hold k1 hk1
  obtain ⟨p2, q2⟩ := Sp.B_bd s (4 * i + 2)
  obtain ⟨k2, e2⟩ := Int.eq_ofNat_of_zero_le p2
  have hk2 : k2 < 128 := by omega
  have HE2 := hidd e2
  have ch2 := hS.hold k2 hk2
  obtain ⟨p3, q3⟩ := Sp.B_bd s (4 * i + 3)
  obtain ⟨k3, e3⟩ := Int.eq_ofNat_of_zero_le p3
  have hk3 : k3 < 128 := by omega
  have HE3 := hidd e3
  have ch3 := hS.hold k3 hk3
  have fh := hS.free (1 + k1)
  rw [e1, e2, e3, Int.toNat_natCast, Int.toNat_natCast, Int.toNat_natCast]
  obtain ⟨b2l, b2h⟩ := hok.hold k2
  obtain ⟨b3l, b3h⟩ := hok.hold k3
  obtain ⟨n1, n2, n3, n4, n5, n6, n7, n8, n9, n10, n11, n12⟩ := hob
  have j1 : (k1 : Int) < 128 := by omega
  have j2 : (k2 : Int) < 128 := by omega
  have j3 : (k3 : Int) < 128 := by omega
  clear e1 h1 p1 q1 e2 h2 p2 q2 e3 h3 p3 q3
  clear hS hi ho hok
  go_enter Tryd.func70, Tryd.ntmps70
  go_wp2_with fail
  go_quiet ((go_at_call 35; exact quiet_eq (at_any _ _ _ hs' (by omega) (by omega))))
  simp only [Int.toNat_natCast]
  obtain ⟨x, hxe⟩ : ∃ x, s.extract (4 * i) (4 * i + 4) = x := ⟨_, rfl⟩
  rw [hxe]
  have hx := HX.out
  rw [hxe] at hx
  have hxs := hx.size
  have g0 := hx.get0 (by omega)
  have g1 := hx.get 1 (by omega)
  have g2 := hx.get 2 (by omega)
  have g3 := hx.get 3 (by omega)
  rw [HO.out] at g0
  rw [HE1.out] at g1
  rw [HE2.out] at g2
  rw [HE3.out] at g3
  clear hxe hx HX
  go_wp2_with fail
  obtain ⟨W, hW⟩ : ∃ W, (w.drewN nq).setCell ⟨b, 129, none⟩ (.int .i64 ((i : Int) + 1)) = W := ⟨_, rfl⟩
  rw [hW]
  have HW : StAt W b s { st with next := i + 1 } := by rw [← hW]; exact ((HS.out.drewN _).setNext _)
  have HB : But w.heap.size b w W := by rw [← hW]; exact ⟨rfl, rfl, rfl, by simp [World.setCell], fun k _ hk => by rw [set_other hk]; rfl⟩
  have HWH := hidd HW
  have HBH := hidd HB
  have d1 := HW.hold k1 hk1
  have d2 := HW.hold k2 hk2
  have d3 := HW.hold k3 hk3
  have fd := HW.free (1 + k1)
  clear HW HB hW HS HO HOK HE1 HE2 HE3 htr hin hs cs cn fn fh ch1 ch2 ch3 n1 n2 n3 n4 n5 n6 n7 n8 n9 n10 n11 n12
  refine wp_region_noPanic ?_
  refine wp_region_any (by kernel_rfl) ?_
  show wpAny _ _ _ _ _ _ _ W.drew
  have d1' : W.drew.cell? ⟨b, 1 + k1, none⟩ = some (.int .i64 (st.hold k1)) := d1
  have d2' : W.drew.cell? ⟨b, 1 + k2, none⟩ = some (.int .i64 (st.hold k2)) := d2
  have d3' : W.drew.cell? ⟨b, 1 + k3, none⟩ = some (.int .i64 (st.hold k3)) := d3
  have fd' : W.drew.frozen? ⟨b, 1 + k1, none⟩ = false := fd
  have HWD : Hid (StAt W.drew b s { st with next := i + 1 }) := hid (HWH.out.of_block rfl)
  have HBD : Hid (But w.heap.size b w W.drew) := hid HBH.out.drew
  clear d1 d2 d3 fd HWH HBH
  generalize W.drew = V at *
  refine wpAny_take (i := 0) (oi := { dst := some 23, op := Op.move (Operand.tmp 0), type := 66, pos := "run.go:143", after := #[], guard := none }) (v := ?_) rfl (by kernel_rfl) (by kernel_rfl) (by kernel_rfl) (fun _ _ _ h => h) (Or.inl ⟨by rfl, ?_⟩) ?_
  rotate_left 1
  · intro w
    go_simp
    try with_reducible rfl
  simp only [Act.put, List.setIfInBounds_toArray, List.set_cons_zero, List.set_cons_succ]
  refine wpAny_take (i := 1) (oi := { dst := some 24, op := Op.move (Operand.tmp 3), type := 9, pos := "run.go:143", after := #[], guard := none }) (v := ?_) rfl (by kernel_rfl) (by kernel_rfl) (by kernel_rfl) (fun _ _ _ h => h) (Or.inl ⟨by rfl, ?_⟩) ?_
  rotate_left 1
  · intro w
    go_simp
    try with_reducible rfl
  simp only [Act.put, List.setIfInBounds_toArray, List.set_cons_zero, List.set_cons_succ]
  refine wpAny_take (i := 2) (oi := { dst := some 25, op := Op.index 9 (Operand.tmp 24) (Operand.const (Value.int IntKind.i64 1)), type := 5, pos := "run.go:143", after := #[{ on := 1, ground := Ground.data }], guard := none }) (v := ?_) rfl (by kernel_rfl) (by kernel_rfl) (by kernel_rfl) (fun _ _ _ h => h) (Or.inl ⟨by rfl, ?_⟩) ?_
  rotate_left 1
  · intro w
    go_simp
    try with_reducible rfl
  simp only [Act.put, List.setIfInBounds_toArray, List.set_cons_zero, List.set_cons_succ]
  refine wpAny_take (i := 3) (oi := { dst := some 26, op := Op.move (Operand.tmp 3), type := 9, pos := "run.go:143", after := #[], guard := none }) (v := ?_) rfl (by kernel_rfl) (by kernel_rfl) (by kernel_rfl) (fun _ _ _ h => h) (Or.inl ⟨by rfl, ?_⟩) ?_
  rotate_left 1
  · intro w
    go_simp
    try with_reducible rfl
  simp only [Act.put, List.setIfInBounds_toArray, List.set_cons_zero, List.set_cons_succ]
  refine wpAny_take (i := 4) (oi := { dst := some 27, op := Op.index 9 (Operand.tmp 26) (Operand.const (Value.int IntKind.i64 0)), type := 5, pos := "run.go:143", after := #[{ on := 3, ground := Ground.data }], guard := none }) (v := ?_) rfl (by kernel_rfl) (by kernel_rfl) (by kernel_rfl) (fun _ _ _ h => h) (Or.inl ⟨by rfl, ?_⟩) ?_
  rotate_left 1
  · intro w
    go_simp
    try with_reducible rfl
  simp only [Act.put, List.setIfInBounds_toArray, List.set_cons_zero, List.set_cons_succ]
  refine wpAny_take (i := 5) (oi := { dst := some 28, op := Op.move (Operand.tmp 0), type := 66, pos := "run.go:143", after := #[], guard := none }) (v := ?_) rfl (by kernel_rfl) (by kernel_rfl) (by kernel_rfl) (fun _ _ _ h => h) (Or.inl ⟨by rfl, ?_⟩) ?_
  rotate_left 1
  · intro w
    go_simp
    try with_reducible rfl
  simp only [Act.put, List.setIfInBounds_toArray, List.set_cons_zero, List.set_cons_succ]
  refine wpAny_take (i := 6) (oi := { dst := some 29, op := Op.move (Operand.tmp 3), type := 9, pos := "run.go:143", after := #[], guard := none }) (v := ?_) rfl (by kernel_rfl) (by kernel_rfl) (by kernel_rfl) (fun _ _ _ h => h) (Or.inl ⟨by rfl, ?_⟩) ?_
  rotate_left 1
  · intro w
    go_simp
    try with_reducible rfl
  simp only [Act.put, List.setIfInBounds_toArray, List.set_cons_zero, List.set_cons_succ]
  refine wpAny_take (i := 7) (oi := { dst := some 30, op := Op.index 9 (Operand.tmp 29) (Operand.const (Value.int IntKind.i64 2)), type := 5, pos := "run.go:143", after := #[{ on := 6, ground := Ground.data }], guard := none }) (v := ?_) rfl (by kernel_rfl) (by kernel_rfl) (by kernel_rfl) (fun _ _ _ h => h) (Or.inl ⟨by rfl, ?_⟩) ?_
  rotate_left 1
  · intro w
    go_simp
    try with_reducible rfl
  simp only [Act.put, List.setIfInBounds_toArray, List.set_cons_zero, List.set_cons_succ]
  refine wpAny_take (i := 8) (oi := { dst := some 31, op := Op.nilCheck (Operand.tmp 28), type := 0, pos := "run.go:143", after := #[{ on := 5, ground := Ground.data }], guard := none }) (v := ?_) rfl (by kernel_rfl) (by kernel_rfl) (by kernel_rfl) (fun _ _ _ h => h) (Or.inl ⟨by rfl, ?_⟩) ?_
  rotate_left 1
  · intro w
    go_simp
    try with_reducible rfl
  simp only [Act.put, List.setIfInBounds_toArray, List.set_cons_zero, List.set_cons_succ]
  refine wpAny_take (i := 9) (oi := { dst := some 32, op := Op.fieldAddr 70 (Operand.tmp 31) 1, type := 0, pos := "run.go:143", after := #[{ on := 8, ground := Ground.data }], guard := none }) (v := ?_) rfl (by kernel_rfl) (by kernel_rfl) (by kernel_rfl) (fun _ _ _ h => h) (Or.inl ⟨by rfl, ?_⟩) ?_
  rotate_left 1
  · intro w
    go_simp
    try with_reducible rfl
  simp only [Act.put, List.setIfInBounds_toArray, List.set_cons_zero, List.set_cons_succ]
  refine wpAny_take (i := 10) (oi := { dst := some 33, op := Op.indexAddr 68 (Operand.tmp 32) (Operand.tmp 30), type := 0, pos := "run.go:143", after := #[{ on := 9, ground := Ground.data }, { on := 7, ground := Ground.data }], guard := none }) (v := ?_) rfl (by kernel_rfl) (by kernel_rfl) (by kernel_rfl) (fun _ _ _ h => h) (Or.inl ⟨by rfl, ?_⟩) ?_
  rotate_left 1
  · intro w
    go_simp
    try with_reducible rfl
  simp only [Act.put, List.setIfInBounds_toArray, List.set_cons_zero, List.set_cons_succ]
  refine wpAny_take (i := 12) (oi := { dst := some 35, op := Op.move (Operand.tmp 0), type := 66, pos := "run.go:143", after := #[], guard := none }) (v := ?_) rfl (by kernel_rfl) (by kernel_rfl) (by kernel_rfl) (fun _ _ _ h => h) (Or.inl ⟨by rfl, ?_⟩) ?_
  rotate_left 1
  · intro w
    go_simp
    try with_reducible rfl
  simp only [Act.put, List.setIfInBounds_toArray, List.set_cons_zero, List.set_cons_succ]
  refine wpAny_take (i := 13) (oi := { dst := some 36, op := Op.move (Operand.tmp 3), type := 9, pos := "run.go:143", after := #[], guard := none }) (v := ?_) rfl (by kernel_rfl) (by kernel_rfl) (by kernel_rfl) (fun _ _ _ h => h) (Or.inl ⟨by rfl, ?_⟩) ?_
  rotate_left 1
  · intro w
    go_simp
    try with_reducible rfl
  simp only [Act.put, List.setIfInBounds_toArray, List.set_cons_zero, List.set_cons_succ]
  refine wpAny_take (i := 14) (oi := { dst := some 37, op := Op.index 9 (Operand.tmp 36) (Operand.const (Value.int IntKind.i64 3)), type := 5, pos := "run.go:143", after := #[{ on := 13, ground := Ground.data }], guard := none }) (v := ?_) rfl (by kernel_rfl) (by kernel_rfl) (by kernel_rfl) (fun _ _ _ h => h) (Or.inl ⟨by rfl, ?_⟩) ?_
  rotate_left 1
  · intro w
    go_simp
    try with_reducible rfl
  simp only [Act.put, List.setIfInBounds_toArray, List.set_cons_zero, List.set_cons_succ]
  refine wpAny_take (i := 15) (oi := { dst := some 38, op := Op.nilCheck (Operand.tmp 35), type := 0, pos := "run.go:143", after := #[{ on := 12, ground := Ground.data }], guard := none }) (v := ?_) rfl (by kernel_rfl) (by kernel_rfl) (by kernel_rfl) (fun _ _ _ h => h) (Or.inl ⟨by rfl, ?_⟩) ?_
  rotate_left 1
  · intro w
    go_simp
    try with_reducible rfl
  simp only [Act.put, List.setIfInBounds_toArray, List.set_cons_zero, List.set_cons_succ]
  refine wpAny_take (i := 16) (oi := { dst := some 39, op := Op.fieldAddr 70 (Operand.tmp 38) 1, type := 0, pos := "run.go:143", after := #[{ on := 15, ground := Ground.data }], guard := none }) (v := ?_) rfl (by kernel_rfl) (by kernel_rfl) (by kernel_rfl) (fun _ _ _ h => h) (Or.inl ⟨by rfl, ?_⟩) ?_
  rotate_left 1
  · intro w
    go_simp
    try with_reducible rfl
  simp only [Act.put, List.setIfInBounds_toArray, List.set_cons_zero, List.set_cons_succ]
  refine wpAny_take (i := 17) (oi := { dst := some 40, op := Op.indexAddr 68 (Operand.tmp 39) (Operand.tmp 37), type := 0, pos := "run.go:143", after := #[{ on := 16, ground := Ground.data }, { on := 14, ground := Ground.data }], guard := none }) (v := ?_) rfl (by kernel_rfl) (by kernel_rfl) (by kernel_rfl) (fun _ _ _ h => h) (Or.inl ⟨by rfl, ?_⟩) ?_
  rotate_left 1
  · intro w
    go_simp
    try with_reducible rfl
  simp only [Act.put, List.setIfInBounds_toArray, List.set_cons_zero, List.set_cons_succ]
  refine wpAny_take (i := 20) (oi := { dst := some 43, op := Op.nilCheck (Operand.tmp 23), type := 0, pos := "run.go:143", after := #[{ on := 0, ground := Ground.data }], guard := none }) (v := ?_) rfl (by kernel_rfl) (by kernel_rfl) (by kernel_rfl) (fun _ _ _ h => h) (Or.inl ⟨by rfl, ?_⟩) ?_
  rotate_left 1
  · intro w
    go_simp
    try with_reducible rfl
  simp only [Act.put, List.setIfInBounds_toArray, List.set_cons_zero, List.set_cons_succ]
  refine wpAny_take (i := 21) (oi := { dst := some 44, op := Op.fieldAddr 70 (Operand.tmp 43) 1, type := 0, pos := "run.go:143", after := #[{ on := 20, ground := Ground.data }], guard := none }) (v := ?_) rfl (by kernel_rfl) (by kernel_rfl) (by kernel_rfl) (fun _ _ _ h => h) (Or.inl ⟨by rfl, ?_⟩) ?_
  rotate_left 1
  · intro w
    go_simp
    try with_reducible rfl
  simp only [Act.put, List.setIfInBounds_toArray, List.set_cons_zero, List.set_cons_succ]
  refine wpAny_ready (rs := [11, 18]) (by kernel_rfl) (by simp) ?_
  refine AllReady.cons (o := { dst := some 34, op := Op.load 3 (Operand.tmp 33), type := 3, pos := "run.go:143", after := #[{ on := 10, ground := Ground.data }], guard := none }) rfl (fun K hK => ?_) (AllReady.cons (o := { dst := some 41, op := Op.load 3 (Operand.tmp 40), type := 3, pos := "run.go:143", after := #[{ on := 17, ground := Ground.data }], guard := none }) rfl (fun K hK => ?_) AllReady.nil)
  · rw [if_pos (by rfl)]
    go_simp
    apply hK
    try simp only [Act.put, List.setIfInBounds_toArray, List.set_cons_zero, List.set_cons_succ]
    clear hK
    refine wpAny_ready (rs := [18]) (by kernel_rfl) (by simp) ?_
    refine AllReady.cons (o := { dst := some 41, op := Op.load 3 (Operand.tmp 40), type := 3, pos := "run.go:143", after := #[{ on := 17, ground := Ground.data }], guard := none }) rfl (fun K hK => ?_) AllReady.nil
    rw [if_pos (by rfl)]
    go_simp
    apply hK
    try simp only [Act.put, List.setIfInBounds_toArray, List.set_cons_zero, List.set_cons_succ]
    clear hK
    refine wpAny_ready (rs := [19]) (by kernel_rfl) (by simp) ?_
    refine AllReady.cons (o := { dst := some 42, op := Op.call { callee := Callee.value (Operand.func 98), args := #[Operand.tmp 27, Operand.tmp 34, Operand.tmp 41], argTypes := #[5, 3, 3] }, type := 3, pos := "run.go:143", after := #[{ on := 4, ground := Ground.data }, { on := 11, ground := Ground.data }, { on := 18, ground := Ground.data }], guard := none }) rfl (fun K hK => ?_) AllReady.nil
    rw [if_pos (by rfl)]
    go_simp
    go_at_call 98
    refine (counted_any _ _ _ _ b2l b2h b3l b3h).mono ?_
    rintro e w' ⟨rfl, rfl⟩
    apply hK
    try simp only [Act.put, List.setIfInBounds_toArray, List.set_cons_zero, List.set_cons_succ]
    clear hK
    refine wpAny_take (i := 22) (oi := { dst := some 45, op := Op.indexAddr 68 (Operand.tmp 44) (Operand.tmp 25), type := 0, pos := "run.go:143", after := #[{ on := 21, ground := Ground.data }, { on := 2, ground := Ground.data }, { on := 0, ground := Ground.phase }, { on := 1, ground := Ground.phase }, { on := 2, ground := Ground.phase }, { on := 3, ground := Ground.phase }, { on := 4, ground := Ground.phase }, { on := 5, ground := Ground.phase }, { on := 6, ground := Ground.phase }, { on := 7, ground := Ground.phase }, { on := 8, ground := Ground.phase }, { on := 9, ground := Ground.phase }, { on := 10, ground := Ground.phase }, { on := 11, ground := Ground.phase }, { on := 12, ground := Ground.phase }, { on := 13, ground := Ground.phase }, { on := 14, ground := Ground.phase }, { on := 15, ground := Ground.phase }, { on := 16, ground := Ground.phase }, { on := 17, ground := Ground.phase }, { on := 18, ground := Ground.phase }, { on := 19, ground := Ground.phase }], guard := none }) (v := ?_) rfl (by kernel_rfl) (by kernel_rfl) (by kernel_rfl) (fun _ _ _ h => h) (Or.inl ⟨by rfl, ?_⟩) ?_
    rotate_left 1
    · intro w
      go_simp
      try with_reducible rfl
    simp only [Act.put, List.setIfInBounds_toArray, List.set_cons_zero, List.set_cons_succ]
    refine wpAny_ready (rs := [23]) (by kernel_rfl) (by simp) ?_
    refine AllReady.cons (o := { dst := none, op := Op.store 3 (Operand.tmp 45) (Operand.tmp 42), type := 0, pos := "run.go:143", after := #[{ on := 22, ground := Ground.data }, { on := 19, ground := Ground.data }, { on := 19, ground := Ground.chain }, { on := 0, ground := Ground.phase }, { on := 1, ground := Ground.phase }, { on := 2, ground := Ground.phase }, { on := 3, ground := Ground.phase }, { on := 4, ground := Ground.phase }, { on := 5, ground := Ground.phase }, { on := 6, ground := Ground.phase }, { on := 7, ground := Ground.phase }, { on := 8, ground := Ground.phase }, { on := 9, ground := Ground.phase }, { on := 10, ground := Ground.phase }, { on := 11, ground := Ground.phase }, { on := 12, ground := Ground.phase }, { on := 13, ground := Ground.phase }, { on := 14, ground := Ground.phase }, { on := 15, ground := Ground.phase }, { on := 16, ground := Ground.phase }, { on := 17, ground := Ground.phase }, { on := 18, ground := Ground.phase }, { on := 19, ground := Ground.phase }], guard := none }) rfl (fun K hK => ?_) AllReady.nil
    rw [if_pos (by rfl)]
    go_simp
    apply hK
    try simp only [Act.put, List.setIfInBounds_toArray, List.set_cons_zero, List.set_cons_succ]
    clear hK
    refine wpAny_done (by kernel_rfl) ?_ _
    refine NoPanic.normal ?_
    go_wp2_with fail
    go_ret
    refine ⟨rfl, ?_, ?_⟩
    · exact HWD.out.setHold k1 hk1 _
    · exact HBD.out.trans (But.set _ _)

  · rw [if_pos (by rfl)]
    go_simp
    apply hK
    try simp only [Act.put, List.setIfInBounds_toArray, List.set_cons_zero, List.set_cons_succ]
    clear hK
    refine wpAny_ready (rs := [11]) (by kernel_rfl) (by simp) ?_
    refine AllReady.cons (o := { dst := some 34, op := Op.load 3 (Operand.tmp 33), type := 3, pos := "run.go:143", after := #[{ on := 10, ground := Ground.data }], guard := none }) rfl (fun K hK => ?_) AllReady.nil
    rw [if_pos (by rfl)]
    go_simp
    apply hK
    try simp only [Act.put, List.setIfInBounds_toArray, List.set_cons_zero, List.set_cons_succ]
    clear hK
    refine wpAny_ready (rs := [19]) (by kernel_rfl) (by simp) ?_
    refine AllReady.cons (o := { dst := some 42, op := Op.call { callee := Callee.value (Operand.func 98), args := #[Operand.tmp 27, Operand.tmp 34, Operand.tmp 41], argTypes := #[5, 3, 3] }, type := 3, pos := "run.go:143", after := #[{ on := 4, ground := Ground.data }, { on := 11, ground := Ground.data }, { on := 18, ground := Ground.data }], guard := none }) rfl (fun K hK => ?_) AllReady.nil
    rw [if_pos (by rfl)]
    go_simp
    go_at_call 98
    refine (counted_any _ _ _ _ b2l b2h b3l b3h).mono ?_
    rintro e w' ⟨rfl, rfl⟩
    apply hK
    try simp only [Act.put, List.setIfInBounds_toArray, List.set_cons_zero, List.set_cons_succ]
    clear hK
    refine wpAny_take (i := 22) (oi := { dst := some 45, op := Op.indexAddr 68 (Operand.tmp 44) (Operand.tmp 25), type := 0, pos := "run.go:143", after := #[{ on := 21, ground := Ground.data }, { on := 2, ground := Ground.data }, { on := 0, ground := Ground.phase }, { on := 1, ground := Ground.phase }, { on := 2, ground := Ground.phase }, { on := 3, ground := Ground.phase }, { on := 4, ground := Ground.phase }, { on := 5, ground := Ground.phase }, { on := 6, ground := Ground.phase }, { on := 7, ground := Ground.phase }, { on := 8, ground := Ground.phase }, { on := 9, ground := Ground.phase }, { on := 10, ground := Ground.phase }, { on := 11, ground := Ground.phase }, { on := 12, ground := Ground.phase }, { on := 13, ground := Ground.phase }, { on := 14, ground := Ground.phase }, { on := 15, ground := Ground.phase }, { on := 16, ground := Ground.phase }, { on := 17, ground := Ground.phase }, { on := 18, ground := Ground.phase }, { on := 19, ground := Ground.phase }], guard := none }) (v := ?_) rfl (by kernel_rfl) (by kernel_rfl) (by kernel_rfl) (fun _ _ _ h => h) (Or.inl ⟨by rfl, ?_⟩) ?_
    rotate_left 1
    · intro w
      go_simp
      try with_reducible rfl
    simp only [Act.put, List.setIfInBounds_toArray, List.set_cons_zero, List.set_cons_succ]
    refine wpAny_ready (rs := [23]) (by kernel_rfl) (by simp) ?_
    refine AllReady.cons (o := { dst := none, op := Op.store 3 (Operand.tmp 45) (Operand.tmp 42), type := 0, pos := "run.go:143", after := #[{ on := 22, ground := Ground.data }, { on := 19, ground := Ground.data }, { on := 19, ground := Ground.chain }, { on := 0, ground := Ground.phase }, { on := 1, ground := Ground.phase }, { on := 2, ground := Ground.phase }, { on := 3, ground := Ground.phase }, { on := 4, ground := Ground.phase }, { on := 5, ground := Ground.phase }, { on := 6, ground := Ground.phase }, { on := 7, ground := Ground.phase }, { on := 8, ground := Ground.phase }, { on := 9, ground := Ground.phase }, { on := 10, ground := Ground.phase }, { on := 11, ground := Ground.phase }, { on := 12, ground := Ground.phase }, { on := 13, ground := Ground.phase }, { on := 14, ground := Ground.phase }, { on := 15, ground := Ground.phase }, { on := 16, ground := Ground.phase }, { on := 17, ground := Ground.phase }, { on := 18, ground := Ground.phase }, { on := 19, ground := Ground.phase }], guard := none }) rfl (fun K hK => ?_) AllReady.nil
    rw [if_pos (by rfl)]
    go_simp
    apply hK
    try simp only [Act.put, List.setIfInBounds_toArray, List.set_cons_zero, List.set_cons_succ]
    clear hK
    refine wpAny_done (by kernel_rfl) ?_ _
    refine NoPanic.normal ?_
    go_wp2_with fail
    go_ret
    refine ⟨rfl, ?_, ?_⟩
    · exact HWD.out.setHold k1 hk1 _
    · exact HBD.out.trans (But.set _ _)

end Go.Proofs.YtccndnckceagfaaDoorR
