/- ShaTrees returns true for any text and any two digests. -/
import Derived.Test.YthkmhfpihkjhnaaDoorSumx
import Derived.Test.YthkmhfpihkjhnaaDoorEqs
import Derived.Test.YthkmhfpihkjhnaaDoorRefLeafs
namespace Go.Proofs.YthkmhfpihkjhnaaDoor
open Go.RowKit Sums
set_option linter.unusedVariables false
set_option linter.unusedSimpArgs false

set_option maxHeartbeats 1000000 in
theorem shaTrees_long (s : ByteArray) (A B : Array Value) (w : World) (hs : s.size ≤ maxLen) (h : (65536 : Int) < (s.size : Int)) :
    Calls Tryd.prog 5 #[.string s, .agg A, .agg B] w fun e w' => e = .returned (.bool true) ∧ Below w.heap.size w w' := by
  unfold maxLen at hs
  go_enter Tryd.func5, Tryd.ntmps5
  go_wp2
  go_ret
  exact ⟨rfl, ((Below.refl _ _).alloc (Nat.le_refl _) _).alloc (by simp) _⟩

set_option maxHeartbeats 4000000 in
set_option maxRecDepth 100000 in
theorem shaTrees_rest (s : ByteArray) (l r : List UInt8) (hl : l.length = 32) (hr : r.length = 32) (w : World) (hs : s.size ≤ 65536) (hC : Table 1 w) (hK : Table 0 w) :
    Calls Tryd.prog 5 #[.string s, .agg (cellsOf l).toArray, .agg (cellsOf r).toArray] w fun e w' => e = .returned (.bool true) ∧ Below w.heap.size w w' := by
  obtain ⟨D1, HD1⟩ : ∃ D, Hid (D = (cellsOf (sumD (0 :: s.data.toList))).toArray) := ⟨_, (rfl : (cellsOf (sumD (0 :: s.data.toList))).toArray = _)⟩
  obtain ⟨D2, HD2⟩ : ∃ D, Hid (D = (cellsOf (sumD (1 :: (l ++ r)))).toArray) := ⟨_, (rfl : (cellsOf (sumD (1 :: (l ++ r)))).toArray = _)⟩
  obtain ⟨D3, HD3⟩ : ∃ D, Hid (D = (cellsOf (sumD [])).toArray) := ⟨_, (rfl : (cellsOf (sumD [])).toArray = _)⟩
  obtain ⟨A, HAL⟩ : ∃ A, Hid (A = cellsOf l) := ⟨_, (rfl : cellsOf l = _)⟩
  obtain ⟨B, HBR⟩ : ∃ B, Hid (B = cellsOf r) := ⟨_, (rfl : cellsOf r = _)⟩
  have HT : Hid (∀ W, Below w.heap.size w W → Table 0 W) := fun W hb => hK.keep hb
  have HC : Hid (∀ W, Below w.heap.size w W → Table 1 W) := fun W hb => hC.keep hb
  have K0 : Hid (∀ W, Below w.heap.size w W → Calls Tryd.prog 8 #[] W fun e w' => e = .returned (.bool true) ∧ Below W.heap.size W w') := fun W hb => sums_true W (HT.out W hb)
  have K3 : Hid (∀ W, Below w.heap.size w W → Calls Tryd.prog 12 #[.string s] W fun e w' => e = .returned (.agg D1) ∧ Below W.heap.size W w') := fun W hb => leaf_any s W (by omega) (HT.out W hb) D1 HD1
  have K5 : Hid (∀ W, Below w.heap.size w W → Calls Tryd.prog 13 #[.string s] W fun e w' => e = .returned (.agg D1) ∧ Below W.heap.size W w') := fun W hb => refLeaf_any s W (by omega) (HC.out W hb) D1 HD1
  have K11 : Hid (∀ W, Below w.heap.size w W → Calls Tryd.prog 14 #[.agg A.toArray, .agg B.toArray] W fun e w' => e = .returned (.agg D2) ∧ Below W.heap.size W w') := fun W hb => by
    rw [HAL.out, HBR.out]; exact knot_any l r hl hr W (HT.out W hb) D2 HD2
  have K14 : Hid (∀ W, Below w.heap.size w W → Calls Tryd.prog 15 #[.agg A.toArray, .agg B.toArray] W fun e w' => e = .returned (.agg D2) ∧ Below W.heap.size W w') := fun W hb => by
    rw [HAL.out, HBR.out]; exact refKnot_any l r hl hr W (HC.out W hb) D2 HD2
  have K18 : Hid (∀ W, Below w.heap.size w W → Calls Tryd.prog 11 #[] W fun e w' => e = .returned (.agg D3) ∧ Below W.heap.size W w') := fun W hb => empty_any W (HT.out W hb) D3 HD3
  have K19 : Hid (∀ W, Below w.heap.size w W → Calls Tryd.prog 10 #[.string ⟨#[]⟩] W fun e w' => e = .returned (.agg D3) ∧ Below W.heap.size W w') := fun W hb => refSum_any ⟨#[]⟩ W (by show 0 ≤ 1000000; omega) (HC.out W hb) D3 HD3
  have e1 := eqSelf D1 _ (sumD_length _) HD1
  have e2 := eqSelf D2 _ (sumD_length _) HD2
  have e3 := eqSelf D3 _ (sumD_length _) HD3
  have z0 : (Tryd.prog.info? 27).map (·.size) = some A.length := by rw [size23, HAL.out, cellsOf_length, hl]
  have z1 : (Tryd.prog.info? 27).map (·.size) = some B.length := by rw [size23, HBR.out, cellsOf_length, hr]
  rw [← HAL.out, ← HBR.out]
  clear hK hC
  go_enter Tryd.func5, Tryd.ntmps5
  go_wp2_with fail
  obtain ⟨w0, hw0⟩ : ∃ w0, w0 = (w.alloc (.cells A.toArray 27)).alloc (.cells B.toArray 27) := ⟨_, rfl⟩
  have hS : w0.rangeAt w.heap.size 0 A ∧ w0.rangeAt (w.heap.size + 1) 0 B ∧ Below w.heap.size w w0 := by
    rw [hw0]
    exact ⟨range_row (heap_alloc2_old w _ _), range_row (heap_alloc2_new w _ _), ((Below.refl _ _).alloc (Nat.le_refl _) _).alloc (by simp) _⟩
  rw [← hw0]
  clear hw0
  refine wp_region_held_drew (S := (fun W => W.rangeAt w.heap.size 0 A ∧ W.rangeAt (w.heap.size + 1) 0 B ∧ Below w.heap.size w W)) (by kernel_rfl) (keep2 (Below.refl _ _).drew hS) (fun hHeld => ?_)
  refine wpAnyH_ready (rs := [0]) (by kernel_rfl) (by simp) ?_
  refine (AllReadyH.cons (o := { dst := some 10, op := Op.call { callee := Callee.value (Operand.func 8), args := #[], argTypes := #[] }, type := 4, pos := "law.go:58", after := #[], guard := none }) rfl (fun K hK => ?_) AllReadyH.nil)
  go_simp
  refine (K0.out _ hHeld.2.2).mono ?_
  rintro e w0 ⟨rfl, hb0⟩
  go_wp2_with fail
  refine hK.out _ _ (keep2 hb0 hHeld) (fun hHeld => ?_)
  clear hK K
  try simp only [Act.put, List.setIfInBounds_toArray, List.set_cons_zero, List.set_cons_succ]
  refine wpAnyH_take (i := 1) (oi := { dst := some 11, op := Op.move (Operand.tmp 10), type := 4, pos := "law.go:58", after := #[{ on := 0, ground := Ground.data }, { on := 0, ground := Ground.chain }], guard := none }) (v := .bool true) rfl (by kernel_rfl) (by kernel_rfl) (by kernel_rfl) (fun _ _ _ h => h) (Or.inl ⟨by rfl, by intro W hSw; go_simp⟩) hHeld ?_
  try simp only [Act.put, List.setIfInBounds_toArray, List.set_cons_zero, List.set_cons_succ]
  refine wpAnyH_take (i := 2) (oi := { dst := some 12, op := Op.move (Operand.tmp 0), type := 9, pos := "law.go:58", after := #[{ on := 1, ground := Ground.guard }], guard := some (1, true) }) (v := .string s) rfl (by kernel_rfl) (by kernel_rfl) (by kernel_rfl) (fun _ _ _ h => h) (Or.inl ⟨by rfl, by intro W hSw; go_simp⟩) hHeld ?_
  try simp only [Act.put, List.setIfInBounds_toArray, List.set_cons_zero, List.set_cons_succ]
  refine wpAnyH_take (i := 4) (oi := { dst := some 14, op := Op.move (Operand.tmp 0), type := 9, pos := "law.go:58", after := #[{ on := 1, ground := Ground.guard }], guard := some (1, true) }) (v := .string s) rfl (by kernel_rfl) (by kernel_rfl) (by kernel_rfl) (fun _ _ _ h => h) (Or.inl ⟨by rfl, by intro W hSw; go_simp⟩) hHeld ?_
  try simp only [Act.put, List.setIfInBounds_toArray, List.set_cons_zero, List.set_cons_succ]
  refine wpAnyH_ready (rs := [3]) (by kernel_rfl) (by simp) ?_
  refine (AllReadyH.cons (o := { dst := some 13, op := Op.call { callee := Callee.value (Operand.func 12), args := #[Operand.tmp 12], argTypes := #[9] }, type := 27, pos := "law.go:58", after := #[{ on := 2, ground := Ground.data }, { on := 1, ground := Ground.chain }, { on := 1, ground := Ground.guard }], guard := some (1, true) }) rfl (fun K hK => ?_) AllReadyH.nil)
  go_simp
  refine (K3.out _ hHeld.2.2).mono ?_
  rintro e w3 ⟨rfl, hb3⟩
  go_wp2_with fail
  refine hK.out _ _ (keep2 hb3 hHeld) (fun hHeld => ?_)
  clear hK K
  try simp only [Act.put, List.setIfInBounds_toArray, List.set_cons_zero, List.set_cons_succ]
  refine wpAnyH_ready (rs := [5]) (by kernel_rfl) (by simp) ?_
  refine (AllReadyH.cons (o := { dst := some 15, op := Op.call { callee := Callee.value (Operand.func 13), args := #[Operand.tmp 14], argTypes := #[9] }, type := 27, pos := "law.go:58", after := #[{ on := 4, ground := Ground.data }, { on := 3, ground := Ground.chain }, { on := 1, ground := Ground.guard }], guard := some (1, true) }) rfl (fun K hK => ?_) AllReadyH.nil)
  go_simp
  refine (K5.out _ hHeld.2.2).mono ?_
  rintro e w5 ⟨rfl, hb5⟩
  go_wp2_with fail
  refine hK.out _ _ (keep2 hb5 hHeld) (fun hHeld => ?_)
  clear hK K
  try simp only [Act.put, List.setIfInBounds_toArray, List.set_cons_zero, List.set_cons_succ]
  refine wpAnyH_take (i := 6) (oi := { dst := some 16, op := Op.binOp BinOp.eql 27 (Operand.tmp 13) (Operand.tmp 15) 27, type := 4, pos := "law.go:58", after := #[{ on := 3, ground := Ground.data }, { on := 5, ground := Ground.data }, { on := 1, ground := Ground.guard }], guard := some (1, true) }) (v := .bool true) rfl (by kernel_rfl) (by kernel_rfl) (by kernel_rfl) (fun _ _ _ h => h) (Or.inl ⟨by rfl, by intro W hSw; go_simp⟩) hHeld ?_
  try simp only [Act.put, List.setIfInBounds_toArray, List.set_cons_zero, List.set_cons_succ]
  refine wpAnyH_take (i := 7) (oi := { dst := some 17, op := Op.pick (Operand.tmp 11) (Operand.tmp 16) (Operand.const (Value.bool false)), type := 4, pos := "law.go:58", after := #[{ on := 1, ground := Ground.data }, { on := 6, ground := Ground.data }], guard := none }) (v := .bool true) rfl (by kernel_rfl) (by kernel_rfl) (by kernel_rfl) (fun _ _ _ h => h) (Or.inl ⟨by rfl, by intro W hSw; go_simp⟩) hHeld ?_
  try simp only [Act.put, List.setIfInBounds_toArray, List.set_cons_zero, List.set_cons_succ]
  refine wpAnyH_take (i := 8) (oi := { dst := some 18, op := Op.move (Operand.tmp 17), type := 4, pos := "law.go:58", after := #[{ on := 7, ground := Ground.data }, { on := 5, ground := Ground.chain }], guard := none }) (v := .bool true) rfl (by kernel_rfl) (by kernel_rfl) (by kernel_rfl) (fun _ _ _ h => h) (Or.inl ⟨by rfl, by intro W hSw; go_simp⟩) hHeld ?_
  try simp only [Act.put, List.setIfInBounds_toArray, List.set_cons_zero, List.set_cons_succ]
  refine wpAnyH_take (i := 9) (oi := { dst := some 19, op := Op.load 27 (Operand.tmp 4), type := 27, pos := "law.go:58", after := #[{ on := 8, ground := Ground.guard }], guard := some (8, true) }) (v := .agg A.toArray) rfl (by kernel_rfl) (by kernel_rfl) (by kernel_rfl) (fun _ _ _ h => h) (yieldsIf_load_mid (by rfl) 27 (.tmp 4) rfl _ 0 rfl A _ (fun _ h => h.1) Tryd.underlying27 rfl z0) hHeld ?_
  try simp only [Act.put, List.setIfInBounds_toArray, List.set_cons_zero, List.set_cons_succ]
  refine wpAnyH_take (i := 10) (oi := { dst := some 20, op := Op.load 27 (Operand.tmp 5), type := 27, pos := "law.go:58", after := #[{ on := 8, ground := Ground.guard }], guard := some (8, true) }) (v := .agg B.toArray) rfl (by kernel_rfl) (by kernel_rfl) (by kernel_rfl) (fun _ _ _ h => h) (yieldsIf_load_mid (by rfl) 27 (.tmp 5) rfl _ 0 rfl B _ (fun _ h => h.2.1) Tryd.underlying27 rfl z1) hHeld ?_
  try simp only [Act.put, List.setIfInBounds_toArray, List.set_cons_zero, List.set_cons_succ]
  refine wpAnyH_take (i := 12) (oi := { dst := some 22, op := Op.load 27 (Operand.tmp 4), type := 27, pos := "law.go:58", after := #[{ on := 8, ground := Ground.guard }], guard := some (8, true) }) (v := .agg A.toArray) rfl (by kernel_rfl) (by kernel_rfl) (by kernel_rfl) (fun _ _ _ h => h) (yieldsIf_load_mid (by rfl) 27 (.tmp 4) rfl _ 0 rfl A _ (fun _ h => h.1) Tryd.underlying27 rfl z0) hHeld ?_
  try simp only [Act.put, List.setIfInBounds_toArray, List.set_cons_zero, List.set_cons_succ]
  refine wpAnyH_take (i := 13) (oi := { dst := some 23, op := Op.load 27 (Operand.tmp 5), type := 27, pos := "law.go:58", after := #[{ on := 8, ground := Ground.guard }], guard := some (8, true) }) (v := .agg B.toArray) rfl (by kernel_rfl) (by kernel_rfl) (by kernel_rfl) (fun _ _ _ h => h) (yieldsIf_load_mid (by rfl) 27 (.tmp 5) rfl _ 0 rfl B _ (fun _ h => h.2.1) Tryd.underlying27 rfl z1) hHeld ?_
  try simp only [Act.put, List.setIfInBounds_toArray, List.set_cons_zero, List.set_cons_succ]
  refine wpAnyH_ready (rs := [11]) (by kernel_rfl) (by simp) ?_
  refine (AllReadyH.cons (o := { dst := some 21, op := Op.call { callee := Callee.value (Operand.func 14), args := #[Operand.tmp 19, Operand.tmp 20], argTypes := #[27, 27] }, type := 27, pos := "law.go:58", after := #[{ on := 9, ground := Ground.data }, { on := 10, ground := Ground.data }, { on := 8, ground := Ground.chain }, { on := 8, ground := Ground.guard }], guard := some (8, true) }) rfl (fun K hK => ?_) AllReadyH.nil)
  go_simp
  refine (K11.out _ hHeld.2.2).mono ?_
  rintro e w11 ⟨rfl, hb11⟩
  go_wp2_with fail
  refine hK.out _ _ (keep2 hb11 hHeld) (fun hHeld => ?_)
  clear hK K
  try simp only [Act.put, List.setIfInBounds_toArray, List.set_cons_zero, List.set_cons_succ]
  refine wpAnyH_ready (rs := [14]) (by kernel_rfl) (by simp) ?_
  refine (AllReadyH.cons (o := { dst := some 24, op := Op.call { callee := Callee.value (Operand.func 15), args := #[Operand.tmp 22, Operand.tmp 23], argTypes := #[27, 27] }, type := 27, pos := "law.go:58", after := #[{ on := 12, ground := Ground.data }, { on := 13, ground := Ground.data }, { on := 11, ground := Ground.chain }, { on := 8, ground := Ground.guard }], guard := some (8, true) }) rfl (fun K hK => ?_) AllReadyH.nil)
  go_simp
  refine (K14.out _ hHeld.2.2).mono ?_
  rintro e w14 ⟨rfl, hb14⟩
  go_wp2_with fail
  refine hK.out _ _ (keep2 hb14 hHeld) (fun hHeld => ?_)
  clear hK K
  try simp only [Act.put, List.setIfInBounds_toArray, List.set_cons_zero, List.set_cons_succ]
  refine wpAnyH_take (i := 15) (oi := { dst := some 25, op := Op.binOp BinOp.eql 27 (Operand.tmp 21) (Operand.tmp 24) 27, type := 4, pos := "law.go:58", after := #[{ on := 11, ground := Ground.data }, { on := 14, ground := Ground.data }, { on := 8, ground := Ground.guard }], guard := some (8, true) }) (v := .bool true) rfl (by kernel_rfl) (by kernel_rfl) (by kernel_rfl) (fun _ _ _ h => h) (Or.inl ⟨by rfl, by intro W hSw; go_simp⟩) hHeld ?_
  try simp only [Act.put, List.setIfInBounds_toArray, List.set_cons_zero, List.set_cons_succ]
  refine wpAnyH_take (i := 16) (oi := { dst := some 26, op := Op.pick (Operand.tmp 18) (Operand.tmp 25) (Operand.const (Value.bool false)), type := 4, pos := "law.go:58", after := #[{ on := 8, ground := Ground.data }, { on := 15, ground := Ground.data }], guard := none }) (v := .bool true) rfl (by kernel_rfl) (by kernel_rfl) (by kernel_rfl) (fun _ _ _ h => h) (Or.inl ⟨by rfl, by intro W hSw; go_simp⟩) hHeld ?_
  try simp only [Act.put, List.setIfInBounds_toArray, List.set_cons_zero, List.set_cons_succ]
  refine wpAnyH_take (i := 17) (oi := { dst := some 27, op := Op.move (Operand.tmp 26), type := 4, pos := "law.go:58", after := #[{ on := 16, ground := Ground.data }, { on := 14, ground := Ground.chain }], guard := none }) (v := .bool true) rfl (by kernel_rfl) (by kernel_rfl) (by kernel_rfl) (fun _ _ _ h => h) (Or.inl ⟨by rfl, by intro W hSw; go_simp⟩) hHeld ?_
  try simp only [Act.put, List.setIfInBounds_toArray, List.set_cons_zero, List.set_cons_succ]
  refine wpAnyH_ready (rs := [18]) (by kernel_rfl) (by simp) ?_
  refine (AllReadyH.cons (o := { dst := some 28, op := Op.call { callee := Callee.value (Operand.func 11), args := #[], argTypes := #[] }, type := 27, pos := "law.go:58", after := #[{ on := 17, ground := Ground.chain }, { on := 17, ground := Ground.guard }], guard := some (17, true) }) rfl (fun K hK => ?_) AllReadyH.nil)
  go_simp
  refine (K18.out _ hHeld.2.2).mono ?_
  rintro e w18 ⟨rfl, hb18⟩
  go_wp2_with fail
  refine hK.out _ _ (keep2 hb18 hHeld) (fun hHeld => ?_)
  clear hK K
  try simp only [Act.put, List.setIfInBounds_toArray, List.set_cons_zero, List.set_cons_succ]
  refine wpAnyH_ready (rs := [19]) (by kernel_rfl) (by simp) ?_
  refine (AllReadyH.cons (o := { dst := some 29, op := Op.call { callee := Callee.value (Operand.func 10), args := #[Operand.const (Value.string { data := #[] })], argTypes := #[9] }, type := 27, pos := "law.go:58", after := #[{ on := 18, ground := Ground.chain }, { on := 17, ground := Ground.guard }], guard := some (17, true) }) rfl (fun K hK => ?_) AllReadyH.nil)
  go_simp
  refine (K19.out _ hHeld.2.2).mono ?_
  rintro e w19 ⟨rfl, hb19⟩
  go_wp2_with fail
  refine hK.out _ _ (keep2 hb19 hHeld) (fun hHeld => ?_)
  clear hK K
  try simp only [Act.put, List.setIfInBounds_toArray, List.set_cons_zero, List.set_cons_succ]
  refine wpAnyH_take (i := 20) (oi := { dst := some 30, op := Op.binOp BinOp.eql 27 (Operand.tmp 28) (Operand.tmp 29) 27, type := 4, pos := "law.go:58", after := #[{ on := 18, ground := Ground.data }, { on := 19, ground := Ground.data }, { on := 17, ground := Ground.guard }], guard := some (17, true) }) (v := .bool true) rfl (by kernel_rfl) (by kernel_rfl) (by kernel_rfl) (fun _ _ _ h => h) (Or.inl ⟨by rfl, by intro W hSw; go_simp⟩) hHeld ?_
  try simp only [Act.put, List.setIfInBounds_toArray, List.set_cons_zero, List.set_cons_succ]
  refine wpAnyH_take (i := 21) (oi := { dst := some 31, op := Op.pick (Operand.tmp 27) (Operand.tmp 30) (Operand.const (Value.bool false)), type := 4, pos := "law.go:58", after := #[{ on := 17, ground := Ground.data }, { on := 20, ground := Ground.data }], guard := none }) (v := .bool true) rfl (by kernel_rfl) (by kernel_rfl) (by kernel_rfl) (fun _ _ _ h => h) (Or.inl ⟨by rfl, by intro W hSw; go_simp⟩) hHeld ?_
  try simp only [Act.put, List.setIfInBounds_toArray, List.set_cons_zero, List.set_cons_succ]
  refine wpAnyH_take (i := 22) (oi := { dst := some 6, op := Op.assign (Operand.tmp 31), type := 4, pos := "law.go:58", after := #[{ on := 21, ground := Ground.data }, { on := 19, ground := Ground.chain }, { on := 0, ground := Ground.phase }, { on := 1, ground := Ground.phase }, { on := 2, ground := Ground.phase }, { on := 3, ground := Ground.phase }, { on := 4, ground := Ground.phase }, { on := 5, ground := Ground.phase }, { on := 6, ground := Ground.phase }, { on := 7, ground := Ground.phase }, { on := 8, ground := Ground.phase }, { on := 9, ground := Ground.phase }, { on := 10, ground := Ground.phase }, { on := 11, ground := Ground.phase }, { on := 12, ground := Ground.phase }, { on := 13, ground := Ground.phase }, { on := 14, ground := Ground.phase }, { on := 15, ground := Ground.phase }, { on := 16, ground := Ground.phase }, { on := 17, ground := Ground.phase }, { on := 18, ground := Ground.phase }, { on := 19, ground := Ground.phase }, { on := 20, ground := Ground.phase }, { on := 21, ground := Ground.phase }], guard := none }) (v := .bool true) rfl (by kernel_rfl) (by kernel_rfl) (by kernel_rfl) (fun _ _ _ h => h) (Or.inl ⟨by rfl, by intro W hSw; go_simp⟩) hHeld ?_
  try simp only [Act.put, List.setIfInBounds_toArray, List.set_cons_zero, List.set_cons_succ]
  refine wpAnyH_done (by kernel_rfl) ?_ _
  go_wp2
  go_ret
  exact ⟨rfl, hHeld.2.2⟩

theorem shaTrees_walk (a0 : ByteArray) (z1 z2 : List UInt8) (w : World) (w0 : a0.size ≤ maxLen) (w1 : z1.length = 32) (w2 : z2.length = 32) (hC : Table 1 w) (hK : Table 0 w) :
    Calls Tryd.prog 5 #[.string a0, digV z1, digV z2] w fun e w' => e = .returned (.bool true) ∧ Below w.heap.size w w' := by
  by_cases h : a0.size ≤ 65536
  · exact shaTrees_rest a0 z1 z2 w1 w2 w h hC hK
  · exact shaTrees_long a0 _ _ w w0 (by omega)
end Go.Proofs.YthkmhfpihkjhnaaDoor
