/- ShaLeaves returns true for any two digests. -/
import Derived.Test.YthkmhfpihkjhnabDoorSumx
import Derived.Stop.BytesEq
namespace Go.Proofs.YthkmhfpihkjhnabDoor
open Go.RowKit Sums
set_option linter.unusedVariables false
set_option linter.unusedSimpArgs false

theorem hidk {p : Prop} (h : p) : Hid p := h
theorem sizeOf5 (w : World) : (sizeOf 5).run Tryd.prog w = .ok 1 w := by
  cases hq : Tryd.prog.info? 5 with
  | none => have := size5; simp [hq] at this
  | some i => have := size5; simp [hq] at this; simp [sizeOf, typeInfo, hq, this]
theorem eqDig (xs ys : List UInt8) (hx : xs.length = 32) (hy : ys.length = 32) (w : World) : (binOp .eql 23 (.agg (cellsOf xs).toArray) (.agg (cellsOf ys).toArray)).run Tryd.prog w = .ok (.bool (xs == ys)) w :=
  run_eql_bytes w 23 5 32 Tryd.underlying23 Tryd.underlying5 sizeOf5 xs ys hx hy
theorem eqSelf (D : Array Value) (l : List UInt8) (hl : l.length = 32) (HD : Hid (D = (cellsOf l).toArray)) (w : World) : (binOp .eql 23 (.agg D) (.agg D)).run Tryd.prog w = .ok (.bool true) w := by
  rw [HD.out, eqDig l l hl hl]; simp

/-- Of, of texts that lie somewhere. -/
theorem of_texts (ss : List ByteArray) (n : Nat) (hn : n = ss.length) (ht : total ss ≤ 1000000) (hlen : ss.length ≤ 9223372036854775807) (D : Array Value) (HD : Hid (D = (cellsOf (sumD (joinL ss))).toArray)) (W : World) (g cap : Nat)
    (hT : Texts W (some ⟨g, 0, none⟩) n ss) (hK : Table 0 W) :
    Calls Tryd.prog 6 #[.slice (some ⟨g, 0, none⟩) n cap] W fun e w' => e = .returned (.agg D) ∧ Below W.heap.size W w' := by
  subst hn
  have h := of_any _ ss.length cap ss W hT ht hlen hK
  rw [HD.out]
  exact h

set_option maxHeartbeats 4000000 in
set_option maxRecDepth 100000 in
theorem shaLeaves_rest (l r : List UInt8) (hl : l.length = 32) (hr : r.length = 32) (w : World) (hK : Table 0 w) :
    Calls Tryd.prog 3 #[.agg (cellsOf l).toArray, .agg (cellsOf r).toArray] w fun e w' => e = .returned (.bool true) ∧ Below w.heap.size w w' := by
  obtain ⟨D1, HD1⟩ : ∃ D, Hid (D = (cellsOf (sumD (0 :: (l ++ r)))).toArray) := ⟨_, (rfl : (cellsOf (sumD (0 :: (l ++ r)))).toArray = _)⟩
  obtain ⟨D2, HD2⟩ : ∃ D, Hid (D = (cellsOf (sumD (1 :: (l ++ r)))).toArray) := ⟨_, (rfl : (cellsOf (sumD (1 :: (l ++ r)))).toArray = _)⟩
  obtain ⟨x, HX⟩ : ∃ x : ByteArray, Hid (x = ⟨l.toArray⟩) := ⟨_, (rfl : (⟨l.toArray⟩ : ByteArray) = _)⟩
  obtain ⟨y, HY⟩ : ∃ y : ByteArray, Hid (y = ⟨r.toArray⟩) := ⟨_, (rfl : (⟨r.toArray⟩ : ByteArray) = _)⟩
  have hxs : x.size = 32 := by rw [HX.out]; show l.toArray.size = 32; simp [hl]
  have hys : y.size = 32 := by rw [HY.out]; show r.toArray.size = 32; simp [hr]
  obtain ⟨A, HAL⟩ : ∃ A, Hid (A = cellsOf l) := ⟨_, (rfl : cellsOf l = _)⟩
  obtain ⟨B, HBR⟩ : ∃ B, Hid (B = cellsOf r) := ⟨_, (rfl : cellsOf r = _)⟩
  obtain ⟨z, HZ⟩ : ∃ z : ByteArray, Hid (z = x ++ y) := ⟨_, (rfl : x ++ y = _)⟩
  obtain ⟨z0, HZ0⟩ : ∃ z0 : ByteArray, Hid (z0 = ⟨#[0]⟩ ++ z) := ⟨_, (rfl : (⟨#[0]⟩ : ByteArray) ++ z = _)⟩
  obtain ⟨z1, HZ1⟩ : ∃ z1 : ByteArray, Hid (z1 = ⟨#[1]⟩ ++ z) := ⟨_, (rfl : (⟨#[1]⟩ : ByteArray) ++ z = _)⟩
  obtain ⟨x0, HX0⟩ : ∃ x0 : ByteArray, Hid (x0 = ⟨#[0]⟩ ++ x) := ⟨_, (rfl : (⟨#[0]⟩ : ByteArray) ++ x = _)⟩
  have hzs : z.size = 64 := by rw [HZ.out, ByteArray.size_append, hxs, hys]
  have hz0s : z0.size = 65 := by rw [HZ0.out, ByteArray.size_append, hzs]; rfl
  have hz1s : z1.size = 65 := by rw [HZ1.out, ByteArray.size_append, hzs]; rfl
  have hx0s : x0.size = 33 := by rw [HX0.out, ByteArray.size_append, hxs]; rfl
  have tz : z.data.toList = l ++ r := by rw [HZ.out, HX.out, HY.out]; simp
  have tz0 : z0.data.toList = 0 :: (l ++ r) := by rw [HZ0.out]; simp [tz]
  have tz1 : z1.data.toList = 1 :: (l ++ r) := by rw [HZ1.out]; simp [tz]
  have tx0 : x0.data.toList = 0 :: l := by rw [HX0.out, HX.out]; simp
  have ty : y.data.toList = r := by rw [HY.out]
  have hs1 : z.extract 0 32 = x := by
    apply ByteArray.ext; apply Array.ext'
    simp [tz, HX.out]; rw [List.take_left' hl]
  have hs2 : z.extract 32 64 = y := by
    apply ByteArray.ext; apply Array.ext'
    simp [tz, HY.out]; rw [List.drop_left' hl]; exact List.take_of_length_le (by omega)
  have HT : Hid (∀ W, Below w.heap.size w W → Table 0 W) := fun W hb => hK.keep hb
  have K0 : Hid (∀ W, Below w.heap.size w W → Calls Tryd.prog 4 #[] W fun e w' => e = .returned (.bool true) ∧ Below W.heap.size W w') := fun W hb => sums_true W (HT.out W hb)
  have K3 : Hid (∀ W, Below w.heap.size w W → Calls Tryd.prog 5 #[.string z] W fun e w' => e = .returned (.agg D1) ∧ Below W.heap.size W w') := fun W hb => leaf_any z W (by omega) (HT.out W hb) D1 (by show _ = _; rw [HD1.out, tz])
  have K7 : Hid (∀ W g, Texts W (some ⟨g, 0, none⟩) 1 [z0] → Below w.heap.size w W → Calls Tryd.prog 6 #[.slice (some ⟨g, 0, none⟩) 1 1] W fun e w' => e = .returned (.agg D1) ∧ Below W.heap.size W w') := fun W g h hb =>
    of_texts [z0] 1 rfl (by show z0.size + 0 ≤ 1000000; omega) (by show 1 ≤ _; decide) D1 (by show _ = _; rw [HD1.out]; simp [joinL, tz0]) W g 1 h (HT.out W hb)
  have K13 : Hid (∀ W, Below w.heap.size w W → Calls Tryd.prog 7 #[.agg A.toArray, .agg B.toArray] W fun e w' => e = .returned (.agg D2) ∧ Below W.heap.size W w') := fun W hb => by
    rw [HAL.out, HBR.out]; exact knot_any l r hl hr W (HT.out W hb) D2 HD2
  have K17 : Hid (∀ W g, Texts W (some ⟨g, 0, none⟩) 1 [z1] → Below w.heap.size w W → Calls Tryd.prog 6 #[.slice (some ⟨g, 0, none⟩) 1 1] W fun e w' => e = .returned (.agg D2) ∧ Below W.heap.size W w') := fun W g h hb =>
    of_texts [z1] 1 rfl (by show z1.size + 0 ≤ 1000000; omega) (by show 1 ≤ _; decide) D2 (by show _ = _; rw [HD2.out]; simp [joinL, tz1]) W g 1 h (HT.out W hb)
  have K23 : Hid (∀ W g, Texts W (some ⟨g, 0, none⟩) 2 [⟨#[0]⟩, z] → Below w.heap.size w W → Calls Tryd.prog 6 #[.slice (some ⟨g, 0, none⟩) 2 2] W fun e w' => e = .returned (.agg D1) ∧ Below W.heap.size W w') := fun W g h hb =>
    of_texts [⟨#[0]⟩, z] 2 rfl (by show 1 + (z.size + 0) ≤ 1000000; omega) (by show 2 ≤ _; decide) D1 (by show _ = _; rw [HD1.out]; simp [joinL, tz]) W g 2 h (HT.out W hb)
  have K30 : Hid (∀ W g, Texts W (some ⟨g, 0, none⟩) 2 [x0, y] → Below w.heap.size w W → Calls Tryd.prog 6 #[.slice (some ⟨g, 0, none⟩) 2 2] W fun e w' => e = .returned (.agg D1) ∧ Below W.heap.size W w') := fun W g h hb =>
    of_texts [x0, y] 2 rfl (by show x0.size + (y.size + 0) ≤ 1000000; omega) (by show 2 ≤ _; decide) D1 (by show _ = _; rw [HD1.out]; simp [joinL, tx0, ty]) W g 2 h (HT.out W hb)
  have e1 := eqSelf D1 _ (sumD_length _) HD1
  have e2 := eqSelf D2 _ (sumD_length _) HD2
  have c0 : ∀ W, W.rangeAt w.heap.size 0 A → Sem.run Tryd.prog (convert 24 9 (.slice (some ⟨w.heap.size, 0, none⟩) 32 32)) W = .ok (.string x) W := fun W h => by
    rw [HX.out]; exact conv_dig W _ l hl (by rw [← HAL.out]; exact h)
  have c1 : ∀ W, W.rangeAt (w.heap.size + 1) 0 B → Sem.run Tryd.prog (convert 24 9 (.slice (some ⟨w.heap.size + 1, 0, none⟩) 32 32)) W = .ok (.string y) W := fun W h => by
    rw [HY.out]; exact conv_dig W _ r hr (by rw [← HBR.out]; exact h)
  have s0 := fun W => slice_all W w.heap.size
  have s1 := fun W => slice_all W (w.heap.size + 1)
  have z0' : (Tryd.prog.info? 23).map (·.size) = some A.length := by rw [size23, HAL.out, cellsOf_length, hl]
  have z1' : (Tryd.prog.info? 23).map (·.size) = some B.length := by rw [size23, HBR.out, cellsOf_length, hr]
  rw [← HAL.out, ← HBR.out]
  have HS1 : Hid _ := hs1
  have HS2 : Hid _ := hs2
  clear hK tz tz0 tz1 tx0 ty hs1 hs2
  go_enter Tryd.func3, Tryd.ntmps3
  go_wp2_with fail
  obtain ⟨w0, hw0⟩ : ∃ w0, w0 = (w.alloc (.cells A.toArray 23)).alloc (.cells B.toArray 23) := ⟨_, rfl⟩
  have hS : w0.rangeAt w.heap.size 0 A ∧ w0.rangeAt (w.heap.size + 1) 0 B ∧ Below w.heap.size w w0 := by
    rw [hw0]
    exact ⟨range_row (heap_alloc2_old w _ _), range_row (heap_alloc2_new w _ _), ((Below.refl _ _).alloc (Nat.le_refl _) _).alloc (by simp) _⟩
  rw [← hw0]
  clear hw0
  refine wp_region_held_drew (S := (fun W => W.rangeAt w.heap.size 0 A ∧ W.rangeAt (w.heap.size + 1) 0 B ∧ Below w.heap.size w W)) (by kernel_rfl) (keep2 (Below.refl _ _).drew hS) (fun hHeld => ?_)
  refine wpAnyH_take (i := 0) (oi := { dst := some 6, op := Op.slice 23 (Operand.tmp 2) none none none, type := 24, pos := "law.go:98", after := #[], guard := none }) (v := .slice (some ⟨w.heap.size, 0, none⟩) 32 32) rfl (by kernel_rfl) (by kernel_rfl) (by kernel_rfl) (fun _ _ _ h => h) (Or.inl ⟨by rfl, by intro w hSw; go_simp⟩) hHeld ?_
  try simp only [Act.put, List.setIfInBounds_toArray, List.set_cons_zero, List.set_cons_succ]
  refine wpAnyH_take (i := 1) (oi := { dst := some 7, op := Op.convert 24 9 (Operand.tmp 6), type := 9, pos := "law.go:98", after := #[{ on := 0, ground := Ground.data }], guard := none }) (v := .string x) rfl (by kernel_rfl) (by kernel_rfl) (by kernel_rfl) (fun _ _ _ h => h) (Or.inl ⟨by rfl, by intro W hSw; have := c0 W hSw.1; go_simp⟩) hHeld ?_
  try simp only [Act.put, List.setIfInBounds_toArray, List.set_cons_zero, List.set_cons_succ]
  refine wpAnyH_take (i := 2) (oi := { dst := some 8, op := Op.slice 23 (Operand.tmp 3) none none none, type := 24, pos := "law.go:98", after := #[], guard := none }) (v := .slice (some ⟨w.heap.size + 1, 0, none⟩) 32 32) rfl (by kernel_rfl) (by kernel_rfl) (by kernel_rfl) (fun _ _ _ h => h) (Or.inl ⟨by rfl, by intro w hSw; go_simp⟩) hHeld ?_
  try simp only [Act.put, List.setIfInBounds_toArray, List.set_cons_zero, List.set_cons_succ]
  refine wpAnyH_take (i := 3) (oi := { dst := some 9, op := Op.convert 24 9 (Operand.tmp 8), type := 9, pos := "law.go:98", after := #[{ on := 2, ground := Ground.data }], guard := none }) (v := .string y) rfl (by kernel_rfl) (by kernel_rfl) (by kernel_rfl) (fun _ _ _ h => h) (Or.inl ⟨by rfl, by intro W hSw; have := c1 W hSw.2.1; go_simp⟩) hHeld ?_
  try simp only [Act.put, List.setIfInBounds_toArray, List.set_cons_zero, List.set_cons_succ]
  refine wpAnyH_take (i := 4) (oi := { dst := some 10, op := Op.binOp BinOp.add 9 (Operand.tmp 7) (Operand.tmp 9) 9, type := 9, pos := "law.go:98", after := #[{ on := 1, ground := Ground.data }, { on := 3, ground := Ground.data }], guard := none }) (v := .string z) rfl (by kernel_rfl) (by kernel_rfl) (by kernel_rfl) (fun _ _ _ h => h) (Or.inl ⟨by rfl, by intro W hSw; go_simp; exact HZ.out.symm⟩) hHeld ?_
  try simp only [Act.put, List.setIfInBounds_toArray, List.set_cons_zero, List.set_cons_succ]
  refine wpAnyH_take (i := 5) (oi := { dst := some 5, op := Op.assign (Operand.tmp 10), type := 9, pos := "law.go:98", after := #[{ on := 4, ground := Ground.data }, { on := 0, ground := Ground.phase }, { on := 1, ground := Ground.phase }, { on := 2, ground := Ground.phase }, { on := 3, ground := Ground.phase }, { on := 4, ground := Ground.phase }], guard := none }) (v := .string z) rfl (by kernel_rfl) (by kernel_rfl) (by kernel_rfl) (fun _ _ _ h => h) (Or.inl ⟨by rfl, by intro w hSw; go_simp⟩) hHeld ?_
  try simp only [Act.put, List.setIfInBounds_toArray, List.set_cons_zero, List.set_cons_succ]
  refine wpAnyH_done (by kernel_rfl) ?_ _
  generalize w0.drew = wa at hHeld ⊢
  clear hS w0
  have hS := hHeld
  clear hHeld
  go_wp2_with fail
  refine wp_region_held_drew (S := (fun W => W.rangeAt w.heap.size 0 A ∧ W.rangeAt (w.heap.size + 1) 0 B ∧ Below w.heap.size w W)) (by kernel_rfl) (keep2 (Below.refl _ _).drew hS) (fun hHeld => ?_)
  refine wpAnyH_ready (rs := [0]) (by kernel_rfl) (by simp) ?_
  refine (AllReadyH.cons (o := { dst := some 11, op := Op.call { callee := Callee.value (Operand.func 4), args := #[], argTypes := #[] }, type := 4, pos := "law.go:99", after := #[], guard := none }) rfl (fun K hK => ?_) AllReadyH.nil)
  go_simp
  refine (K0.out _ hHeld.2.2).mono ?_
  rintro e w0 ⟨rfl, hb0⟩
  go_wp2_with fail
  refine hK.out _ _ (keep2 hb0 hHeld) (fun hHeld => ?_)
  clear hK K
  try simp only [Act.put, List.setIfInBounds_toArray, List.set_cons_zero, List.set_cons_succ]
  refine wpAnyH_take (i := 1) (oi := { dst := some 12, op := Op.move (Operand.tmp 11), type := 4, pos := "law.go:99", after := #[{ on := 0, ground := Ground.data }, { on := 0, ground := Ground.chain }], guard := none }) (v := .bool true) rfl (by kernel_rfl) (by kernel_rfl) (by kernel_rfl) (fun _ _ _ h => h) (Or.inl ⟨by rfl, by intro W hSw; go_simp⟩) hHeld ?_
  try simp only [Act.put, List.setIfInBounds_toArray, List.set_cons_zero, List.set_cons_succ]
  refine wpAnyH_take (i := 2) (oi := { dst := some 13, op := Op.move (Operand.tmp 5), type := 9, pos := "law.go:99", after := #[{ on := 1, ground := Ground.guard }], guard := some (1, true) }) (v := .string z) rfl (by kernel_rfl) (by kernel_rfl) (by kernel_rfl) (fun _ _ _ h => h) (Or.inl ⟨by rfl, by intro W hSw; go_simp⟩) hHeld ?_
  try simp only [Act.put, List.setIfInBounds_toArray, List.set_cons_zero, List.set_cons_succ]
  refine wpAnyH_take (i := 4) (oi := { dst := some 15, op := Op.move (Operand.tmp 5), type := 9, pos := "law.go:99", after := #[{ on := 1, ground := Ground.guard }], guard := some (1, true) }) (v := .string z) rfl (by kernel_rfl) (by kernel_rfl) (by kernel_rfl) (fun _ _ _ h => h) (Or.inl ⟨by rfl, by intro W hSw; go_simp⟩) hHeld ?_
  try simp only [Act.put, List.setIfInBounds_toArray, List.set_cons_zero, List.set_cons_succ]
  refine wpAnyH_take (i := 5) (oi := { dst := some 16, op := Op.binOp BinOp.add 9 (Operand.const (Value.string { data := #[0] })) (Operand.tmp 15) 9, type := 9, pos := "law.go:99", after := #[{ on := 4, ground := Ground.data }, { on := 1, ground := Ground.guard }], guard := some (1, true) }) (v := .string z0) rfl (by kernel_rfl) (by kernel_rfl) (by kernel_rfl) (fun _ _ _ h => h) (Or.inl ⟨by rfl, by intro W hSw; go_simp; exact HZ0.out.symm⟩) hHeld ?_
  try simp only [Act.put, List.setIfInBounds_toArray, List.set_cons_zero, List.set_cons_succ]
  refine wpAnyH_ready (rs := [3, 6]) (by kernel_rfl) (by simp) ?_
  refine (AllReadyH.cons (o := { dst := some 14, op := Op.call { callee := Callee.value (Operand.func 5), args := #[Operand.tmp 13], argTypes := #[9] }, type := 23, pos := "law.go:99", after := #[{ on := 2, ground := Ground.data }, { on := 1, ground := Ground.chain }, { on := 1, ground := Ground.guard }], guard := some (1, true) }) rfl (fun K hK => ?_) (AllReadyH.cons (o := { dst := some 17, op := Op.buildSlice 32 1 #[(0, Operand.tmp 16)], type := 32, pos := "law.go:99", after := #[{ on := 5, ground := Ground.data }, { on := 1, ground := Ground.guard }], guard := some (1, true) }) rfl (fun K hK => ?_) AllReadyH.nil))
  · go_simp
    refine (K3.out _ hHeld.2.2).mono ?_
    rintro e w3 ⟨rfl, hb3⟩
    try (replace HT6 := hidk (HT6.out.keep hb3))
    go_wp2_with fail
    refine hK.out _ _ (keep2 hb3 hHeld) (fun hHeld => ?_)
    clear hK K
    try simp only [Act.put, List.setIfInBounds_toArray, List.set_cons_zero, List.set_cons_succ]
    refine wpAnyH_ready (rs := [6]) (by kernel_rfl) (by simp) ?_
    refine (AllReadyH.cons (o := { dst := some 17, op := Op.buildSlice 32 1 #[(0, Operand.tmp 16)], type := 32, pos := "law.go:99", after := #[{ on := 5, ground := Ground.data }, { on := 1, ground := Ground.guard }], guard := some (1, true) }) rfl (fun K hK => ?_) AllReadyH.nil)
    have HT6 : Hid (Texts (w3.alloc (.cells #[.string z0] 9)) (some ⟨w3.heap.size, 0, none⟩) 1 [z0]) := texts_new w3 [z0] 9
    go_simp
    refine hK.out _ _ (keep2 ((Below.refl _ _).alloc (Nat.le_refl _) _) hHeld) (fun hHeld => ?_)
    clear hK K
    try simp only [Act.put, List.setIfInBounds_toArray, List.set_cons_zero, List.set_cons_succ]
    refine wpAnyH_ready (rs := [7]) (by kernel_rfl) (by simp) ?_
    refine (AllReadyH.cons (o := { dst := some 18, op := Op.call { callee := Callee.value (Operand.func 6), args := #[Operand.tmp 17], argTypes := #[32] }, type := 23, pos := "law.go:99", after := #[{ on := 6, ground := Ground.data }, { on := 3, ground := Ground.chain }, { on := 1, ground := Ground.guard }], guard := some (1, true) }) rfl (fun K hK => ?_) AllReadyH.nil)
    go_simp
    refine (K7.out _ _ HT6.out hHeld.2.2).mono ?_
    rintro e w7 ⟨rfl, hb7⟩
    clear HT6
    go_wp2_with fail
    refine hK.out _ _ (keep2 hb7 hHeld) (fun hHeld => ?_)
    clear hK K
    try simp only [Act.put, List.setIfInBounds_toArray, List.set_cons_zero, List.set_cons_succ]
    refine wpAnyH_take (i := 8) (oi := { dst := some 19, op := Op.binOp BinOp.eql 23 (Operand.tmp 14) (Operand.tmp 18) 23, type := 4, pos := "law.go:99", after := #[{ on := 3, ground := Ground.data }, { on := 7, ground := Ground.data }, { on := 1, ground := Ground.guard }], guard := some (1, true) }) (v := .bool true) rfl (by kernel_rfl) (by kernel_rfl) (by kernel_rfl) (fun _ _ _ h => h) (Or.inl ⟨by rfl, by intro W hSw; go_simp⟩) hHeld ?_
    try simp only [Act.put, List.setIfInBounds_toArray, List.set_cons_zero, List.set_cons_succ]
    refine wpAnyH_take (i := 9) (oi := { dst := some 20, op := Op.pick (Operand.tmp 12) (Operand.tmp 19) (Operand.const (Value.bool false)), type := 4, pos := "law.go:99", after := #[{ on := 1, ground := Ground.data }, { on := 8, ground := Ground.data }], guard := none }) (v := .bool true) rfl (by kernel_rfl) (by kernel_rfl) (by kernel_rfl) (fun _ _ _ h => h) (Or.inl ⟨by rfl, by intro W hSw; go_simp⟩) hHeld ?_
    try simp only [Act.put, List.setIfInBounds_toArray, List.set_cons_zero, List.set_cons_succ]
    refine wpAnyH_take (i := 10) (oi := { dst := some 21, op := Op.move (Operand.tmp 20), type := 4, pos := "law.go:99", after := #[{ on := 9, ground := Ground.data }, { on := 7, ground := Ground.chain }], guard := none }) (v := .bool true) rfl (by kernel_rfl) (by kernel_rfl) (by kernel_rfl) (fun _ _ _ h => h) (Or.inl ⟨by rfl, by intro W hSw; go_simp⟩) hHeld ?_
    try simp only [Act.put, List.setIfInBounds_toArray, List.set_cons_zero, List.set_cons_succ]
    refine wpAnyH_take (i := 11) (oi := { dst := some 22, op := Op.load 23 (Operand.tmp 2), type := 23, pos := "law.go:99", after := #[{ on := 10, ground := Ground.guard }], guard := some (10, true) }) (v := .agg A.toArray) rfl (by kernel_rfl) (by kernel_rfl) (by kernel_rfl) (fun _ _ _ h => h) (yieldsIf_load_mid (by rfl) 23 (.tmp 2) rfl _ 0 rfl A _ (fun _ h => h.1) Tryd.underlying23 rfl z0') hHeld ?_
    try simp only [Act.put, List.setIfInBounds_toArray, List.set_cons_zero, List.set_cons_succ]
    refine wpAnyH_take (i := 12) (oi := { dst := some 23, op := Op.load 23 (Operand.tmp 3), type := 23, pos := "law.go:99", after := #[{ on := 10, ground := Ground.guard }], guard := some (10, true) }) (v := .agg B.toArray) rfl (by kernel_rfl) (by kernel_rfl) (by kernel_rfl) (fun _ _ _ h => h) (yieldsIf_load_mid (by rfl) 23 (.tmp 3) rfl _ 0 rfl B _ (fun _ h => h.2.1) Tryd.underlying23 rfl z1') hHeld ?_
    try simp only [Act.put, List.setIfInBounds_toArray, List.set_cons_zero, List.set_cons_succ]
    refine wpAnyH_take (i := 14) (oi := { dst := some 25, op := Op.move (Operand.tmp 5), type := 9, pos := "law.go:99", after := #[{ on := 10, ground := Ground.guard }], guard := some (10, true) }) (v := .string z) rfl (by kernel_rfl) (by kernel_rfl) (by kernel_rfl) (fun _ _ _ h => h) (Or.inl ⟨by rfl, by intro W hSw; go_simp⟩) hHeld ?_
    try simp only [Act.put, List.setIfInBounds_toArray, List.set_cons_zero, List.set_cons_succ]
    refine wpAnyH_take (i := 15) (oi := { dst := some 26, op := Op.binOp BinOp.add 9 (Operand.const (Value.string { data := #[1] })) (Operand.tmp 25) 9, type := 9, pos := "law.go:99", after := #[{ on := 14, ground := Ground.data }, { on := 10, ground := Ground.guard }], guard := some (10, true) }) (v := .string z1) rfl (by kernel_rfl) (by kernel_rfl) (by kernel_rfl) (fun _ _ _ h => h) (Or.inl ⟨by rfl, by intro W hSw; go_simp; exact HZ1.out.symm⟩) hHeld ?_
    try simp only [Act.put, List.setIfInBounds_toArray, List.set_cons_zero, List.set_cons_succ]
    refine wpAnyH_ready (rs := [13, 16]) (by kernel_rfl) (by simp) ?_
    refine (AllReadyH.cons (o := { dst := some 24, op := Op.call { callee := Callee.value (Operand.func 7), args := #[Operand.tmp 22, Operand.tmp 23], argTypes := #[23, 23] }, type := 23, pos := "law.go:99", after := #[{ on := 11, ground := Ground.data }, { on := 12, ground := Ground.data }, { on := 10, ground := Ground.chain }, { on := 10, ground := Ground.guard }], guard := some (10, true) }) rfl (fun K hK => ?_) (AllReadyH.cons (o := { dst := some 27, op := Op.buildSlice 32 1 #[(0, Operand.tmp 26)], type := 32, pos := "law.go:99", after := #[{ on := 15, ground := Ground.data }, { on := 10, ground := Ground.guard }], guard := some (10, true) }) rfl (fun K hK => ?_) AllReadyH.nil))
    · go_simp
      refine (K13.out _ hHeld.2.2).mono ?_
      rintro e w13 ⟨rfl, hb13⟩
      try (replace HT16 := hidk (HT16.out.keep hb13))
      go_wp2_with fail
      refine hK.out _ _ (keep2 hb13 hHeld) (fun hHeld => ?_)
      clear hK K
      try simp only [Act.put, List.setIfInBounds_toArray, List.set_cons_zero, List.set_cons_succ]
      refine wpAnyH_ready (rs := [16]) (by kernel_rfl) (by simp) ?_
      refine (AllReadyH.cons (o := { dst := some 27, op := Op.buildSlice 32 1 #[(0, Operand.tmp 26)], type := 32, pos := "law.go:99", after := #[{ on := 15, ground := Ground.data }, { on := 10, ground := Ground.guard }], guard := some (10, true) }) rfl (fun K hK => ?_) AllReadyH.nil)
      have HT16 : Hid (Texts (w13.alloc (.cells #[.string z1] 9)) (some ⟨w13.heap.size, 0, none⟩) 1 [z1]) := texts_new w13 [z1] 9
      go_simp
      refine hK.out _ _ (keep2 ((Below.refl _ _).alloc (Nat.le_refl _) _) hHeld) (fun hHeld => ?_)
      clear hK K
      try simp only [Act.put, List.setIfInBounds_toArray, List.set_cons_zero, List.set_cons_succ]
      refine wpAnyH_ready (rs := [17]) (by kernel_rfl) (by simp) ?_
      refine (AllReadyH.cons (o := { dst := some 28, op := Op.call { callee := Callee.value (Operand.func 6), args := #[Operand.tmp 27], argTypes := #[32] }, type := 23, pos := "law.go:99", after := #[{ on := 16, ground := Ground.data }, { on := 13, ground := Ground.chain }, { on := 10, ground := Ground.guard }], guard := some (10, true) }) rfl (fun K hK => ?_) AllReadyH.nil)
      go_simp
      refine (K17.out _ _ HT16.out hHeld.2.2).mono ?_
      rintro e w17 ⟨rfl, hb17⟩
      clear HT16
      go_wp2_with fail
      refine hK.out _ _ (keep2 hb17 hHeld) (fun hHeld => ?_)
      clear hK K
      try simp only [Act.put, List.setIfInBounds_toArray, List.set_cons_zero, List.set_cons_succ]
      refine wpAnyH_take (i := 18) (oi := { dst := some 29, op := Op.binOp BinOp.eql 23 (Operand.tmp 24) (Operand.tmp 28) 23, type := 4, pos := "law.go:99", after := #[{ on := 13, ground := Ground.data }, { on := 17, ground := Ground.data }, { on := 10, ground := Ground.guard }], guard := some (10, true) }) (v := .bool true) rfl (by kernel_rfl) (by kernel_rfl) (by kernel_rfl) (fun _ _ _ h => h) (Or.inl ⟨by rfl, by intro W hSw; go_simp⟩) hHeld ?_
      try simp only [Act.put, List.setIfInBounds_toArray, List.set_cons_zero, List.set_cons_succ]
      refine wpAnyH_take (i := 19) (oi := { dst := some 30, op := Op.pick (Operand.tmp 21) (Operand.tmp 29) (Operand.const (Value.bool false)), type := 4, pos := "law.go:99", after := #[{ on := 10, ground := Ground.data }, { on := 18, ground := Ground.data }], guard := none }) (v := .bool true) rfl (by kernel_rfl) (by kernel_rfl) (by kernel_rfl) (fun _ _ _ h => h) (Or.inl ⟨by rfl, by intro W hSw; go_simp⟩) hHeld ?_
      try simp only [Act.put, List.setIfInBounds_toArray, List.set_cons_zero, List.set_cons_succ]
      refine wpAnyH_take (i := 20) (oi := { dst := some 31, op := Op.move (Operand.tmp 30), type := 4, pos := "law.go:99", after := #[{ on := 19, ground := Ground.data }, { on := 17, ground := Ground.chain }], guard := none }) (v := .bool true) rfl (by kernel_rfl) (by kernel_rfl) (by kernel_rfl) (fun _ _ _ h => h) (Or.inl ⟨by rfl, by intro W hSw; go_simp⟩) hHeld ?_
      try simp only [Act.put, List.setIfInBounds_toArray, List.set_cons_zero, List.set_cons_succ]
      refine wpAnyH_take (i := 21) (oi := { dst := some 32, op := Op.move (Operand.tmp 5), type := 9, pos := "law.go:99", after := #[{ on := 20, ground := Ground.guard }], guard := some (20, true) }) (v := .string z) rfl (by kernel_rfl) (by kernel_rfl) (by kernel_rfl) (fun _ _ _ h => h) (Or.inl ⟨by rfl, by intro W hSw; go_simp⟩) hHeld ?_
      try simp only [Act.put, List.setIfInBounds_toArray, List.set_cons_zero, List.set_cons_succ]
      refine wpAnyH_take (i := 24) (oi := { dst := some 35, op := Op.move (Operand.tmp 5), type := 9, pos := "law.go:99", after := #[{ on := 20, ground := Ground.guard }], guard := some (20, true) }) (v := .string z) rfl (by kernel_rfl) (by kernel_rfl) (by kernel_rfl) (fun _ _ _ h => h) (Or.inl ⟨by rfl, by intro W hSw; go_simp⟩) hHeld ?_
      try simp only [Act.put, List.setIfInBounds_toArray, List.set_cons_zero, List.set_cons_succ]
      refine wpAnyH_take (i := 25) (oi := { dst := some 36, op := Op.slice 9 (Operand.tmp 35) none (some (Operand.const (Value.int IntKind.i64 32))) none, type := 9, pos := "law.go:99", after := #[{ on := 24, ground := Ground.data }, { on := 20, ground := Ground.guard }], guard := some (20, true) }) (v := .string x) rfl (by kernel_rfl) (by kernel_rfl) (by kernel_rfl) (fun _ _ _ h => h) (Or.inl ⟨by rfl, by intro W hSw; have := HS1.out; go_simp⟩) hHeld ?_
      try simp only [Act.put, List.setIfInBounds_toArray, List.set_cons_zero, List.set_cons_succ]
      refine wpAnyH_take (i := 26) (oi := { dst := some 37, op := Op.binOp BinOp.add 9 (Operand.const (Value.string { data := #[0] })) (Operand.tmp 36) 9, type := 9, pos := "law.go:99", after := #[{ on := 25, ground := Ground.data }, { on := 20, ground := Ground.guard }], guard := some (20, true) }) (v := .string x0) rfl (by kernel_rfl) (by kernel_rfl) (by kernel_rfl) (fun _ _ _ h => h) (Or.inl ⟨by rfl, by intro W hSw; go_simp; exact HX0.out.symm⟩) hHeld ?_
      try simp only [Act.put, List.setIfInBounds_toArray, List.set_cons_zero, List.set_cons_succ]
      refine wpAnyH_take (i := 27) (oi := { dst := some 38, op := Op.move (Operand.tmp 5), type := 9, pos := "law.go:99", after := #[{ on := 20, ground := Ground.guard }], guard := some (20, true) }) (v := .string z) rfl (by kernel_rfl) (by kernel_rfl) (by kernel_rfl) (fun _ _ _ h => h) (Or.inl ⟨by rfl, by intro W hSw; go_simp⟩) hHeld ?_
      try simp only [Act.put, List.setIfInBounds_toArray, List.set_cons_zero, List.set_cons_succ]
      refine wpAnyH_take (i := 28) (oi := { dst := some 39, op := Op.slice 9 (Operand.tmp 38) (some (Operand.const (Value.int IntKind.i64 32))) none none, type := 9, pos := "law.go:99", after := #[{ on := 27, ground := Ground.data }, { on := 20, ground := Ground.guard }], guard := some (20, true) }) (v := .string y) rfl (by kernel_rfl) (by kernel_rfl) (by kernel_rfl) (fun _ _ _ h => h) (Or.inl ⟨by rfl, by intro W hSw; have := HS2.out; go_simp⟩) hHeld ?_
      try simp only [Act.put, List.setIfInBounds_toArray, List.set_cons_zero, List.set_cons_succ]
      refine wpAnyH_ready (rs := [22, 29]) (by kernel_rfl) (by simp) ?_
      refine (AllReadyH.cons (o := { dst := some 33, op := Op.buildSlice 32 2 #[(0, Operand.const (Value.string { data := #[0] })), (1, Operand.tmp 32)], type := 32, pos := "law.go:99", after := #[{ on := 21, ground := Ground.data }, { on := 20, ground := Ground.guard }], guard := some (20, true) }) rfl (fun K hK => ?_) (AllReadyH.cons (o := { dst := some 40, op := Op.buildSlice 32 2 #[(0, Operand.tmp 37), (1, Operand.tmp 39)], type := 32, pos := "law.go:99", after := #[{ on := 26, ground := Ground.data }, { on := 28, ground := Ground.data }, { on := 20, ground := Ground.guard }], guard := some (20, true) }) rfl (fun K hK => ?_) AllReadyH.nil))
      · have HT22 : Hid (Texts (w17.alloc (.cells #[.string ⟨#[0]⟩, .string z] 9)) (some ⟨w17.heap.size, 0, none⟩) 2 [⟨#[0]⟩, z]) := texts_new w17 [⟨#[0]⟩, z] 9
        try (replace HT29 := hidk (HT29.out.keep ((Below.refl _ _).alloc (Nat.le_refl _) (.cells #[.string ⟨#[0]⟩, .string z] 9))))
        go_simp
        refine hK.out _ _ (keep2 ((Below.refl _ _).alloc (Nat.le_refl _) _) hHeld) (fun hHeld => ?_)
        clear hK K
        try simp only [Act.put, List.setIfInBounds_toArray, List.set_cons_zero, List.set_cons_succ]
        refine wpAnyH_ready (rs := [23, 29]) (by kernel_rfl) (by simp) ?_
        refine (AllReadyH.cons (o := { dst := some 34, op := Op.call { callee := Callee.value (Operand.func 6), args := #[Operand.tmp 33], argTypes := #[32] }, type := 23, pos := "law.go:99", after := #[{ on := 22, ground := Ground.data }, { on := 20, ground := Ground.chain }, { on := 20, ground := Ground.guard }], guard := some (20, true) }) rfl (fun K hK => ?_) (AllReadyH.cons (o := { dst := some 40, op := Op.buildSlice 32 2 #[(0, Operand.tmp 37), (1, Operand.tmp 39)], type := 32, pos := "law.go:99", after := #[{ on := 26, ground := Ground.data }, { on := 28, ground := Ground.data }, { on := 20, ground := Ground.guard }], guard := some (20, true) }) rfl (fun K hK => ?_) AllReadyH.nil))
        · go_simp
          try simp only [World.size_alloc] at HT22
          refine (K23.out _ _ HT22.out hHeld.2.2).mono ?_
          rintro e w23 ⟨rfl, hb23⟩
          clear HT22
          try (replace HT29 := hidk (HT29.out.keep hb23))
          go_wp2_with fail
          refine hK.out _ _ (keep2 hb23 hHeld) (fun hHeld => ?_)
          clear hK K
          try simp only [Act.put, List.setIfInBounds_toArray, List.set_cons_zero, List.set_cons_succ]
          refine wpAnyH_ready (rs := [29]) (by kernel_rfl) (by simp) ?_
          refine (AllReadyH.cons (o := { dst := some 40, op := Op.buildSlice 32 2 #[(0, Operand.tmp 37), (1, Operand.tmp 39)], type := 32, pos := "law.go:99", after := #[{ on := 26, ground := Ground.data }, { on := 28, ground := Ground.data }, { on := 20, ground := Ground.guard }], guard := some (20, true) }) rfl (fun K hK => ?_) AllReadyH.nil)
          have HT29 : Hid (Texts (w23.alloc (.cells #[.string x0, .string y] 9)) (some ⟨w23.heap.size, 0, none⟩) 2 [x0, y]) := texts_new w23 [x0, y] 9
          try (replace HT22 := hidk (HT22.out.keep ((Below.refl _ _).alloc (Nat.le_refl _) (.cells #[.string x0, .string y] 9))))
          go_simp
          refine hK.out _ _ (keep2 ((Below.refl _ _).alloc (Nat.le_refl _) _) hHeld) (fun hHeld => ?_)
          clear hK K
          try simp only [Act.put, List.setIfInBounds_toArray, List.set_cons_zero, List.set_cons_succ]
          refine wpAnyH_ready (rs := [30]) (by kernel_rfl) (by simp) ?_
          refine (AllReadyH.cons (o := { dst := some 41, op := Op.call { callee := Callee.value (Operand.func 6), args := #[Operand.tmp 40], argTypes := #[32] }, type := 23, pos := "law.go:99", after := #[{ on := 29, ground := Ground.data }, { on := 23, ground := Ground.chain }, { on := 20, ground := Ground.guard }], guard := some (20, true) }) rfl (fun K hK => ?_) AllReadyH.nil)
          go_simp
          try simp only [World.size_alloc] at HT29
          refine (K30.out _ _ HT29.out hHeld.2.2).mono ?_
          rintro e w30 ⟨rfl, hb30⟩
          clear HT29
          go_wp2_with fail
          refine hK.out _ _ (keep2 hb30 hHeld) (fun hHeld => ?_)
          clear hK K
          try simp only [Act.put, List.setIfInBounds_toArray, List.set_cons_zero, List.set_cons_succ]
          refine wpAnyH_take (i := 31) (oi := { dst := some 42, op := Op.binOp BinOp.eql 23 (Operand.tmp 34) (Operand.tmp 41) 23, type := 4, pos := "law.go:99", after := #[{ on := 23, ground := Ground.data }, { on := 30, ground := Ground.data }, { on := 20, ground := Ground.guard }], guard := some (20, true) }) (v := .bool true) rfl (by kernel_rfl) (by kernel_rfl) (by kernel_rfl) (fun _ _ _ h => h) (Or.inl ⟨by rfl, by intro W hSw; go_simp⟩) hHeld ?_
          try simp only [Act.put, List.setIfInBounds_toArray, List.set_cons_zero, List.set_cons_succ]
          refine wpAnyH_take (i := 32) (oi := { dst := some 43, op := Op.pick (Operand.tmp 31) (Operand.tmp 42) (Operand.const (Value.bool false)), type := 4, pos := "law.go:99", after := #[{ on := 20, ground := Ground.data }, { on := 31, ground := Ground.data }], guard := none }) (v := .bool true) rfl (by kernel_rfl) (by kernel_rfl) (by kernel_rfl) (fun _ _ _ h => h) (Or.inl ⟨by rfl, by intro W hSw; go_simp⟩) hHeld ?_
          try simp only [Act.put, List.setIfInBounds_toArray, List.set_cons_zero, List.set_cons_succ]
          refine wpAnyH_take (i := 33) (oi := { dst := some 4, op := Op.assign (Operand.tmp 43), type := 4, pos := "law.go:99", after := #[{ on := 32, ground := Ground.data }, { on := 30, ground := Ground.chain }, { on := 0, ground := Ground.phase }, { on := 1, ground := Ground.phase }, { on := 2, ground := Ground.phase }, { on := 3, ground := Ground.phase }, { on := 4, ground := Ground.phase }, { on := 5, ground := Ground.phase }, { on := 6, ground := Ground.phase }, { on := 7, ground := Ground.phase }, { on := 8, ground := Ground.phase }, { on := 9, ground := Ground.phase }, { on := 10, ground := Ground.phase }, { on := 11, ground := Ground.phase }, { on := 12, ground := Ground.phase }, { on := 13, ground := Ground.phase }, { on := 14, ground := Ground.phase }, { on := 15, ground := Ground.phase }, { on := 16, ground := Ground.phase }, { on := 17, ground := Ground.phase }, { on := 18, ground := Ground.phase }, { on := 19, ground := Ground.phase }, { on := 20, ground := Ground.phase }, { on := 21, ground := Ground.phase }, { on := 22, ground := Ground.phase }, { on := 23, ground := Ground.phase }, { on := 24, ground := Ground.phase }, { on := 25, ground := Ground.phase }, { on := 26, ground := Ground.phase }, { on := 27, ground := Ground.phase }, { on := 28, ground := Ground.phase }, { on := 29, ground := Ground.phase }, { on := 30, ground := Ground.phase }, { on := 31, ground := Ground.phase }, { on := 32, ground := Ground.phase }], guard := none }) (v := .bool true) rfl (by kernel_rfl) (by kernel_rfl) (by kernel_rfl) (fun _ _ _ h => h) (Or.inl ⟨by rfl, by intro W hSw; go_simp⟩) hHeld ?_
          try simp only [Act.put, List.setIfInBounds_toArray, List.set_cons_zero, List.set_cons_succ]
          refine wpAnyH_done (by kernel_rfl) ?_ _
          go_wp2
          go_ret
          exact ⟨rfl, hHeld.2.2⟩
        · have HT29 : Hid (Texts ((w17.alloc (.cells #[.string ⟨#[0]⟩, .string z] 9)).alloc (.cells #[.string x0, .string y] 9)) (some ⟨(w17.alloc (.cells #[.string ⟨#[0]⟩, .string z] 9)).heap.size, 0, none⟩) 2 [x0, y]) := texts_new (w17.alloc (.cells #[.string ⟨#[0]⟩, .string z] 9)) [x0, y] 9
          try (replace HT22 := hidk (HT22.out.keep ((Below.refl _ _).alloc (Nat.le_refl _) (.cells #[.string x0, .string y] 9))))
          go_simp
          refine hK.out _ _ (keep2 ((Below.refl _ _).alloc (Nat.le_refl _) _) hHeld) (fun hHeld => ?_)
          clear hK K
          try simp only [Act.put, List.setIfInBounds_toArray, List.set_cons_zero, List.set_cons_succ]
          refine wpAnyH_ready (rs := [23]) (by kernel_rfl) (by simp) ?_
          refine (AllReadyH.cons (o := { dst := some 34, op := Op.call { callee := Callee.value (Operand.func 6), args := #[Operand.tmp 33], argTypes := #[32] }, type := 23, pos := "law.go:99", after := #[{ on := 22, ground := Ground.data }, { on := 20, ground := Ground.chain }, { on := 20, ground := Ground.guard }], guard := some (20, true) }) rfl (fun K hK => ?_) AllReadyH.nil)
          go_simp
          try simp only [World.size_alloc] at HT22
          refine (K23.out _ _ HT22.out hHeld.2.2).mono ?_
          rintro e w23 ⟨rfl, hb23⟩
          clear HT22
          try (replace HT29 := hidk (HT29.out.keep hb23))
          go_wp2_with fail
          refine hK.out _ _ (keep2 hb23 hHeld) (fun hHeld => ?_)
          clear hK K
          try simp only [Act.put, List.setIfInBounds_toArray, List.set_cons_zero, List.set_cons_succ]
          refine wpAnyH_ready (rs := [30]) (by kernel_rfl) (by simp) ?_
          refine (AllReadyH.cons (o := { dst := some 41, op := Op.call { callee := Callee.value (Operand.func 6), args := #[Operand.tmp 40], argTypes := #[32] }, type := 23, pos := "law.go:99", after := #[{ on := 29, ground := Ground.data }, { on := 23, ground := Ground.chain }, { on := 20, ground := Ground.guard }], guard := some (20, true) }) rfl (fun K hK => ?_) AllReadyH.nil)
          go_simp
          try simp only [World.size_alloc] at HT29
          refine (K30.out _ _ HT29.out hHeld.2.2).mono ?_
          rintro e w30 ⟨rfl, hb30⟩
          clear HT29
          go_wp2_with fail
          refine hK.out _ _ (keep2 hb30 hHeld) (fun hHeld => ?_)
          clear hK K
          try simp only [Act.put, List.setIfInBounds_toArray, List.set_cons_zero, List.set_cons_succ]
          refine wpAnyH_take (i := 31) (oi := { dst := some 42, op := Op.binOp BinOp.eql 23 (Operand.tmp 34) (Operand.tmp 41) 23, type := 4, pos := "law.go:99", after := #[{ on := 23, ground := Ground.data }, { on := 30, ground := Ground.data }, { on := 20, ground := Ground.guard }], guard := some (20, true) }) (v := .bool true) rfl (by kernel_rfl) (by kernel_rfl) (by kernel_rfl) (fun _ _ _ h => h) (Or.inl ⟨by rfl, by intro W hSw; go_simp⟩) hHeld ?_
          try simp only [Act.put, List.setIfInBounds_toArray, List.set_cons_zero, List.set_cons_succ]
          refine wpAnyH_take (i := 32) (oi := { dst := some 43, op := Op.pick (Operand.tmp 31) (Operand.tmp 42) (Operand.const (Value.bool false)), type := 4, pos := "law.go:99", after := #[{ on := 20, ground := Ground.data }, { on := 31, ground := Ground.data }], guard := none }) (v := .bool true) rfl (by kernel_rfl) (by kernel_rfl) (by kernel_rfl) (fun _ _ _ h => h) (Or.inl ⟨by rfl, by intro W hSw; go_simp⟩) hHeld ?_
          try simp only [Act.put, List.setIfInBounds_toArray, List.set_cons_zero, List.set_cons_succ]
          refine wpAnyH_take (i := 33) (oi := { dst := some 4, op := Op.assign (Operand.tmp 43), type := 4, pos := "law.go:99", after := #[{ on := 32, ground := Ground.data }, { on := 30, ground := Ground.chain }, { on := 0, ground := Ground.phase }, { on := 1, ground := Ground.phase }, { on := 2, ground := Ground.phase }, { on := 3, ground := Ground.phase }, { on := 4, ground := Ground.phase }, { on := 5, ground := Ground.phase }, { on := 6, ground := Ground.phase }, { on := 7, ground := Ground.phase }, { on := 8, ground := Ground.phase }, { on := 9, ground := Ground.phase }, { on := 10, ground := Ground.phase }, { on := 11, ground := Ground.phase }, { on := 12, ground := Ground.phase }, { on := 13, ground := Ground.phase }, { on := 14, ground := Ground.phase }, { on := 15, ground := Ground.phase }, { on := 16, ground := Ground.phase }, { on := 17, ground := Ground.phase }, { on := 18, ground := Ground.phase }, { on := 19, ground := Ground.phase }, { on := 20, ground := Ground.phase }, { on := 21, ground := Ground.phase }, { on := 22, ground := Ground.phase }, { on := 23, ground := Ground.phase }, { on := 24, ground := Ground.phase }, { on := 25, ground := Ground.phase }, { on := 26, ground := Ground.phase }, { on := 27, ground := Ground.phase }, { on := 28, ground := Ground.phase }, { on := 29, ground := Ground.phase }, { on := 30, ground := Ground.phase }, { on := 31, ground := Ground.phase }, { on := 32, ground := Ground.phase }], guard := none }) (v := .bool true) rfl (by kernel_rfl) (by kernel_rfl) (by kernel_rfl) (fun _ _ _ h => h) (Or.inl ⟨by rfl, by intro W hSw; go_simp⟩) hHeld ?_
          try simp only [Act.put, List.setIfInBounds_toArray, List.set_cons_zero, List.set_cons_succ]
          refine wpAnyH_done (by kernel_rfl) ?_ _
          go_wp2
          go_ret
          exact ⟨rfl, hHeld.2.2⟩
      · have HT29 : Hid (Texts (w17.alloc (.cells #[.string x0, .string y] 9)) (some ⟨w17.heap.size, 0, none⟩) 2 [x0, y]) := texts_new w17 [x0, y] 9
        try (replace HT22 := hidk (HT22.out.keep ((Below.refl _ _).alloc (Nat.le_refl _) (.cells #[.string x0, .string y] 9))))
        go_simp
        refine hK.out _ _ (keep2 ((Below.refl _ _).alloc (Nat.le_refl _) _) hHeld) (fun hHeld => ?_)
        clear hK K
        try simp only [Act.put, List.setIfInBounds_toArray, List.set_cons_zero, List.set_cons_succ]
        refine wpAnyH_ready (rs := [22]) (by kernel_rfl) (by simp) ?_
        refine (AllReadyH.cons (o := { dst := some 33, op := Op.buildSlice 32 2 #[(0, Operand.const (Value.string { data := #[0] })), (1, Operand.tmp 32)], type := 32, pos := "law.go:99", after := #[{ on := 21, ground := Ground.data }, { on := 20, ground := Ground.guard }], guard := some (20, true) }) rfl (fun K hK => ?_) AllReadyH.nil)
        have HT22 : Hid (Texts ((w17.alloc (.cells #[.string x0, .string y] 9)).alloc (.cells #[.string ⟨#[0]⟩, .string z] 9)) (some ⟨(w17.alloc (.cells #[.string x0, .string y] 9)).heap.size, 0, none⟩) 2 [⟨#[0]⟩, z]) := texts_new (w17.alloc (.cells #[.string x0, .string y] 9)) [⟨#[0]⟩, z] 9
        try (replace HT29 := hidk (HT29.out.keep ((Below.refl _ _).alloc (Nat.le_refl _) (.cells #[.string ⟨#[0]⟩, .string z] 9))))
        go_simp
        refine hK.out _ _ (keep2 ((Below.refl _ _).alloc (Nat.le_refl _) _) hHeld) (fun hHeld => ?_)
        clear hK K
        try simp only [Act.put, List.setIfInBounds_toArray, List.set_cons_zero, List.set_cons_succ]
        refine wpAnyH_ready (rs := [23]) (by kernel_rfl) (by simp) ?_
        refine (AllReadyH.cons (o := { dst := some 34, op := Op.call { callee := Callee.value (Operand.func 6), args := #[Operand.tmp 33], argTypes := #[32] }, type := 23, pos := "law.go:99", after := #[{ on := 22, ground := Ground.data }, { on := 20, ground := Ground.chain }, { on := 20, ground := Ground.guard }], guard := some (20, true) }) rfl (fun K hK => ?_) AllReadyH.nil)
        go_simp
        try simp only [World.size_alloc] at HT22
        refine (K23.out _ _ HT22.out hHeld.2.2).mono ?_
        rintro e w23 ⟨rfl, hb23⟩
        clear HT22
        try (replace HT29 := hidk (HT29.out.keep hb23))
        go_wp2_with fail
        refine hK.out _ _ (keep2 hb23 hHeld) (fun hHeld => ?_)
        clear hK K
        try simp only [Act.put, List.setIfInBounds_toArray, List.set_cons_zero, List.set_cons_succ]
        refine wpAnyH_ready (rs := [30]) (by kernel_rfl) (by simp) ?_
        refine (AllReadyH.cons (o := { dst := some 41, op := Op.call { callee := Callee.value (Operand.func 6), args := #[Operand.tmp 40], argTypes := #[32] }, type := 23, pos := "law.go:99", after := #[{ on := 29, ground := Ground.data }, { on := 23, ground := Ground.chain }, { on := 20, ground := Ground.guard }], guard := some (20, true) }) rfl (fun K hK => ?_) AllReadyH.nil)
        go_simp
        try simp only [World.size_alloc] at HT29
        refine (K30.out _ _ HT29.out hHeld.2.2).mono ?_
        rintro e w30 ⟨rfl, hb30⟩
        clear HT29
        go_wp2_with fail
        refine hK.out _ _ (keep2 hb30 hHeld) (fun hHeld => ?_)
        clear hK K
        try simp only [Act.put, List.setIfInBounds_toArray, List.set_cons_zero, List.set_cons_succ]
        refine wpAnyH_take (i := 31) (oi := { dst := some 42, op := Op.binOp BinOp.eql 23 (Operand.tmp 34) (Operand.tmp 41) 23, type := 4, pos := "law.go:99", after := #[{ on := 23, ground := Ground.data }, { on := 30, ground := Ground.data }, { on := 20, ground := Ground.guard }], guard := some (20, true) }) (v := .bool true) rfl (by kernel_rfl) (by kernel_rfl) (by kernel_rfl) (fun _ _ _ h => h) (Or.inl ⟨by rfl, by intro W hSw; go_simp⟩) hHeld ?_
        try simp only [Act.put, List.setIfInBounds_toArray, List.set_cons_zero, List.set_cons_succ]
        refine wpAnyH_take (i := 32) (oi := { dst := some 43, op := Op.pick (Operand.tmp 31) (Operand.tmp 42) (Operand.const (Value.bool false)), type := 4, pos := "law.go:99", after := #[{ on := 20, ground := Ground.data }, { on := 31, ground := Ground.data }], guard := none }) (v := .bool true) rfl (by kernel_rfl) (by kernel_rfl) (by kernel_rfl) (fun _ _ _ h => h) (Or.inl ⟨by rfl, by intro W hSw; go_simp⟩) hHeld ?_
        try simp only [Act.put, List.setIfInBounds_toArray, List.set_cons_zero, List.set_cons_succ]
        refine wpAnyH_take (i := 33) (oi := { dst := some 4, op := Op.assign (Operand.tmp 43), type := 4, pos := "law.go:99", after := #[{ on := 32, ground := Ground.data }, { on := 30, ground := Ground.chain }, { on := 0, ground := Ground.phase }, { on := 1, ground := Ground.phase }, { on := 2, ground := Ground.phase }, { on := 3, ground := Ground.phase }, { on := 4, ground := Ground.phase }, { on := 5, ground := Ground.phase }, { on := 6, ground := Ground.phase }, { on := 7, ground := Ground.phase }, { on := 8, ground := Ground.phase }, { on := 9, ground := Ground.phase }, { on := 10, ground := Ground.phase }, { on := 11, ground := Ground.phase }, { on := 12, ground := Ground.phase }, { on := 13, ground := Ground.phase }, { on := 14, ground := Ground.phase }, { on := 15, ground := Ground.phase }, { on := 16, ground := Ground.phase }, { on := 17, ground := Ground.phase }, { on := 18, ground := Ground.phase }, { on := 19, ground := Ground.phase }, { on := 20, ground := Ground.phase }, { on := 21, ground := Ground.phase }, { on := 22, ground := Ground.phase }, { on := 23, ground := Ground.phase }, { on := 24, ground := Ground.phase }, { on := 25, ground := Ground.phase }, { on := 26, ground := Ground.phase }, { on := 27, ground := Ground.phase }, { on := 28, ground := Ground.phase }, { on := 29, ground := Ground.phase }, { on := 30, ground := Ground.phase }, { on := 31, ground := Ground.phase }, { on := 32, ground := Ground.phase }], guard := none }) (v := .bool true) rfl (by kernel_rfl) (by kernel_rfl) (by kernel_rfl) (fun _ _ _ h => h) (Or.inl ⟨by rfl, by intro W hSw; go_simp⟩) hHeld ?_
        try simp only [Act.put, List.setIfInBounds_toArray, List.set_cons_zero, List.set_cons_succ]
        refine wpAnyH_done (by kernel_rfl) ?_ _
        go_wp2
        go_ret
        exact ⟨rfl, hHeld.2.2⟩
    · have HT16 : Hid (Texts (w7.alloc (.cells #[.string z1] 9)) (some ⟨w7.heap.size, 0, none⟩) 1 [z1]) := texts_new w7 [z1] 9
      go_simp
      refine hK.out _ _ (keep2 ((Below.refl _ _).alloc (Nat.le_refl _) _) hHeld) (fun hHeld => ?_)
      clear hK K
      try simp only [Act.put, List.setIfInBounds_toArray, List.set_cons_zero, List.set_cons_succ]
      refine wpAnyH_ready (rs := [13]) (by kernel_rfl) (by simp) ?_
      refine (AllReadyH.cons (o := { dst := some 24, op := Op.call { callee := Callee.value (Operand.func 7), args := #[Operand.tmp 22, Operand.tmp 23], argTypes := #[23, 23] }, type := 23, pos := "law.go:99", after := #[{ on := 11, ground := Ground.data }, { on := 12, ground := Ground.data }, { on := 10, ground := Ground.chain }, { on := 10, ground := Ground.guard }], guard := some (10, true) }) rfl (fun K hK => ?_) AllReadyH.nil)
      go_simp
      refine (K13.out _ hHeld.2.2).mono ?_
      rintro e w13 ⟨rfl, hb13⟩
      try (replace HT16 := hidk (HT16.out.keep hb13))
      go_wp2_with fail
      refine hK.out _ _ (keep2 hb13 hHeld) (fun hHeld => ?_)
      clear hK K
      try simp only [Act.put, List.setIfInBounds_toArray, List.set_cons_zero, List.set_cons_succ]
      refine wpAnyH_ready (rs := [17]) (by kernel_rfl) (by simp) ?_
      refine (AllReadyH.cons (o := { dst := some 28, op := Op.call { callee := Callee.value (Operand.func 6), args := #[Operand.tmp 27], argTypes := #[32] }, type := 23, pos := "law.go:99", after := #[{ on := 16, ground := Ground.data }, { on := 13, ground := Ground.chain }, { on := 10, ground := Ground.guard }], guard := some (10, true) }) rfl (fun K hK => ?_) AllReadyH.nil)
      go_simp
      refine (K17.out _ _ HT16.out hHeld.2.2).mono ?_
      rintro e w17 ⟨rfl, hb17⟩
      clear HT16
      go_wp2_with fail
      refine hK.out _ _ (keep2 hb17 hHeld) (fun hHeld => ?_)
      clear hK K
      try simp only [Act.put, List.setIfInBounds_toArray, List.set_cons_zero, List.set_cons_succ]
      refine wpAnyH_take (i := 18) (oi := { dst := some 29, op := Op.binOp BinOp.eql 23 (Operand.tmp 24) (Operand.tmp 28) 23, type := 4, pos := "law.go:99", after := #[{ on := 13, ground := Ground.data }, { on := 17, ground := Ground.data }, { on := 10, ground := Ground.guard }], guard := some (10, true) }) (v := .bool true) rfl (by kernel_rfl) (by kernel_rfl) (by kernel_rfl) (fun _ _ _ h => h) (Or.inl ⟨by rfl, by intro W hSw; go_simp⟩) hHeld ?_
      try simp only [Act.put, List.setIfInBounds_toArray, List.set_cons_zero, List.set_cons_succ]
      refine wpAnyH_take (i := 19) (oi := { dst := some 30, op := Op.pick (Operand.tmp 21) (Operand.tmp 29) (Operand.const (Value.bool false)), type := 4, pos := "law.go:99", after := #[{ on := 10, ground := Ground.data }, { on := 18, ground := Ground.data }], guard := none }) (v := .bool true) rfl (by kernel_rfl) (by kernel_rfl) (by kernel_rfl) (fun _ _ _ h => h) (Or.inl ⟨by rfl, by intro W hSw; go_simp⟩) hHeld ?_
      try simp only [Act.put, List.setIfInBounds_toArray, List.set_cons_zero, List.set_cons_succ]
      refine wpAnyH_take (i := 20) (oi := { dst := some 31, op := Op.move (Operand.tmp 30), type := 4, pos := "law.go:99", after := #[{ on := 19, ground := Ground.data }, { on := 17, ground := Ground.chain }], guard := none }) (v := .bool true) rfl (by kernel_rfl) (by kernel_rfl) (by kernel_rfl) (fun _ _ _ h => h) (Or.inl ⟨by rfl, by intro W hSw; go_simp⟩) hHeld ?_
      try simp only [Act.put, List.setIfInBounds_toArray, List.set_cons_zero, List.set_cons_succ]
      refine wpAnyH_take (i := 21) (oi := { dst := some 32, op := Op.move (Operand.tmp 5), type := 9, pos := "law.go:99", after := #[{ on := 20, ground := Ground.guard }], guard := some (20, true) }) (v := .string z) rfl (by kernel_rfl) (by kernel_rfl) (by kernel_rfl) (fun _ _ _ h => h) (Or.inl ⟨by rfl, by intro W hSw; go_simp⟩) hHeld ?_
      try simp only [Act.put, List.setIfInBounds_toArray, List.set_cons_zero, List.set_cons_succ]
      refine wpAnyH_take (i := 24) (oi := { dst := some 35, op := Op.move (Operand.tmp 5), type := 9, pos := "law.go:99", after := #[{ on := 20, ground := Ground.guard }], guard := some (20, true) }) (v := .string z) rfl (by kernel_rfl) (by kernel_rfl) (by kernel_rfl) (fun _ _ _ h => h) (Or.inl ⟨by rfl, by intro W hSw; go_simp⟩) hHeld ?_
      try simp only [Act.put, List.setIfInBounds_toArray, List.set_cons_zero, List.set_cons_succ]
      refine wpAnyH_take (i := 25) (oi := { dst := some 36, op := Op.slice 9 (Operand.tmp 35) none (some (Operand.const (Value.int IntKind.i64 32))) none, type := 9, pos := "law.go:99", after := #[{ on := 24, ground := Ground.data }, { on := 20, ground := Ground.guard }], guard := some (20, true) }) (v := .string x) rfl (by kernel_rfl) (by kernel_rfl) (by kernel_rfl) (fun _ _ _ h => h) (Or.inl ⟨by rfl, by intro W hSw; have := HS1.out; go_simp⟩) hHeld ?_
      try simp only [Act.put, List.setIfInBounds_toArray, List.set_cons_zero, List.set_cons_succ]
      refine wpAnyH_take (i := 26) (oi := { dst := some 37, op := Op.binOp BinOp.add 9 (Operand.const (Value.string { data := #[0] })) (Operand.tmp 36) 9, type := 9, pos := "law.go:99", after := #[{ on := 25, ground := Ground.data }, { on := 20, ground := Ground.guard }], guard := some (20, true) }) (v := .string x0) rfl (by kernel_rfl) (by kernel_rfl) (by kernel_rfl) (fun _ _ _ h => h) (Or.inl ⟨by rfl, by intro W hSw; go_simp; exact HX0.out.symm⟩) hHeld ?_
      try simp only [Act.put, List.setIfInBounds_toArray, List.set_cons_zero, List.set_cons_succ]
      refine wpAnyH_take (i := 27) (oi := { dst := some 38, op := Op.move (Operand.tmp 5), type := 9, pos := "law.go:99", after := #[{ on := 20, ground := Ground.guard }], guard := some (20, true) }) (v := .string z) rfl (by kernel_rfl) (by kernel_rfl) (by kernel_rfl) (fun _ _ _ h => h) (Or.inl ⟨by rfl, by intro W hSw; go_simp⟩) hHeld ?_
      try simp only [Act.put, List.setIfInBounds_toArray, List.set_cons_zero, List.set_cons_succ]
      refine wpAnyH_take (i := 28) (oi := { dst := some 39, op := Op.slice 9 (Operand.tmp 38) (some (Operand.const (Value.int IntKind.i64 32))) none none, type := 9, pos := "law.go:99", after := #[{ on := 27, ground := Ground.data }, { on := 20, ground := Ground.guard }], guard := some (20, true) }) (v := .string y) rfl (by kernel_rfl) (by kernel_rfl) (by kernel_rfl) (fun _ _ _ h => h) (Or.inl ⟨by rfl, by intro W hSw; have := HS2.out; go_simp⟩) hHeld ?_
      try simp only [Act.put, List.setIfInBounds_toArray, List.set_cons_zero, List.set_cons_succ]
      refine wpAnyH_ready (rs := [22, 29]) (by kernel_rfl) (by simp) ?_
      refine (AllReadyH.cons (o := { dst := some 33, op := Op.buildSlice 32 2 #[(0, Operand.const (Value.string { data := #[0] })), (1, Operand.tmp 32)], type := 32, pos := "law.go:99", after := #[{ on := 21, ground := Ground.data }, { on := 20, ground := Ground.guard }], guard := some (20, true) }) rfl (fun K hK => ?_) (AllReadyH.cons (o := { dst := some 40, op := Op.buildSlice 32 2 #[(0, Operand.tmp 37), (1, Operand.tmp 39)], type := 32, pos := "law.go:99", after := #[{ on := 26, ground := Ground.data }, { on := 28, ground := Ground.data }, { on := 20, ground := Ground.guard }], guard := some (20, true) }) rfl (fun K hK => ?_) AllReadyH.nil))
      · have HT22 : Hid (Texts (w17.alloc (.cells #[.string ⟨#[0]⟩, .string z] 9)) (some ⟨w17.heap.size, 0, none⟩) 2 [⟨#[0]⟩, z]) := texts_new w17 [⟨#[0]⟩, z] 9
        try (replace HT29 := hidk (HT29.out.keep ((Below.refl _ _).alloc (Nat.le_refl _) (.cells #[.string ⟨#[0]⟩, .string z] 9))))
        go_simp
        refine hK.out _ _ (keep2 ((Below.refl _ _).alloc (Nat.le_refl _) _) hHeld) (fun hHeld => ?_)
        clear hK K
        try simp only [Act.put, List.setIfInBounds_toArray, List.set_cons_zero, List.set_cons_succ]
        refine wpAnyH_ready (rs := [23, 29]) (by kernel_rfl) (by simp) ?_
        refine (AllReadyH.cons (o := { dst := some 34, op := Op.call { callee := Callee.value (Operand.func 6), args := #[Operand.tmp 33], argTypes := #[32] }, type := 23, pos := "law.go:99", after := #[{ on := 22, ground := Ground.data }, { on := 20, ground := Ground.chain }, { on := 20, ground := Ground.guard }], guard := some (20, true) }) rfl (fun K hK => ?_) (AllReadyH.cons (o := { dst := some 40, op := Op.buildSlice 32 2 #[(0, Operand.tmp 37), (1, Operand.tmp 39)], type := 32, pos := "law.go:99", after := #[{ on := 26, ground := Ground.data }, { on := 28, ground := Ground.data }, { on := 20, ground := Ground.guard }], guard := some (20, true) }) rfl (fun K hK => ?_) AllReadyH.nil))
        · go_simp
          try simp only [World.size_alloc] at HT22
          refine (K23.out _ _ HT22.out hHeld.2.2).mono ?_
          rintro e w23 ⟨rfl, hb23⟩
          clear HT22
          try (replace HT29 := hidk (HT29.out.keep hb23))
          go_wp2_with fail
          refine hK.out _ _ (keep2 hb23 hHeld) (fun hHeld => ?_)
          clear hK K
          try simp only [Act.put, List.setIfInBounds_toArray, List.set_cons_zero, List.set_cons_succ]
          refine wpAnyH_ready (rs := [29]) (by kernel_rfl) (by simp) ?_
          refine (AllReadyH.cons (o := { dst := some 40, op := Op.buildSlice 32 2 #[(0, Operand.tmp 37), (1, Operand.tmp 39)], type := 32, pos := "law.go:99", after := #[{ on := 26, ground := Ground.data }, { on := 28, ground := Ground.data }, { on := 20, ground := Ground.guard }], guard := some (20, true) }) rfl (fun K hK => ?_) AllReadyH.nil)
          have HT29 : Hid (Texts (w23.alloc (.cells #[.string x0, .string y] 9)) (some ⟨w23.heap.size, 0, none⟩) 2 [x0, y]) := texts_new w23 [x0, y] 9
          try (replace HT22 := hidk (HT22.out.keep ((Below.refl _ _).alloc (Nat.le_refl _) (.cells #[.string x0, .string y] 9))))
          go_simp
          refine hK.out _ _ (keep2 ((Below.refl _ _).alloc (Nat.le_refl _) _) hHeld) (fun hHeld => ?_)
          clear hK K
          try simp only [Act.put, List.setIfInBounds_toArray, List.set_cons_zero, List.set_cons_succ]
          refine wpAnyH_ready (rs := [30]) (by kernel_rfl) (by simp) ?_
          refine (AllReadyH.cons (o := { dst := some 41, op := Op.call { callee := Callee.value (Operand.func 6), args := #[Operand.tmp 40], argTypes := #[32] }, type := 23, pos := "law.go:99", after := #[{ on := 29, ground := Ground.data }, { on := 23, ground := Ground.chain }, { on := 20, ground := Ground.guard }], guard := some (20, true) }) rfl (fun K hK => ?_) AllReadyH.nil)
          go_simp
          try simp only [World.size_alloc] at HT29
          refine (K30.out _ _ HT29.out hHeld.2.2).mono ?_
          rintro e w30 ⟨rfl, hb30⟩
          clear HT29
          go_wp2_with fail
          refine hK.out _ _ (keep2 hb30 hHeld) (fun hHeld => ?_)
          clear hK K
          try simp only [Act.put, List.setIfInBounds_toArray, List.set_cons_zero, List.set_cons_succ]
          refine wpAnyH_take (i := 31) (oi := { dst := some 42, op := Op.binOp BinOp.eql 23 (Operand.tmp 34) (Operand.tmp 41) 23, type := 4, pos := "law.go:99", after := #[{ on := 23, ground := Ground.data }, { on := 30, ground := Ground.data }, { on := 20, ground := Ground.guard }], guard := some (20, true) }) (v := .bool true) rfl (by kernel_rfl) (by kernel_rfl) (by kernel_rfl) (fun _ _ _ h => h) (Or.inl ⟨by rfl, by intro W hSw; go_simp⟩) hHeld ?_
          try simp only [Act.put, List.setIfInBounds_toArray, List.set_cons_zero, List.set_cons_succ]
          refine wpAnyH_take (i := 32) (oi := { dst := some 43, op := Op.pick (Operand.tmp 31) (Operand.tmp 42) (Operand.const (Value.bool false)), type := 4, pos := "law.go:99", after := #[{ on := 20, ground := Ground.data }, { on := 31, ground := Ground.data }], guard := none }) (v := .bool true) rfl (by kernel_rfl) (by kernel_rfl) (by kernel_rfl) (fun _ _ _ h => h) (Or.inl ⟨by rfl, by intro W hSw; go_simp⟩) hHeld ?_
          try simp only [Act.put, List.setIfInBounds_toArray, List.set_cons_zero, List.set_cons_succ]
          refine wpAnyH_take (i := 33) (oi := { dst := some 4, op := Op.assign (Operand.tmp 43), type := 4, pos := "law.go:99", after := #[{ on := 32, ground := Ground.data }, { on := 30, ground := Ground.chain }, { on := 0, ground := Ground.phase }, { on := 1, ground := Ground.phase }, { on := 2, ground := Ground.phase }, { on := 3, ground := Ground.phase }, { on := 4, ground := Ground.phase }, { on := 5, ground := Ground.phase }, { on := 6, ground := Ground.phase }, { on := 7, ground := Ground.phase }, { on := 8, ground := Ground.phase }, { on := 9, ground := Ground.phase }, { on := 10, ground := Ground.phase }, { on := 11, ground := Ground.phase }, { on := 12, ground := Ground.phase }, { on := 13, ground := Ground.phase }, { on := 14, ground := Ground.phase }, { on := 15, ground := Ground.phase }, { on := 16, ground := Ground.phase }, { on := 17, ground := Ground.phase }, { on := 18, ground := Ground.phase }, { on := 19, ground := Ground.phase }, { on := 20, ground := Ground.phase }, { on := 21, ground := Ground.phase }, { on := 22, ground := Ground.phase }, { on := 23, ground := Ground.phase }, { on := 24, ground := Ground.phase }, { on := 25, ground := Ground.phase }, { on := 26, ground := Ground.phase }, { on := 27, ground := Ground.phase }, { on := 28, ground := Ground.phase }, { on := 29, ground := Ground.phase }, { on := 30, ground := Ground.phase }, { on := 31, ground := Ground.phase }, { on := 32, ground := Ground.phase }], guard := none }) (v := .bool true) rfl (by kernel_rfl) (by kernel_rfl) (by kernel_rfl) (fun _ _ _ h => h) (Or.inl ⟨by rfl, by intro W hSw; go_simp⟩) hHeld ?_
          try simp only [Act.put, List.setIfInBounds_toArray, List.set_cons_zero, List.set_cons_succ]
          refine wpAnyH_done (by kernel_rfl) ?_ _
          go_wp2
          go_ret
          exact ⟨rfl, hHeld.2.2⟩
        · have HT29 : Hid (Texts ((w17.alloc (.cells #[.string ⟨#[0]⟩, .string z] 9)).alloc (.cells #[.string x0, .string y] 9)) (some ⟨(w17.alloc (.cells #[.string ⟨#[0]⟩, .string z] 9)).heap.size, 0, none⟩) 2 [x0, y]) := texts_new (w17.alloc (.cells #[.string ⟨#[0]⟩, .string z] 9)) [x0, y] 9
          try (replace HT22 := hidk (HT22.out.keep ((Below.refl _ _).alloc (Nat.le_refl _) (.cells #[.string x0, .string y] 9))))
          go_simp
          refine hK.out _ _ (keep2 ((Below.refl _ _).alloc (Nat.le_refl _) _) hHeld) (fun hHeld => ?_)
          clear hK K
          try simp only [Act.put, List.setIfInBounds_toArray, List.set_cons_zero, List.set_cons_succ]
          refine wpAnyH_ready (rs := [23]) (by kernel_rfl) (by simp) ?_
          refine (AllReadyH.cons (o := { dst := some 34, op := Op.call { callee := Callee.value (Operand.func 6), args := #[Operand.tmp 33], argTypes := #[32] }, type := 23, pos := "law.go:99", after := #[{ on := 22, ground := Ground.data }, { on := 20, ground := Ground.chain }, { on := 20, ground := Ground.guard }], guard := some (20, true) }) rfl (fun K hK => ?_) AllReadyH.nil)
          go_simp
          try simp only [World.size_alloc] at HT22
          refine (K23.out _ _ HT22.out hHeld.2.2).mono ?_
          rintro e w23 ⟨rfl, hb23⟩
          clear HT22
          try (replace HT29 := hidk (HT29.out.keep hb23))
          go_wp2_with fail
          refine hK.out _ _ (keep2 hb23 hHeld) (fun hHeld => ?_)
          clear hK K
          try simp only [Act.put, List.setIfInBounds_toArray, List.set_cons_zero, List.set_cons_succ]
          refine wpAnyH_ready (rs := [30]) (by kernel_rfl) (by simp) ?_
          refine (AllReadyH.cons (o := { dst := some 41, op := Op.call { callee := Callee.value (Operand.func 6), args := #[Operand.tmp 40], argTypes := #[32] }, type := 23, pos := "law.go:99", after := #[{ on := 29, ground := Ground.data }, { on := 23, ground := Ground.chain }, { on := 20, ground := Ground.guard }], guard := some (20, true) }) rfl (fun K hK => ?_) AllReadyH.nil)
          go_simp
          try simp only [World.size_alloc] at HT29
          refine (K30.out _ _ HT29.out hHeld.2.2).mono ?_
          rintro e w30 ⟨rfl, hb30⟩
          clear HT29
          go_wp2_with fail
          refine hK.out _ _ (keep2 hb30 hHeld) (fun hHeld => ?_)
          clear hK K
          try simp only [Act.put, List.setIfInBounds_toArray, List.set_cons_zero, List.set_cons_succ]
          refine wpAnyH_take (i := 31) (oi := { dst := some 42, op := Op.binOp BinOp.eql 23 (Operand.tmp 34) (Operand.tmp 41) 23, type := 4, pos := "law.go:99", after := #[{ on := 23, ground := Ground.data }, { on := 30, ground := Ground.data }, { on := 20, ground := Ground.guard }], guard := some (20, true) }) (v := .bool true) rfl (by kernel_rfl) (by kernel_rfl) (by kernel_rfl) (fun _ _ _ h => h) (Or.inl ⟨by rfl, by intro W hSw; go_simp⟩) hHeld ?_
          try simp only [Act.put, List.setIfInBounds_toArray, List.set_cons_zero, List.set_cons_succ]
          refine wpAnyH_take (i := 32) (oi := { dst := some 43, op := Op.pick (Operand.tmp 31) (Operand.tmp 42) (Operand.const (Value.bool false)), type := 4, pos := "law.go:99", after := #[{ on := 20, ground := Ground.data }, { on := 31, ground := Ground.data }], guard := none }) (v := .bool true) rfl (by kernel_rfl) (by kernel_rfl) (by kernel_rfl) (fun _ _ _ h => h) (Or.inl ⟨by rfl, by intro W hSw; go_simp⟩) hHeld ?_
          try simp only [Act.put, List.setIfInBounds_toArray, List.set_cons_zero, List.set_cons_succ]
          refine wpAnyH_take (i := 33) (oi := { dst := some 4, op := Op.assign (Operand.tmp 43), type := 4, pos := "law.go:99", after := #[{ on := 32, ground := Ground.data }, { on := 30, ground := Ground.chain }, { on := 0, ground := Ground.phase }, { on := 1, ground := Ground.phase }, { on := 2, ground := Ground.phase }, { on := 3, ground := Ground.phase }, { on := 4, ground := Ground.phase }, { on := 5, ground := Ground.phase }, { on := 6, ground := Ground.phase }, { on := 7, ground := Ground.phase }, { on := 8, ground := Ground.phase }, { on := 9, ground := Ground.phase }, { on := 10, ground := Ground.phase }, { on := 11, ground := Ground.phase }, { on := 12, ground := Ground.phase }, { on := 13, ground := Ground.phase }, { on := 14, ground := Ground.phase }, { on := 15, ground := Ground.phase }, { on := 16, ground := Ground.phase }, { on := 17, ground := Ground.phase }, { on := 18, ground := Ground.phase }, { on := 19, ground := Ground.phase }, { on := 20, ground := Ground.phase }, { on := 21, ground := Ground.phase }, { on := 22, ground := Ground.phase }, { on := 23, ground := Ground.phase }, { on := 24, ground := Ground.phase }, { on := 25, ground := Ground.phase }, { on := 26, ground := Ground.phase }, { on := 27, ground := Ground.phase }, { on := 28, ground := Ground.phase }, { on := 29, ground := Ground.phase }, { on := 30, ground := Ground.phase }, { on := 31, ground := Ground.phase }, { on := 32, ground := Ground.phase }], guard := none }) (v := .bool true) rfl (by kernel_rfl) (by kernel_rfl) (by kernel_rfl) (fun _ _ _ h => h) (Or.inl ⟨by rfl, by intro W hSw; go_simp⟩) hHeld ?_
          try simp only [Act.put, List.setIfInBounds_toArray, List.set_cons_zero, List.set_cons_succ]
          refine wpAnyH_done (by kernel_rfl) ?_ _
          go_wp2
          go_ret
          exact ⟨rfl, hHeld.2.2⟩
      · have HT29 : Hid (Texts (w17.alloc (.cells #[.string x0, .string y] 9)) (some ⟨w17.heap.size, 0, none⟩) 2 [x0, y]) := texts_new w17 [x0, y] 9
        try (replace HT22 := hidk (HT22.out.keep ((Below.refl _ _).alloc (Nat.le_refl _) (.cells #[.string x0, .string y] 9))))
        go_simp
        refine hK.out _ _ (keep2 ((Below.refl _ _).alloc (Nat.le_refl _) _) hHeld) (fun hHeld => ?_)
        clear hK K
        try simp only [Act.put, List.setIfInBounds_toArray, List.set_cons_zero, List.set_cons_succ]
        refine wpAnyH_ready (rs := [22]) (by kernel_rfl) (by simp) ?_
        refine (AllReadyH.cons (o := { dst := some 33, op := Op.buildSlice 32 2 #[(0, Operand.const (Value.string { data := #[0] })), (1, Operand.tmp 32)], type := 32, pos := "law.go:99", after := #[{ on := 21, ground := Ground.data }, { on := 20, ground := Ground.guard }], guard := some (20, true) }) rfl (fun K hK => ?_) AllReadyH.nil)
        have HT22 : Hid (Texts ((w17.alloc (.cells #[.string x0, .string y] 9)).alloc (.cells #[.string ⟨#[0]⟩, .string z] 9)) (some ⟨(w17.alloc (.cells #[.string x0, .string y] 9)).heap.size, 0, none⟩) 2 [⟨#[0]⟩, z]) := texts_new (w17.alloc (.cells #[.string x0, .string y] 9)) [⟨#[0]⟩, z] 9
        try (replace HT29 := hidk (HT29.out.keep ((Below.refl _ _).alloc (Nat.le_refl _) (.cells #[.string ⟨#[0]⟩, .string z] 9))))
        go_simp
        refine hK.out _ _ (keep2 ((Below.refl _ _).alloc (Nat.le_refl _) _) hHeld) (fun hHeld => ?_)
        clear hK K
        try simp only [Act.put, List.setIfInBounds_toArray, List.set_cons_zero, List.set_cons_succ]
        refine wpAnyH_ready (rs := [23]) (by kernel_rfl) (by simp) ?_
        refine (AllReadyH.cons (o := { dst := some 34, op := Op.call { callee := Callee.value (Operand.func 6), args := #[Operand.tmp 33], argTypes := #[32] }, type := 23, pos := "law.go:99", after := #[{ on := 22, ground := Ground.data }, { on := 20, ground := Ground.chain }, { on := 20, ground := Ground.guard }], guard := some (20, true) }) rfl (fun K hK => ?_) AllReadyH.nil)
        go_simp
        try simp only [World.size_alloc] at HT22
        refine (K23.out _ _ HT22.out hHeld.2.2).mono ?_
        rintro e w23 ⟨rfl, hb23⟩
        clear HT22
        try (replace HT29 := hidk (HT29.out.keep hb23))
        go_wp2_with fail
        refine hK.out _ _ (keep2 hb23 hHeld) (fun hHeld => ?_)
        clear hK K
        try simp only [Act.put, List.setIfInBounds_toArray, List.set_cons_zero, List.set_cons_succ]
        refine wpAnyH_ready (rs := [30]) (by kernel_rfl) (by simp) ?_
        refine (AllReadyH.cons (o := { dst := some 41, op := Op.call { callee := Callee.value (Operand.func 6), args := #[Operand.tmp 40], argTypes := #[32] }, type := 23, pos := "law.go:99", after := #[{ on := 29, ground := Ground.data }, { on := 23, ground := Ground.chain }, { on := 20, ground := Ground.guard }], guard := some (20, true) }) rfl (fun K hK => ?_) AllReadyH.nil)
        go_simp
        try simp only [World.size_alloc] at HT29
        refine (K30.out _ _ HT29.out hHeld.2.2).mono ?_
        rintro e w30 ⟨rfl, hb30⟩
        clear HT29
        go_wp2_with fail
        refine hK.out _ _ (keep2 hb30 hHeld) (fun hHeld => ?_)
        clear hK K
        try simp only [Act.put, List.setIfInBounds_toArray, List.set_cons_zero, List.set_cons_succ]
        refine wpAnyH_take (i := 31) (oi := { dst := some 42, op := Op.binOp BinOp.eql 23 (Operand.tmp 34) (Operand.tmp 41) 23, type := 4, pos := "law.go:99", after := #[{ on := 23, ground := Ground.data }, { on := 30, ground := Ground.data }, { on := 20, ground := Ground.guard }], guard := some (20, true) }) (v := .bool true) rfl (by kernel_rfl) (by kernel_rfl) (by kernel_rfl) (fun _ _ _ h => h) (Or.inl ⟨by rfl, by intro W hSw; go_simp⟩) hHeld ?_
        try simp only [Act.put, List.setIfInBounds_toArray, List.set_cons_zero, List.set_cons_succ]
        refine wpAnyH_take (i := 32) (oi := { dst := some 43, op := Op.pick (Operand.tmp 31) (Operand.tmp 42) (Operand.const (Value.bool false)), type := 4, pos := "law.go:99", after := #[{ on := 20, ground := Ground.data }, { on := 31, ground := Ground.data }], guard := none }) (v := .bool true) rfl (by kernel_rfl) (by kernel_rfl) (by kernel_rfl) (fun _ _ _ h => h) (Or.inl ⟨by rfl, by intro W hSw; go_simp⟩) hHeld ?_
        try simp only [Act.put, List.setIfInBounds_toArray, List.set_cons_zero, List.set_cons_succ]
        refine wpAnyH_take (i := 33) (oi := { dst := some 4, op := Op.assign (Operand.tmp 43), type := 4, pos := "law.go:99", after := #[{ on := 32, ground := Ground.data }, { on := 30, ground := Ground.chain }, { on := 0, ground := Ground.phase }, { on := 1, ground := Ground.phase }, { on := 2, ground := Ground.phase }, { on := 3, ground := Ground.phase }, { on := 4, ground := Ground.phase }, { on := 5, ground := Ground.phase }, { on := 6, ground := Ground.phase }, { on := 7, ground := Ground.phase }, { on := 8, ground := Ground.phase }, { on := 9, ground := Ground.phase }, { on := 10, ground := Ground.phase }, { on := 11, ground := Ground.phase }, { on := 12, ground := Ground.phase }, { on := 13, ground := Ground.phase }, { on := 14, ground := Ground.phase }, { on := 15, ground := Ground.phase }, { on := 16, ground := Ground.phase }, { on := 17, ground := Ground.phase }, { on := 18, ground := Ground.phase }, { on := 19, ground := Ground.phase }, { on := 20, ground := Ground.phase }, { on := 21, ground := Ground.phase }, { on := 22, ground := Ground.phase }, { on := 23, ground := Ground.phase }, { on := 24, ground := Ground.phase }, { on := 25, ground := Ground.phase }, { on := 26, ground := Ground.phase }, { on := 27, ground := Ground.phase }, { on := 28, ground := Ground.phase }, { on := 29, ground := Ground.phase }, { on := 30, ground := Ground.phase }, { on := 31, ground := Ground.phase }, { on := 32, ground := Ground.phase }], guard := none }) (v := .bool true) rfl (by kernel_rfl) (by kernel_rfl) (by kernel_rfl) (fun _ _ _ h => h) (Or.inl ⟨by rfl, by intro W hSw; go_simp⟩) hHeld ?_
        try simp only [Act.put, List.setIfInBounds_toArray, List.set_cons_zero, List.set_cons_succ]
        refine wpAnyH_done (by kernel_rfl) ?_ _
        go_wp2
        go_ret
        exact ⟨rfl, hHeld.2.2⟩
  · have HT6 : Hid (Texts (w0.alloc (.cells #[.string z0] 9)) (some ⟨w0.heap.size, 0, none⟩) 1 [z0]) := texts_new w0 [z0] 9
    go_simp
    refine hK.out _ _ (keep2 ((Below.refl _ _).alloc (Nat.le_refl _) _) hHeld) (fun hHeld => ?_)
    clear hK K
    try simp only [Act.put, List.setIfInBounds_toArray, List.set_cons_zero, List.set_cons_succ]
    refine wpAnyH_ready (rs := [3]) (by kernel_rfl) (by simp) ?_
    refine (AllReadyH.cons (o := { dst := some 14, op := Op.call { callee := Callee.value (Operand.func 5), args := #[Operand.tmp 13], argTypes := #[9] }, type := 23, pos := "law.go:99", after := #[{ on := 2, ground := Ground.data }, { on := 1, ground := Ground.chain }, { on := 1, ground := Ground.guard }], guard := some (1, true) }) rfl (fun K hK => ?_) AllReadyH.nil)
    go_simp
    refine (K3.out _ hHeld.2.2).mono ?_
    rintro e w3 ⟨rfl, hb3⟩
    try (replace HT6 := hidk (HT6.out.keep hb3))
    go_wp2_with fail
    refine hK.out _ _ (keep2 hb3 hHeld) (fun hHeld => ?_)
    clear hK K
    try simp only [Act.put, List.setIfInBounds_toArray, List.set_cons_zero, List.set_cons_succ]
    refine wpAnyH_ready (rs := [7]) (by kernel_rfl) (by simp) ?_
    refine (AllReadyH.cons (o := { dst := some 18, op := Op.call { callee := Callee.value (Operand.func 6), args := #[Operand.tmp 17], argTypes := #[32] }, type := 23, pos := "law.go:99", after := #[{ on := 6, ground := Ground.data }, { on := 3, ground := Ground.chain }, { on := 1, ground := Ground.guard }], guard := some (1, true) }) rfl (fun K hK => ?_) AllReadyH.nil)
    go_simp
    refine (K7.out _ _ HT6.out hHeld.2.2).mono ?_
    rintro e w7 ⟨rfl, hb7⟩
    clear HT6
    go_wp2_with fail
    refine hK.out _ _ (keep2 hb7 hHeld) (fun hHeld => ?_)
    clear hK K
    try simp only [Act.put, List.setIfInBounds_toArray, List.set_cons_zero, List.set_cons_succ]
    refine wpAnyH_take (i := 8) (oi := { dst := some 19, op := Op.binOp BinOp.eql 23 (Operand.tmp 14) (Operand.tmp 18) 23, type := 4, pos := "law.go:99", after := #[{ on := 3, ground := Ground.data }, { on := 7, ground := Ground.data }, { on := 1, ground := Ground.guard }], guard := some (1, true) }) (v := .bool true) rfl (by kernel_rfl) (by kernel_rfl) (by kernel_rfl) (fun _ _ _ h => h) (Or.inl ⟨by rfl, by intro W hSw; go_simp⟩) hHeld ?_
    try simp only [Act.put, List.setIfInBounds_toArray, List.set_cons_zero, List.set_cons_succ]
    refine wpAnyH_take (i := 9) (oi := { dst := some 20, op := Op.pick (Operand.tmp 12) (Operand.tmp 19) (Operand.const (Value.bool false)), type := 4, pos := "law.go:99", after := #[{ on := 1, ground := Ground.data }, { on := 8, ground := Ground.data }], guard := none }) (v := .bool true) rfl (by kernel_rfl) (by kernel_rfl) (by kernel_rfl) (fun _ _ _ h => h) (Or.inl ⟨by rfl, by intro W hSw; go_simp⟩) hHeld ?_
    try simp only [Act.put, List.setIfInBounds_toArray, List.set_cons_zero, List.set_cons_succ]
    refine wpAnyH_take (i := 10) (oi := { dst := some 21, op := Op.move (Operand.tmp 20), type := 4, pos := "law.go:99", after := #[{ on := 9, ground := Ground.data }, { on := 7, ground := Ground.chain }], guard := none }) (v := .bool true) rfl (by kernel_rfl) (by kernel_rfl) (by kernel_rfl) (fun _ _ _ h => h) (Or.inl ⟨by rfl, by intro W hSw; go_simp⟩) hHeld ?_
    try simp only [Act.put, List.setIfInBounds_toArray, List.set_cons_zero, List.set_cons_succ]
    refine wpAnyH_take (i := 11) (oi := { dst := some 22, op := Op.load 23 (Operand.tmp 2), type := 23, pos := "law.go:99", after := #[{ on := 10, ground := Ground.guard }], guard := some (10, true) }) (v := .agg A.toArray) rfl (by kernel_rfl) (by kernel_rfl) (by kernel_rfl) (fun _ _ _ h => h) (yieldsIf_load_mid (by rfl) 23 (.tmp 2) rfl _ 0 rfl A _ (fun _ h => h.1) Tryd.underlying23 rfl z0') hHeld ?_
    try simp only [Act.put, List.setIfInBounds_toArray, List.set_cons_zero, List.set_cons_succ]
    refine wpAnyH_take (i := 12) (oi := { dst := some 23, op := Op.load 23 (Operand.tmp 3), type := 23, pos := "law.go:99", after := #[{ on := 10, ground := Ground.guard }], guard := some (10, true) }) (v := .agg B.toArray) rfl (by kernel_rfl) (by kernel_rfl) (by kernel_rfl) (fun _ _ _ h => h) (yieldsIf_load_mid (by rfl) 23 (.tmp 3) rfl _ 0 rfl B _ (fun _ h => h.2.1) Tryd.underlying23 rfl z1') hHeld ?_
    try simp only [Act.put, List.setIfInBounds_toArray, List.set_cons_zero, List.set_cons_succ]
    refine wpAnyH_take (i := 14) (oi := { dst := some 25, op := Op.move (Operand.tmp 5), type := 9, pos := "law.go:99", after := #[{ on := 10, ground := Ground.guard }], guard := some (10, true) }) (v := .string z) rfl (by kernel_rfl) (by kernel_rfl) (by kernel_rfl) (fun _ _ _ h => h) (Or.inl ⟨by rfl, by intro W hSw; go_simp⟩) hHeld ?_
    try simp only [Act.put, List.setIfInBounds_toArray, List.set_cons_zero, List.set_cons_succ]
    refine wpAnyH_take (i := 15) (oi := { dst := some 26, op := Op.binOp BinOp.add 9 (Operand.const (Value.string { data := #[1] })) (Operand.tmp 25) 9, type := 9, pos := "law.go:99", after := #[{ on := 14, ground := Ground.data }, { on := 10, ground := Ground.guard }], guard := some (10, true) }) (v := .string z1) rfl (by kernel_rfl) (by kernel_rfl) (by kernel_rfl) (fun _ _ _ h => h) (Or.inl ⟨by rfl, by intro W hSw; go_simp; exact HZ1.out.symm⟩) hHeld ?_
    try simp only [Act.put, List.setIfInBounds_toArray, List.set_cons_zero, List.set_cons_succ]
    refine wpAnyH_ready (rs := [13, 16]) (by kernel_rfl) (by simp) ?_
    refine (AllReadyH.cons (o := { dst := some 24, op := Op.call { callee := Callee.value (Operand.func 7), args := #[Operand.tmp 22, Operand.tmp 23], argTypes := #[23, 23] }, type := 23, pos := "law.go:99", after := #[{ on := 11, ground := Ground.data }, { on := 12, ground := Ground.data }, { on := 10, ground := Ground.chain }, { on := 10, ground := Ground.guard }], guard := some (10, true) }) rfl (fun K hK => ?_) (AllReadyH.cons (o := { dst := some 27, op := Op.buildSlice 32 1 #[(0, Operand.tmp 26)], type := 32, pos := "law.go:99", after := #[{ on := 15, ground := Ground.data }, { on := 10, ground := Ground.guard }], guard := some (10, true) }) rfl (fun K hK => ?_) AllReadyH.nil))
    · go_simp
      refine (K13.out _ hHeld.2.2).mono ?_
      rintro e w13 ⟨rfl, hb13⟩
      try (replace HT16 := hidk (HT16.out.keep hb13))
      go_wp2_with fail
      refine hK.out _ _ (keep2 hb13 hHeld) (fun hHeld => ?_)
      clear hK K
      try simp only [Act.put, List.setIfInBounds_toArray, List.set_cons_zero, List.set_cons_succ]
      refine wpAnyH_ready (rs := [16]) (by kernel_rfl) (by simp) ?_
      refine (AllReadyH.cons (o := { dst := some 27, op := Op.buildSlice 32 1 #[(0, Operand.tmp 26)], type := 32, pos := "law.go:99", after := #[{ on := 15, ground := Ground.data }, { on := 10, ground := Ground.guard }], guard := some (10, true) }) rfl (fun K hK => ?_) AllReadyH.nil)
      have HT16 : Hid (Texts (w13.alloc (.cells #[.string z1] 9)) (some ⟨w13.heap.size, 0, none⟩) 1 [z1]) := texts_new w13 [z1] 9
      go_simp
      refine hK.out _ _ (keep2 ((Below.refl _ _).alloc (Nat.le_refl _) _) hHeld) (fun hHeld => ?_)
      clear hK K
      try simp only [Act.put, List.setIfInBounds_toArray, List.set_cons_zero, List.set_cons_succ]
      refine wpAnyH_ready (rs := [17]) (by kernel_rfl) (by simp) ?_
      refine (AllReadyH.cons (o := { dst := some 28, op := Op.call { callee := Callee.value (Operand.func 6), args := #[Operand.tmp 27], argTypes := #[32] }, type := 23, pos := "law.go:99", after := #[{ on := 16, ground := Ground.data }, { on := 13, ground := Ground.chain }, { on := 10, ground := Ground.guard }], guard := some (10, true) }) rfl (fun K hK => ?_) AllReadyH.nil)
      go_simp
      refine (K17.out _ _ HT16.out hHeld.2.2).mono ?_
      rintro e w17 ⟨rfl, hb17⟩
      clear HT16
      go_wp2_with fail
      refine hK.out _ _ (keep2 hb17 hHeld) (fun hHeld => ?_)
      clear hK K
      try simp only [Act.put, List.setIfInBounds_toArray, List.set_cons_zero, List.set_cons_succ]
      refine wpAnyH_take (i := 18) (oi := { dst := some 29, op := Op.binOp BinOp.eql 23 (Operand.tmp 24) (Operand.tmp 28) 23, type := 4, pos := "law.go:99", after := #[{ on := 13, ground := Ground.data }, { on := 17, ground := Ground.data }, { on := 10, ground := Ground.guard }], guard := some (10, true) }) (v := .bool true) rfl (by kernel_rfl) (by kernel_rfl) (by kernel_rfl) (fun _ _ _ h => h) (Or.inl ⟨by rfl, by intro W hSw; go_simp⟩) hHeld ?_
      try simp only [Act.put, List.setIfInBounds_toArray, List.set_cons_zero, List.set_cons_succ]
      refine wpAnyH_take (i := 19) (oi := { dst := some 30, op := Op.pick (Operand.tmp 21) (Operand.tmp 29) (Operand.const (Value.bool false)), type := 4, pos := "law.go:99", after := #[{ on := 10, ground := Ground.data }, { on := 18, ground := Ground.data }], guard := none }) (v := .bool true) rfl (by kernel_rfl) (by kernel_rfl) (by kernel_rfl) (fun _ _ _ h => h) (Or.inl ⟨by rfl, by intro W hSw; go_simp⟩) hHeld ?_
      try simp only [Act.put, List.setIfInBounds_toArray, List.set_cons_zero, List.set_cons_succ]
      refine wpAnyH_take (i := 20) (oi := { dst := some 31, op := Op.move (Operand.tmp 30), type := 4, pos := "law.go:99", after := #[{ on := 19, ground := Ground.data }, { on := 17, ground := Ground.chain }], guard := none }) (v := .bool true) rfl (by kernel_rfl) (by kernel_rfl) (by kernel_rfl) (fun _ _ _ h => h) (Or.inl ⟨by rfl, by intro W hSw; go_simp⟩) hHeld ?_
      try simp only [Act.put, List.setIfInBounds_toArray, List.set_cons_zero, List.set_cons_succ]
      refine wpAnyH_take (i := 21) (oi := { dst := some 32, op := Op.move (Operand.tmp 5), type := 9, pos := "law.go:99", after := #[{ on := 20, ground := Ground.guard }], guard := some (20, true) }) (v := .string z) rfl (by kernel_rfl) (by kernel_rfl) (by kernel_rfl) (fun _ _ _ h => h) (Or.inl ⟨by rfl, by intro W hSw; go_simp⟩) hHeld ?_
      try simp only [Act.put, List.setIfInBounds_toArray, List.set_cons_zero, List.set_cons_succ]
      refine wpAnyH_take (i := 24) (oi := { dst := some 35, op := Op.move (Operand.tmp 5), type := 9, pos := "law.go:99", after := #[{ on := 20, ground := Ground.guard }], guard := some (20, true) }) (v := .string z) rfl (by kernel_rfl) (by kernel_rfl) (by kernel_rfl) (fun _ _ _ h => h) (Or.inl ⟨by rfl, by intro W hSw; go_simp⟩) hHeld ?_
      try simp only [Act.put, List.setIfInBounds_toArray, List.set_cons_zero, List.set_cons_succ]
      refine wpAnyH_take (i := 25) (oi := { dst := some 36, op := Op.slice 9 (Operand.tmp 35) none (some (Operand.const (Value.int IntKind.i64 32))) none, type := 9, pos := "law.go:99", after := #[{ on := 24, ground := Ground.data }, { on := 20, ground := Ground.guard }], guard := some (20, true) }) (v := .string x) rfl (by kernel_rfl) (by kernel_rfl) (by kernel_rfl) (fun _ _ _ h => h) (Or.inl ⟨by rfl, by intro W hSw; have := HS1.out; go_simp⟩) hHeld ?_
      try simp only [Act.put, List.setIfInBounds_toArray, List.set_cons_zero, List.set_cons_succ]
      refine wpAnyH_take (i := 26) (oi := { dst := some 37, op := Op.binOp BinOp.add 9 (Operand.const (Value.string { data := #[0] })) (Operand.tmp 36) 9, type := 9, pos := "law.go:99", after := #[{ on := 25, ground := Ground.data }, { on := 20, ground := Ground.guard }], guard := some (20, true) }) (v := .string x0) rfl (by kernel_rfl) (by kernel_rfl) (by kernel_rfl) (fun _ _ _ h => h) (Or.inl ⟨by rfl, by intro W hSw; go_simp; exact HX0.out.symm⟩) hHeld ?_
      try simp only [Act.put, List.setIfInBounds_toArray, List.set_cons_zero, List.set_cons_succ]
      refine wpAnyH_take (i := 27) (oi := { dst := some 38, op := Op.move (Operand.tmp 5), type := 9, pos := "law.go:99", after := #[{ on := 20, ground := Ground.guard }], guard := some (20, true) }) (v := .string z) rfl (by kernel_rfl) (by kernel_rfl) (by kernel_rfl) (fun _ _ _ h => h) (Or.inl ⟨by rfl, by intro W hSw; go_simp⟩) hHeld ?_
      try simp only [Act.put, List.setIfInBounds_toArray, List.set_cons_zero, List.set_cons_succ]
      refine wpAnyH_take (i := 28) (oi := { dst := some 39, op := Op.slice 9 (Operand.tmp 38) (some (Operand.const (Value.int IntKind.i64 32))) none none, type := 9, pos := "law.go:99", after := #[{ on := 27, ground := Ground.data }, { on := 20, ground := Ground.guard }], guard := some (20, true) }) (v := .string y) rfl (by kernel_rfl) (by kernel_rfl) (by kernel_rfl) (fun _ _ _ h => h) (Or.inl ⟨by rfl, by intro W hSw; have := HS2.out; go_simp⟩) hHeld ?_
      try simp only [Act.put, List.setIfInBounds_toArray, List.set_cons_zero, List.set_cons_succ]
      refine wpAnyH_ready (rs := [22, 29]) (by kernel_rfl) (by simp) ?_
      refine (AllReadyH.cons (o := { dst := some 33, op := Op.buildSlice 32 2 #[(0, Operand.const (Value.string { data := #[0] })), (1, Operand.tmp 32)], type := 32, pos := "law.go:99", after := #[{ on := 21, ground := Ground.data }, { on := 20, ground := Ground.guard }], guard := some (20, true) }) rfl (fun K hK => ?_) (AllReadyH.cons (o := { dst := some 40, op := Op.buildSlice 32 2 #[(0, Operand.tmp 37), (1, Operand.tmp 39)], type := 32, pos := "law.go:99", after := #[{ on := 26, ground := Ground.data }, { on := 28, ground := Ground.data }, { on := 20, ground := Ground.guard }], guard := some (20, true) }) rfl (fun K hK => ?_) AllReadyH.nil))
      · have HT22 : Hid (Texts (w17.alloc (.cells #[.string ⟨#[0]⟩, .string z] 9)) (some ⟨w17.heap.size, 0, none⟩) 2 [⟨#[0]⟩, z]) := texts_new w17 [⟨#[0]⟩, z] 9
        try (replace HT29 := hidk (HT29.out.keep ((Below.refl _ _).alloc (Nat.le_refl _) (.cells #[.string ⟨#[0]⟩, .string z] 9))))
        go_simp
        refine hK.out _ _ (keep2 ((Below.refl _ _).alloc (Nat.le_refl _) _) hHeld) (fun hHeld => ?_)
        clear hK K
        try simp only [Act.put, List.setIfInBounds_toArray, List.set_cons_zero, List.set_cons_succ]
        refine wpAnyH_ready (rs := [23, 29]) (by kernel_rfl) (by simp) ?_
        refine (AllReadyH.cons (o := { dst := some 34, op := Op.call { callee := Callee.value (Operand.func 6), args := #[Operand.tmp 33], argTypes := #[32] }, type := 23, pos := "law.go:99", after := #[{ on := 22, ground := Ground.data }, { on := 20, ground := Ground.chain }, { on := 20, ground := Ground.guard }], guard := some (20, true) }) rfl (fun K hK => ?_) (AllReadyH.cons (o := { dst := some 40, op := Op.buildSlice 32 2 #[(0, Operand.tmp 37), (1, Operand.tmp 39)], type := 32, pos := "law.go:99", after := #[{ on := 26, ground := Ground.data }, { on := 28, ground := Ground.data }, { on := 20, ground := Ground.guard }], guard := some (20, true) }) rfl (fun K hK => ?_) AllReadyH.nil))
        · go_simp
          try simp only [World.size_alloc] at HT22
          refine (K23.out _ _ HT22.out hHeld.2.2).mono ?_
          rintro e w23 ⟨rfl, hb23⟩
          clear HT22
          try (replace HT29 := hidk (HT29.out.keep hb23))
          go_wp2_with fail
          refine hK.out _ _ (keep2 hb23 hHeld) (fun hHeld => ?_)
          clear hK K
          try simp only [Act.put, List.setIfInBounds_toArray, List.set_cons_zero, List.set_cons_succ]
          refine wpAnyH_ready (rs := [29]) (by kernel_rfl) (by simp) ?_
          refine (AllReadyH.cons (o := { dst := some 40, op := Op.buildSlice 32 2 #[(0, Operand.tmp 37), (1, Operand.tmp 39)], type := 32, pos := "law.go:99", after := #[{ on := 26, ground := Ground.data }, { on := 28, ground := Ground.data }, { on := 20, ground := Ground.guard }], guard := some (20, true) }) rfl (fun K hK => ?_) AllReadyH.nil)
          have HT29 : Hid (Texts (w23.alloc (.cells #[.string x0, .string y] 9)) (some ⟨w23.heap.size, 0, none⟩) 2 [x0, y]) := texts_new w23 [x0, y] 9
          try (replace HT22 := hidk (HT22.out.keep ((Below.refl _ _).alloc (Nat.le_refl _) (.cells #[.string x0, .string y] 9))))
          go_simp
          refine hK.out _ _ (keep2 ((Below.refl _ _).alloc (Nat.le_refl _) _) hHeld) (fun hHeld => ?_)
          clear hK K
          try simp only [Act.put, List.setIfInBounds_toArray, List.set_cons_zero, List.set_cons_succ]
          refine wpAnyH_ready (rs := [30]) (by kernel_rfl) (by simp) ?_
          refine (AllReadyH.cons (o := { dst := some 41, op := Op.call { callee := Callee.value (Operand.func 6), args := #[Operand.tmp 40], argTypes := #[32] }, type := 23, pos := "law.go:99", after := #[{ on := 29, ground := Ground.data }, { on := 23, ground := Ground.chain }, { on := 20, ground := Ground.guard }], guard := some (20, true) }) rfl (fun K hK => ?_) AllReadyH.nil)
          go_simp
          try simp only [World.size_alloc] at HT29
          refine (K30.out _ _ HT29.out hHeld.2.2).mono ?_
          rintro e w30 ⟨rfl, hb30⟩
          clear HT29
          go_wp2_with fail
          refine hK.out _ _ (keep2 hb30 hHeld) (fun hHeld => ?_)
          clear hK K
          try simp only [Act.put, List.setIfInBounds_toArray, List.set_cons_zero, List.set_cons_succ]
          refine wpAnyH_take (i := 31) (oi := { dst := some 42, op := Op.binOp BinOp.eql 23 (Operand.tmp 34) (Operand.tmp 41) 23, type := 4, pos := "law.go:99", after := #[{ on := 23, ground := Ground.data }, { on := 30, ground := Ground.data }, { on := 20, ground := Ground.guard }], guard := some (20, true) }) (v := .bool true) rfl (by kernel_rfl) (by kernel_rfl) (by kernel_rfl) (fun _ _ _ h => h) (Or.inl ⟨by rfl, by intro W hSw; go_simp⟩) hHeld ?_
          try simp only [Act.put, List.setIfInBounds_toArray, List.set_cons_zero, List.set_cons_succ]
          refine wpAnyH_take (i := 32) (oi := { dst := some 43, op := Op.pick (Operand.tmp 31) (Operand.tmp 42) (Operand.const (Value.bool false)), type := 4, pos := "law.go:99", after := #[{ on := 20, ground := Ground.data }, { on := 31, ground := Ground.data }], guard := none }) (v := .bool true) rfl (by kernel_rfl) (by kernel_rfl) (by kernel_rfl) (fun _ _ _ h => h) (Or.inl ⟨by rfl, by intro W hSw; go_simp⟩) hHeld ?_
          try simp only [Act.put, List.setIfInBounds_toArray, List.set_cons_zero, List.set_cons_succ]
          refine wpAnyH_take (i := 33) (oi := { dst := some 4, op := Op.assign (Operand.tmp 43), type := 4, pos := "law.go:99", after := #[{ on := 32, ground := Ground.data }, { on := 30, ground := Ground.chain }, { on := 0, ground := Ground.phase }, { on := 1, ground := Ground.phase }, { on := 2, ground := Ground.phase }, { on := 3, ground := Ground.phase }, { on := 4, ground := Ground.phase }, { on := 5, ground := Ground.phase }, { on := 6, ground := Ground.phase }, { on := 7, ground := Ground.phase }, { on := 8, ground := Ground.phase }, { on := 9, ground := Ground.phase }, { on := 10, ground := Ground.phase }, { on := 11, ground := Ground.phase }, { on := 12, ground := Ground.phase }, { on := 13, ground := Ground.phase }, { on := 14, ground := Ground.phase }, { on := 15, ground := Ground.phase }, { on := 16, ground := Ground.phase }, { on := 17, ground := Ground.phase }, { on := 18, ground := Ground.phase }, { on := 19, ground := Ground.phase }, { on := 20, ground := Ground.phase }, { on := 21, ground := Ground.phase }, { on := 22, ground := Ground.phase }, { on := 23, ground := Ground.phase }, { on := 24, ground := Ground.phase }, { on := 25, ground := Ground.phase }, { on := 26, ground := Ground.phase }, { on := 27, ground := Ground.phase }, { on := 28, ground := Ground.phase }, { on := 29, ground := Ground.phase }, { on := 30, ground := Ground.phase }, { on := 31, ground := Ground.phase }, { on := 32, ground := Ground.phase }], guard := none }) (v := .bool true) rfl (by kernel_rfl) (by kernel_rfl) (by kernel_rfl) (fun _ _ _ h => h) (Or.inl ⟨by rfl, by intro W hSw; go_simp⟩) hHeld ?_
          try simp only [Act.put, List.setIfInBounds_toArray, List.set_cons_zero, List.set_cons_succ]
          refine wpAnyH_done (by kernel_rfl) ?_ _
          go_wp2
          go_ret
          exact ⟨rfl, hHeld.2.2⟩
        · have HT29 : Hid (Texts ((w17.alloc (.cells #[.string ⟨#[0]⟩, .string z] 9)).alloc (.cells #[.string x0, .string y] 9)) (some ⟨(w17.alloc (.cells #[.string ⟨#[0]⟩, .string z] 9)).heap.size, 0, none⟩) 2 [x0, y]) := texts_new (w17.alloc (.cells #[.string ⟨#[0]⟩, .string z] 9)) [x0, y] 9
          try (replace HT22 := hidk (HT22.out.keep ((Below.refl _ _).alloc (Nat.le_refl _) (.cells #[.string x0, .string y] 9))))
          go_simp
          refine hK.out _ _ (keep2 ((Below.refl _ _).alloc (Nat.le_refl _) _) hHeld) (fun hHeld => ?_)
          clear hK K
          try simp only [Act.put, List.setIfInBounds_toArray, List.set_cons_zero, List.set_cons_succ]
          refine wpAnyH_ready (rs := [23]) (by kernel_rfl) (by simp) ?_
          refine (AllReadyH.cons (o := { dst := some 34, op := Op.call { callee := Callee.value (Operand.func 6), args := #[Operand.tmp 33], argTypes := #[32] }, type := 23, pos := "law.go:99", after := #[{ on := 22, ground := Ground.data }, { on := 20, ground := Ground.chain }, { on := 20, ground := Ground.guard }], guard := some (20, true) }) rfl (fun K hK => ?_) AllReadyH.nil)
          go_simp
          try simp only [World.size_alloc] at HT22
          refine (K23.out _ _ HT22.out hHeld.2.2).mono ?_
          rintro e w23 ⟨rfl, hb23⟩
          clear HT22
          try (replace HT29 := hidk (HT29.out.keep hb23))
          go_wp2_with fail
          refine hK.out _ _ (keep2 hb23 hHeld) (fun hHeld => ?_)
          clear hK K
          try simp only [Act.put, List.setIfInBounds_toArray, List.set_cons_zero, List.set_cons_succ]
          refine wpAnyH_ready (rs := [30]) (by kernel_rfl) (by simp) ?_
          refine (AllReadyH.cons (o := { dst := some 41, op := Op.call { callee := Callee.value (Operand.func 6), args := #[Operand.tmp 40], argTypes := #[32] }, type := 23, pos := "law.go:99", after := #[{ on := 29, ground := Ground.data }, { on := 23, ground := Ground.chain }, { on := 20, ground := Ground.guard }], guard := some (20, true) }) rfl (fun K hK => ?_) AllReadyH.nil)
          go_simp
          try simp only [World.size_alloc] at HT29
          refine (K30.out _ _ HT29.out hHeld.2.2).mono ?_
          rintro e w30 ⟨rfl, hb30⟩
          clear HT29
          go_wp2_with fail
          refine hK.out _ _ (keep2 hb30 hHeld) (fun hHeld => ?_)
          clear hK K
          try simp only [Act.put, List.setIfInBounds_toArray, List.set_cons_zero, List.set_cons_succ]
          refine wpAnyH_take (i := 31) (oi := { dst := some 42, op := Op.binOp BinOp.eql 23 (Operand.tmp 34) (Operand.tmp 41) 23, type := 4, pos := "law.go:99", after := #[{ on := 23, ground := Ground.data }, { on := 30, ground := Ground.data }, { on := 20, ground := Ground.guard }], guard := some (20, true) }) (v := .bool true) rfl (by kernel_rfl) (by kernel_rfl) (by kernel_rfl) (fun _ _ _ h => h) (Or.inl ⟨by rfl, by intro W hSw; go_simp⟩) hHeld ?_
          try simp only [Act.put, List.setIfInBounds_toArray, List.set_cons_zero, List.set_cons_succ]
          refine wpAnyH_take (i := 32) (oi := { dst := some 43, op := Op.pick (Operand.tmp 31) (Operand.tmp 42) (Operand.const (Value.bool false)), type := 4, pos := "law.go:99", after := #[{ on := 20, ground := Ground.data }, { on := 31, ground := Ground.data }], guard := none }) (v := .bool true) rfl (by kernel_rfl) (by kernel_rfl) (by kernel_rfl) (fun _ _ _ h => h) (Or.inl ⟨by rfl, by intro W hSw; go_simp⟩) hHeld ?_
          try simp only [Act.put, List.setIfInBounds_toArray, List.set_cons_zero, List.set_cons_succ]
          refine wpAnyH_take (i := 33) (oi := { dst := some 4, op := Op.assign (Operand.tmp 43), type := 4, pos := "law.go:99", after := #[{ on := 32, ground := Ground.data }, { on := 30, ground := Ground.chain }, { on := 0, ground := Ground.phase }, { on := 1, ground := Ground.phase }, { on := 2, ground := Ground.phase }, { on := 3, ground := Ground.phase }, { on := 4, ground := Ground.phase }, { on := 5, ground := Ground.phase }, { on := 6, ground := Ground.phase }, { on := 7, ground := Ground.phase }, { on := 8, ground := Ground.phase }, { on := 9, ground := Ground.phase }, { on := 10, ground := Ground.phase }, { on := 11, ground := Ground.phase }, { on := 12, ground := Ground.phase }, { on := 13, ground := Ground.phase }, { on := 14, ground := Ground.phase }, { on := 15, ground := Ground.phase }, { on := 16, ground := Ground.phase }, { on := 17, ground := Ground.phase }, { on := 18, ground := Ground.phase }, { on := 19, ground := Ground.phase }, { on := 20, ground := Ground.phase }, { on := 21, ground := Ground.phase }, { on := 22, ground := Ground.phase }, { on := 23, ground := Ground.phase }, { on := 24, ground := Ground.phase }, { on := 25, ground := Ground.phase }, { on := 26, ground := Ground.phase }, { on := 27, ground := Ground.phase }, { on := 28, ground := Ground.phase }, { on := 29, ground := Ground.phase }, { on := 30, ground := Ground.phase }, { on := 31, ground := Ground.phase }, { on := 32, ground := Ground.phase }], guard := none }) (v := .bool true) rfl (by kernel_rfl) (by kernel_rfl) (by kernel_rfl) (fun _ _ _ h => h) (Or.inl ⟨by rfl, by intro W hSw; go_simp⟩) hHeld ?_
          try simp only [Act.put, List.setIfInBounds_toArray, List.set_cons_zero, List.set_cons_succ]
          refine wpAnyH_done (by kernel_rfl) ?_ _
          go_wp2
          go_ret
          exact ⟨rfl, hHeld.2.2⟩
      · have HT29 : Hid (Texts (w17.alloc (.cells #[.string x0, .string y] 9)) (some ⟨w17.heap.size, 0, none⟩) 2 [x0, y]) := texts_new w17 [x0, y] 9
        try (replace HT22 := hidk (HT22.out.keep ((Below.refl _ _).alloc (Nat.le_refl _) (.cells #[.string x0, .string y] 9))))
        go_simp
        refine hK.out _ _ (keep2 ((Below.refl _ _).alloc (Nat.le_refl _) _) hHeld) (fun hHeld => ?_)
        clear hK K
        try simp only [Act.put, List.setIfInBounds_toArray, List.set_cons_zero, List.set_cons_succ]
        refine wpAnyH_ready (rs := [22]) (by kernel_rfl) (by simp) ?_
        refine (AllReadyH.cons (o := { dst := some 33, op := Op.buildSlice 32 2 #[(0, Operand.const (Value.string { data := #[0] })), (1, Operand.tmp 32)], type := 32, pos := "law.go:99", after := #[{ on := 21, ground := Ground.data }, { on := 20, ground := Ground.guard }], guard := some (20, true) }) rfl (fun K hK => ?_) AllReadyH.nil)
        have HT22 : Hid (Texts ((w17.alloc (.cells #[.string x0, .string y] 9)).alloc (.cells #[.string ⟨#[0]⟩, .string z] 9)) (some ⟨(w17.alloc (.cells #[.string x0, .string y] 9)).heap.size, 0, none⟩) 2 [⟨#[0]⟩, z]) := texts_new (w17.alloc (.cells #[.string x0, .string y] 9)) [⟨#[0]⟩, z] 9
        try (replace HT29 := hidk (HT29.out.keep ((Below.refl _ _).alloc (Nat.le_refl _) (.cells #[.string ⟨#[0]⟩, .string z] 9))))
        go_simp
        refine hK.out _ _ (keep2 ((Below.refl _ _).alloc (Nat.le_refl _) _) hHeld) (fun hHeld => ?_)
        clear hK K
        try simp only [Act.put, List.setIfInBounds_toArray, List.set_cons_zero, List.set_cons_succ]
        refine wpAnyH_ready (rs := [23]) (by kernel_rfl) (by simp) ?_
        refine (AllReadyH.cons (o := { dst := some 34, op := Op.call { callee := Callee.value (Operand.func 6), args := #[Operand.tmp 33], argTypes := #[32] }, type := 23, pos := "law.go:99", after := #[{ on := 22, ground := Ground.data }, { on := 20, ground := Ground.chain }, { on := 20, ground := Ground.guard }], guard := some (20, true) }) rfl (fun K hK => ?_) AllReadyH.nil)
        go_simp
        try simp only [World.size_alloc] at HT22
        refine (K23.out _ _ HT22.out hHeld.2.2).mono ?_
        rintro e w23 ⟨rfl, hb23⟩
        clear HT22
        try (replace HT29 := hidk (HT29.out.keep hb23))
        go_wp2_with fail
        refine hK.out _ _ (keep2 hb23 hHeld) (fun hHeld => ?_)
        clear hK K
        try simp only [Act.put, List.setIfInBounds_toArray, List.set_cons_zero, List.set_cons_succ]
        refine wpAnyH_ready (rs := [30]) (by kernel_rfl) (by simp) ?_
        refine (AllReadyH.cons (o := { dst := some 41, op := Op.call { callee := Callee.value (Operand.func 6), args := #[Operand.tmp 40], argTypes := #[32] }, type := 23, pos := "law.go:99", after := #[{ on := 29, ground := Ground.data }, { on := 23, ground := Ground.chain }, { on := 20, ground := Ground.guard }], guard := some (20, true) }) rfl (fun K hK => ?_) AllReadyH.nil)
        go_simp
        try simp only [World.size_alloc] at HT29
        refine (K30.out _ _ HT29.out hHeld.2.2).mono ?_
        rintro e w30 ⟨rfl, hb30⟩
        clear HT29
        go_wp2_with fail
        refine hK.out _ _ (keep2 hb30 hHeld) (fun hHeld => ?_)
        clear hK K
        try simp only [Act.put, List.setIfInBounds_toArray, List.set_cons_zero, List.set_cons_succ]
        refine wpAnyH_take (i := 31) (oi := { dst := some 42, op := Op.binOp BinOp.eql 23 (Operand.tmp 34) (Operand.tmp 41) 23, type := 4, pos := "law.go:99", after := #[{ on := 23, ground := Ground.data }, { on := 30, ground := Ground.data }, { on := 20, ground := Ground.guard }], guard := some (20, true) }) (v := .bool true) rfl (by kernel_rfl) (by kernel_rfl) (by kernel_rfl) (fun _ _ _ h => h) (Or.inl ⟨by rfl, by intro W hSw; go_simp⟩) hHeld ?_
        try simp only [Act.put, List.setIfInBounds_toArray, List.set_cons_zero, List.set_cons_succ]
        refine wpAnyH_take (i := 32) (oi := { dst := some 43, op := Op.pick (Operand.tmp 31) (Operand.tmp 42) (Operand.const (Value.bool false)), type := 4, pos := "law.go:99", after := #[{ on := 20, ground := Ground.data }, { on := 31, ground := Ground.data }], guard := none }) (v := .bool true) rfl (by kernel_rfl) (by kernel_rfl) (by kernel_rfl) (fun _ _ _ h => h) (Or.inl ⟨by rfl, by intro W hSw; go_simp⟩) hHeld ?_
        try simp only [Act.put, List.setIfInBounds_toArray, List.set_cons_zero, List.set_cons_succ]
        refine wpAnyH_take (i := 33) (oi := { dst := some 4, op := Op.assign (Operand.tmp 43), type := 4, pos := "law.go:99", after := #[{ on := 32, ground := Ground.data }, { on := 30, ground := Ground.chain }, { on := 0, ground := Ground.phase }, { on := 1, ground := Ground.phase }, { on := 2, ground := Ground.phase }, { on := 3, ground := Ground.phase }, { on := 4, ground := Ground.phase }, { on := 5, ground := Ground.phase }, { on := 6, ground := Ground.phase }, { on := 7, ground := Ground.phase }, { on := 8, ground := Ground.phase }, { on := 9, ground := Ground.phase }, { on := 10, ground := Ground.phase }, { on := 11, ground := Ground.phase }, { on := 12, ground := Ground.phase }, { on := 13, ground := Ground.phase }, { on := 14, ground := Ground.phase }, { on := 15, ground := Ground.phase }, { on := 16, ground := Ground.phase }, { on := 17, ground := Ground.phase }, { on := 18, ground := Ground.phase }, { on := 19, ground := Ground.phase }, { on := 20, ground := Ground.phase }, { on := 21, ground := Ground.phase }, { on := 22, ground := Ground.phase }, { on := 23, ground := Ground.phase }, { on := 24, ground := Ground.phase }, { on := 25, ground := Ground.phase }, { on := 26, ground := Ground.phase }, { on := 27, ground := Ground.phase }, { on := 28, ground := Ground.phase }, { on := 29, ground := Ground.phase }, { on := 30, ground := Ground.phase }, { on := 31, ground := Ground.phase }, { on := 32, ground := Ground.phase }], guard := none }) (v := .bool true) rfl (by kernel_rfl) (by kernel_rfl) (by kernel_rfl) (fun _ _ _ h => h) (Or.inl ⟨by rfl, by intro W hSw; go_simp⟩) hHeld ?_
        try simp only [Act.put, List.setIfInBounds_toArray, List.set_cons_zero, List.set_cons_succ]
        refine wpAnyH_done (by kernel_rfl) ?_ _
        go_wp2
        go_ret
        exact ⟨rfl, hHeld.2.2⟩
    · have HT16 : Hid (Texts (w7.alloc (.cells #[.string z1] 9)) (some ⟨w7.heap.size, 0, none⟩) 1 [z1]) := texts_new w7 [z1] 9
      go_simp
      refine hK.out _ _ (keep2 ((Below.refl _ _).alloc (Nat.le_refl _) _) hHeld) (fun hHeld => ?_)
      clear hK K
      try simp only [Act.put, List.setIfInBounds_toArray, List.set_cons_zero, List.set_cons_succ]
      refine wpAnyH_ready (rs := [13]) (by kernel_rfl) (by simp) ?_
      refine (AllReadyH.cons (o := { dst := some 24, op := Op.call { callee := Callee.value (Operand.func 7), args := #[Operand.tmp 22, Operand.tmp 23], argTypes := #[23, 23] }, type := 23, pos := "law.go:99", after := #[{ on := 11, ground := Ground.data }, { on := 12, ground := Ground.data }, { on := 10, ground := Ground.chain }, { on := 10, ground := Ground.guard }], guard := some (10, true) }) rfl (fun K hK => ?_) AllReadyH.nil)
      go_simp
      refine (K13.out _ hHeld.2.2).mono ?_
      rintro e w13 ⟨rfl, hb13⟩
      try (replace HT16 := hidk (HT16.out.keep hb13))
      go_wp2_with fail
      refine hK.out _ _ (keep2 hb13 hHeld) (fun hHeld => ?_)
      clear hK K
      try simp only [Act.put, List.setIfInBounds_toArray, List.set_cons_zero, List.set_cons_succ]
      refine wpAnyH_ready (rs := [17]) (by kernel_rfl) (by simp) ?_
      refine (AllReadyH.cons (o := { dst := some 28, op := Op.call { callee := Callee.value (Operand.func 6), args := #[Operand.tmp 27], argTypes := #[32] }, type := 23, pos := "law.go:99", after := #[{ on := 16, ground := Ground.data }, { on := 13, ground := Ground.chain }, { on := 10, ground := Ground.guard }], guard := some (10, true) }) rfl (fun K hK => ?_) AllReadyH.nil)
      go_simp
      refine (K17.out _ _ HT16.out hHeld.2.2).mono ?_
      rintro e w17 ⟨rfl, hb17⟩
      clear HT16
      go_wp2_with fail
      refine hK.out _ _ (keep2 hb17 hHeld) (fun hHeld => ?_)
      clear hK K
      try simp only [Act.put, List.setIfInBounds_toArray, List.set_cons_zero, List.set_cons_succ]
      refine wpAnyH_take (i := 18) (oi := { dst := some 29, op := Op.binOp BinOp.eql 23 (Operand.tmp 24) (Operand.tmp 28) 23, type := 4, pos := "law.go:99", after := #[{ on := 13, ground := Ground.data }, { on := 17, ground := Ground.data }, { on := 10, ground := Ground.guard }], guard := some (10, true) }) (v := .bool true) rfl (by kernel_rfl) (by kernel_rfl) (by kernel_rfl) (fun _ _ _ h => h) (Or.inl ⟨by rfl, by intro W hSw; go_simp⟩) hHeld ?_
      try simp only [Act.put, List.setIfInBounds_toArray, List.set_cons_zero, List.set_cons_succ]
      refine wpAnyH_take (i := 19) (oi := { dst := some 30, op := Op.pick (Operand.tmp 21) (Operand.tmp 29) (Operand.const (Value.bool false)), type := 4, pos := "law.go:99", after := #[{ on := 10, ground := Ground.data }, { on := 18, ground := Ground.data }], guard := none }) (v := .bool true) rfl (by kernel_rfl) (by kernel_rfl) (by kernel_rfl) (fun _ _ _ h => h) (Or.inl ⟨by rfl, by intro W hSw; go_simp⟩) hHeld ?_
      try simp only [Act.put, List.setIfInBounds_toArray, List.set_cons_zero, List.set_cons_succ]
      refine wpAnyH_take (i := 20) (oi := { dst := some 31, op := Op.move (Operand.tmp 30), type := 4, pos := "law.go:99", after := #[{ on := 19, ground := Ground.data }, { on := 17, ground := Ground.chain }], guard := none }) (v := .bool true) rfl (by kernel_rfl) (by kernel_rfl) (by kernel_rfl) (fun _ _ _ h => h) (Or.inl ⟨by rfl, by intro W hSw; go_simp⟩) hHeld ?_
      try simp only [Act.put, List.setIfInBounds_toArray, List.set_cons_zero, List.set_cons_succ]
      refine wpAnyH_take (i := 21) (oi := { dst := some 32, op := Op.move (Operand.tmp 5), type := 9, pos := "law.go:99", after := #[{ on := 20, ground := Ground.guard }], guard := some (20, true) }) (v := .string z) rfl (by kernel_rfl) (by kernel_rfl) (by kernel_rfl) (fun _ _ _ h => h) (Or.inl ⟨by rfl, by intro W hSw; go_simp⟩) hHeld ?_
      try simp only [Act.put, List.setIfInBounds_toArray, List.set_cons_zero, List.set_cons_succ]
      refine wpAnyH_take (i := 24) (oi := { dst := some 35, op := Op.move (Operand.tmp 5), type := 9, pos := "law.go:99", after := #[{ on := 20, ground := Ground.guard }], guard := some (20, true) }) (v := .string z) rfl (by kernel_rfl) (by kernel_rfl) (by kernel_rfl) (fun _ _ _ h => h) (Or.inl ⟨by rfl, by intro W hSw; go_simp⟩) hHeld ?_
      try simp only [Act.put, List.setIfInBounds_toArray, List.set_cons_zero, List.set_cons_succ]
      refine wpAnyH_take (i := 25) (oi := { dst := some 36, op := Op.slice 9 (Operand.tmp 35) none (some (Operand.const (Value.int IntKind.i64 32))) none, type := 9, pos := "law.go:99", after := #[{ on := 24, ground := Ground.data }, { on := 20, ground := Ground.guard }], guard := some (20, true) }) (v := .string x) rfl (by kernel_rfl) (by kernel_rfl) (by kernel_rfl) (fun _ _ _ h => h) (Or.inl ⟨by rfl, by intro W hSw; have := HS1.out; go_simp⟩) hHeld ?_
      try simp only [Act.put, List.setIfInBounds_toArray, List.set_cons_zero, List.set_cons_succ]
      refine wpAnyH_take (i := 26) (oi := { dst := some 37, op := Op.binOp BinOp.add 9 (Operand.const (Value.string { data := #[0] })) (Operand.tmp 36) 9, type := 9, pos := "law.go:99", after := #[{ on := 25, ground := Ground.data }, { on := 20, ground := Ground.guard }], guard := some (20, true) }) (v := .string x0) rfl (by kernel_rfl) (by kernel_rfl) (by kernel_rfl) (fun _ _ _ h => h) (Or.inl ⟨by rfl, by intro W hSw; go_simp; exact HX0.out.symm⟩) hHeld ?_
      try simp only [Act.put, List.setIfInBounds_toArray, List.set_cons_zero, List.set_cons_succ]
      refine wpAnyH_take (i := 27) (oi := { dst := some 38, op := Op.move (Operand.tmp 5), type := 9, pos := "law.go:99", after := #[{ on := 20, ground := Ground.guard }], guard := some (20, true) }) (v := .string z) rfl (by kernel_rfl) (by kernel_rfl) (by kernel_rfl) (fun _ _ _ h => h) (Or.inl ⟨by rfl, by intro W hSw; go_simp⟩) hHeld ?_
      try simp only [Act.put, List.setIfInBounds_toArray, List.set_cons_zero, List.set_cons_succ]
      refine wpAnyH_take (i := 28) (oi := { dst := some 39, op := Op.slice 9 (Operand.tmp 38) (some (Operand.const (Value.int IntKind.i64 32))) none none, type := 9, pos := "law.go:99", after := #[{ on := 27, ground := Ground.data }, { on := 20, ground := Ground.guard }], guard := some (20, true) }) (v := .string y) rfl (by kernel_rfl) (by kernel_rfl) (by kernel_rfl) (fun _ _ _ h => h) (Or.inl ⟨by rfl, by intro W hSw; have := HS2.out; go_simp⟩) hHeld ?_
      try simp only [Act.put, List.setIfInBounds_toArray, List.set_cons_zero, List.set_cons_succ]
      refine wpAnyH_ready (rs := [22, 29]) (by kernel_rfl) (by simp) ?_
      refine (AllReadyH.cons (o := { dst := some 33, op := Op.buildSlice 32 2 #[(0, Operand.const (Value.string { data := #[0] })), (1, Operand.tmp 32)], type := 32, pos := "law.go:99", after := #[{ on := 21, ground := Ground.data }, { on := 20, ground := Ground.guard }], guard := some (20, true) }) rfl (fun K hK => ?_) (AllReadyH.cons (o := { dst := some 40, op := Op.buildSlice 32 2 #[(0, Operand.tmp 37), (1, Operand.tmp 39)], type := 32, pos := "law.go:99", after := #[{ on := 26, ground := Ground.data }, { on := 28, ground := Ground.data }, { on := 20, ground := Ground.guard }], guard := some (20, true) }) rfl (fun K hK => ?_) AllReadyH.nil))
      · have HT22 : Hid (Texts (w17.alloc (.cells #[.string ⟨#[0]⟩, .string z] 9)) (some ⟨w17.heap.size, 0, none⟩) 2 [⟨#[0]⟩, z]) := texts_new w17 [⟨#[0]⟩, z] 9
        try (replace HT29 := hidk (HT29.out.keep ((Below.refl _ _).alloc (Nat.le_refl _) (.cells #[.string ⟨#[0]⟩, .string z] 9))))
        go_simp
        refine hK.out _ _ (keep2 ((Below.refl _ _).alloc (Nat.le_refl _) _) hHeld) (fun hHeld => ?_)
        clear hK K
        try simp only [Act.put, List.setIfInBounds_toArray, List.set_cons_zero, List.set_cons_succ]
        refine wpAnyH_ready (rs := [23, 29]) (by kernel_rfl) (by simp) ?_
        refine (AllReadyH.cons (o := { dst := some 34, op := Op.call { callee := Callee.value (Operand.func 6), args := #[Operand.tmp 33], argTypes := #[32] }, type := 23, pos := "law.go:99", after := #[{ on := 22, ground := Ground.data }, { on := 20, ground := Ground.chain }, { on := 20, ground := Ground.guard }], guard := some (20, true) }) rfl (fun K hK => ?_) (AllReadyH.cons (o := { dst := some 40, op := Op.buildSlice 32 2 #[(0, Operand.tmp 37), (1, Operand.tmp 39)], type := 32, pos := "law.go:99", after := #[{ on := 26, ground := Ground.data }, { on := 28, ground := Ground.data }, { on := 20, ground := Ground.guard }], guard := some (20, true) }) rfl (fun K hK => ?_) AllReadyH.nil))
        · go_simp
          try simp only [World.size_alloc] at HT22
          refine (K23.out _ _ HT22.out hHeld.2.2).mono ?_
          rintro e w23 ⟨rfl, hb23⟩
          clear HT22
          try (replace HT29 := hidk (HT29.out.keep hb23))
          go_wp2_with fail
          refine hK.out _ _ (keep2 hb23 hHeld) (fun hHeld => ?_)
          clear hK K
          try simp only [Act.put, List.setIfInBounds_toArray, List.set_cons_zero, List.set_cons_succ]
          refine wpAnyH_ready (rs := [29]) (by kernel_rfl) (by simp) ?_
          refine (AllReadyH.cons (o := { dst := some 40, op := Op.buildSlice 32 2 #[(0, Operand.tmp 37), (1, Operand.tmp 39)], type := 32, pos := "law.go:99", after := #[{ on := 26, ground := Ground.data }, { on := 28, ground := Ground.data }, { on := 20, ground := Ground.guard }], guard := some (20, true) }) rfl (fun K hK => ?_) AllReadyH.nil)
          have HT29 : Hid (Texts (w23.alloc (.cells #[.string x0, .string y] 9)) (some ⟨w23.heap.size, 0, none⟩) 2 [x0, y]) := texts_new w23 [x0, y] 9
          try (replace HT22 := hidk (HT22.out.keep ((Below.refl _ _).alloc (Nat.le_refl _) (.cells #[.string x0, .string y] 9))))
          go_simp
          refine hK.out _ _ (keep2 ((Below.refl _ _).alloc (Nat.le_refl _) _) hHeld) (fun hHeld => ?_)
          clear hK K
          try simp only [Act.put, List.setIfInBounds_toArray, List.set_cons_zero, List.set_cons_succ]
          refine wpAnyH_ready (rs := [30]) (by kernel_rfl) (by simp) ?_
          refine (AllReadyH.cons (o := { dst := some 41, op := Op.call { callee := Callee.value (Operand.func 6), args := #[Operand.tmp 40], argTypes := #[32] }, type := 23, pos := "law.go:99", after := #[{ on := 29, ground := Ground.data }, { on := 23, ground := Ground.chain }, { on := 20, ground := Ground.guard }], guard := some (20, true) }) rfl (fun K hK => ?_) AllReadyH.nil)
          go_simp
          try simp only [World.size_alloc] at HT29
          refine (K30.out _ _ HT29.out hHeld.2.2).mono ?_
          rintro e w30 ⟨rfl, hb30⟩
          clear HT29
          go_wp2_with fail
          refine hK.out _ _ (keep2 hb30 hHeld) (fun hHeld => ?_)
          clear hK K
          try simp only [Act.put, List.setIfInBounds_toArray, List.set_cons_zero, List.set_cons_succ]
          refine wpAnyH_take (i := 31) (oi := { dst := some 42, op := Op.binOp BinOp.eql 23 (Operand.tmp 34) (Operand.tmp 41) 23, type := 4, pos := "law.go:99", after := #[{ on := 23, ground := Ground.data }, { on := 30, ground := Ground.data }, { on := 20, ground := Ground.guard }], guard := some (20, true) }) (v := .bool true) rfl (by kernel_rfl) (by kernel_rfl) (by kernel_rfl) (fun _ _ _ h => h) (Or.inl ⟨by rfl, by intro W hSw; go_simp⟩) hHeld ?_
          try simp only [Act.put, List.setIfInBounds_toArray, List.set_cons_zero, List.set_cons_succ]
          refine wpAnyH_take (i := 32) (oi := { dst := some 43, op := Op.pick (Operand.tmp 31) (Operand.tmp 42) (Operand.const (Value.bool false)), type := 4, pos := "law.go:99", after := #[{ on := 20, ground := Ground.data }, { on := 31, ground := Ground.data }], guard := none }) (v := .bool true) rfl (by kernel_rfl) (by kernel_rfl) (by kernel_rfl) (fun _ _ _ h => h) (Or.inl ⟨by rfl, by intro W hSw; go_simp⟩) hHeld ?_
          try simp only [Act.put, List.setIfInBounds_toArray, List.set_cons_zero, List.set_cons_succ]
          refine wpAnyH_take (i := 33) (oi := { dst := some 4, op := Op.assign (Operand.tmp 43), type := 4, pos := "law.go:99", after := #[{ on := 32, ground := Ground.data }, { on := 30, ground := Ground.chain }, { on := 0, ground := Ground.phase }, { on := 1, ground := Ground.phase }, { on := 2, ground := Ground.phase }, { on := 3, ground := Ground.phase }, { on := 4, ground := Ground.phase }, { on := 5, ground := Ground.phase }, { on := 6, ground := Ground.phase }, { on := 7, ground := Ground.phase }, { on := 8, ground := Ground.phase }, { on := 9, ground := Ground.phase }, { on := 10, ground := Ground.phase }, { on := 11, ground := Ground.phase }, { on := 12, ground := Ground.phase }, { on := 13, ground := Ground.phase }, { on := 14, ground := Ground.phase }, { on := 15, ground := Ground.phase }, { on := 16, ground := Ground.phase }, { on := 17, ground := Ground.phase }, { on := 18, ground := Ground.phase }, { on := 19, ground := Ground.phase }, { on := 20, ground := Ground.phase }, { on := 21, ground := Ground.phase }, { on := 22, ground := Ground.phase }, { on := 23, ground := Ground.phase }, { on := 24, ground := Ground.phase }, { on := 25, ground := Ground.phase }, { on := 26, ground := Ground.phase }, { on := 27, ground := Ground.phase }, { on := 28, ground := Ground.phase }, { on := 29, ground := Ground.phase }, { on := 30, ground := Ground.phase }, { on := 31, ground := Ground.phase }, { on := 32, ground := Ground.phase }], guard := none }) (v := .bool true) rfl (by kernel_rfl) (by kernel_rfl) (by kernel_rfl) (fun _ _ _ h => h) (Or.inl ⟨by rfl, by intro W hSw; go_simp⟩) hHeld ?_
          try simp only [Act.put, List.setIfInBounds_toArray, List.set_cons_zero, List.set_cons_succ]
          refine wpAnyH_done (by kernel_rfl) ?_ _
          go_wp2
          go_ret
          exact ⟨rfl, hHeld.2.2⟩
        · have HT29 : Hid (Texts ((w17.alloc (.cells #[.string ⟨#[0]⟩, .string z] 9)).alloc (.cells #[.string x0, .string y] 9)) (some ⟨(w17.alloc (.cells #[.string ⟨#[0]⟩, .string z] 9)).heap.size, 0, none⟩) 2 [x0, y]) := texts_new (w17.alloc (.cells #[.string ⟨#[0]⟩, .string z] 9)) [x0, y] 9
          try (replace HT22 := hidk (HT22.out.keep ((Below.refl _ _).alloc (Nat.le_refl _) (.cells #[.string x0, .string y] 9))))
          go_simp
          refine hK.out _ _ (keep2 ((Below.refl _ _).alloc (Nat.le_refl _) _) hHeld) (fun hHeld => ?_)
          clear hK K
          try simp only [Act.put, List.setIfInBounds_toArray, List.set_cons_zero, List.set_cons_succ]
          refine wpAnyH_ready (rs := [23]) (by kernel_rfl) (by simp) ?_
          refine (AllReadyH.cons (o := { dst := some 34, op := Op.call { callee := Callee.value (Operand.func 6), args := #[Operand.tmp 33], argTypes := #[32] }, type := 23, pos := "law.go:99", after := #[{ on := 22, ground := Ground.data }, { on := 20, ground := Ground.chain }, { on := 20, ground := Ground.guard }], guard := some (20, true) }) rfl (fun K hK => ?_) AllReadyH.nil)
          go_simp
          try simp only [World.size_alloc] at HT22
          refine (K23.out _ _ HT22.out hHeld.2.2).mono ?_
          rintro e w23 ⟨rfl, hb23⟩
          clear HT22
          try (replace HT29 := hidk (HT29.out.keep hb23))
          go_wp2_with fail
          refine hK.out _ _ (keep2 hb23 hHeld) (fun hHeld => ?_)
          clear hK K
          try simp only [Act.put, List.setIfInBounds_toArray, List.set_cons_zero, List.set_cons_succ]
          refine wpAnyH_ready (rs := [30]) (by kernel_rfl) (by simp) ?_
          refine (AllReadyH.cons (o := { dst := some 41, op := Op.call { callee := Callee.value (Operand.func 6), args := #[Operand.tmp 40], argTypes := #[32] }, type := 23, pos := "law.go:99", after := #[{ on := 29, ground := Ground.data }, { on := 23, ground := Ground.chain }, { on := 20, ground := Ground.guard }], guard := some (20, true) }) rfl (fun K hK => ?_) AllReadyH.nil)
          go_simp
          try simp only [World.size_alloc] at HT29
          refine (K30.out _ _ HT29.out hHeld.2.2).mono ?_
          rintro e w30 ⟨rfl, hb30⟩
          clear HT29
          go_wp2_with fail
          refine hK.out _ _ (keep2 hb30 hHeld) (fun hHeld => ?_)
          clear hK K
          try simp only [Act.put, List.setIfInBounds_toArray, List.set_cons_zero, List.set_cons_succ]
          refine wpAnyH_take (i := 31) (oi := { dst := some 42, op := Op.binOp BinOp.eql 23 (Operand.tmp 34) (Operand.tmp 41) 23, type := 4, pos := "law.go:99", after := #[{ on := 23, ground := Ground.data }, { on := 30, ground := Ground.data }, { on := 20, ground := Ground.guard }], guard := some (20, true) }) (v := .bool true) rfl (by kernel_rfl) (by kernel_rfl) (by kernel_rfl) (fun _ _ _ h => h) (Or.inl ⟨by rfl, by intro W hSw; go_simp⟩) hHeld ?_
          try simp only [Act.put, List.setIfInBounds_toArray, List.set_cons_zero, List.set_cons_succ]
          refine wpAnyH_take (i := 32) (oi := { dst := some 43, op := Op.pick (Operand.tmp 31) (Operand.tmp 42) (Operand.const (Value.bool false)), type := 4, pos := "law.go:99", after := #[{ on := 20, ground := Ground.data }, { on := 31, ground := Ground.data }], guard := none }) (v := .bool true) rfl (by kernel_rfl) (by kernel_rfl) (by kernel_rfl) (fun _ _ _ h => h) (Or.inl ⟨by rfl, by intro W hSw; go_simp⟩) hHeld ?_
          try simp only [Act.put, List.setIfInBounds_toArray, List.set_cons_zero, List.set_cons_succ]
          refine wpAnyH_take (i := 33) (oi := { dst := some 4, op := Op.assign (Operand.tmp 43), type := 4, pos := "law.go:99", after := #[{ on := 32, ground := Ground.data }, { on := 30, ground := Ground.chain }, { on := 0, ground := Ground.phase }, { on := 1, ground := Ground.phase }, { on := 2, ground := Ground.phase }, { on := 3, ground := Ground.phase }, { on := 4, ground := Ground.phase }, { on := 5, ground := Ground.phase }, { on := 6, ground := Ground.phase }, { on := 7, ground := Ground.phase }, { on := 8, ground := Ground.phase }, { on := 9, ground := Ground.phase }, { on := 10, ground := Ground.phase }, { on := 11, ground := Ground.phase }, { on := 12, ground := Ground.phase }, { on := 13, ground := Ground.phase }, { on := 14, ground := Ground.phase }, { on := 15, ground := Ground.phase }, { on := 16, ground := Ground.phase }, { on := 17, ground := Ground.phase }, { on := 18, ground := Ground.phase }, { on := 19, ground := Ground.phase }, { on := 20, ground := Ground.phase }, { on := 21, ground := Ground.phase }, { on := 22, ground := Ground.phase }, { on := 23, ground := Ground.phase }, { on := 24, ground := Ground.phase }, { on := 25, ground := Ground.phase }, { on := 26, ground := Ground.phase }, { on := 27, ground := Ground.phase }, { on := 28, ground := Ground.phase }, { on := 29, ground := Ground.phase }, { on := 30, ground := Ground.phase }, { on := 31, ground := Ground.phase }, { on := 32, ground := Ground.phase }], guard := none }) (v := .bool true) rfl (by kernel_rfl) (by kernel_rfl) (by kernel_rfl) (fun _ _ _ h => h) (Or.inl ⟨by rfl, by intro W hSw; go_simp⟩) hHeld ?_
          try simp only [Act.put, List.setIfInBounds_toArray, List.set_cons_zero, List.set_cons_succ]
          refine wpAnyH_done (by kernel_rfl) ?_ _
          go_wp2
          go_ret
          exact ⟨rfl, hHeld.2.2⟩
      · have HT29 : Hid (Texts (w17.alloc (.cells #[.string x0, .string y] 9)) (some ⟨w17.heap.size, 0, none⟩) 2 [x0, y]) := texts_new w17 [x0, y] 9
        try (replace HT22 := hidk (HT22.out.keep ((Below.refl _ _).alloc (Nat.le_refl _) (.cells #[.string x0, .string y] 9))))
        go_simp
        refine hK.out _ _ (keep2 ((Below.refl _ _).alloc (Nat.le_refl _) _) hHeld) (fun hHeld => ?_)
        clear hK K
        try simp only [Act.put, List.setIfInBounds_toArray, List.set_cons_zero, List.set_cons_succ]
        refine wpAnyH_ready (rs := [22]) (by kernel_rfl) (by simp) ?_
        refine (AllReadyH.cons (o := { dst := some 33, op := Op.buildSlice 32 2 #[(0, Operand.const (Value.string { data := #[0] })), (1, Operand.tmp 32)], type := 32, pos := "law.go:99", after := #[{ on := 21, ground := Ground.data }, { on := 20, ground := Ground.guard }], guard := some (20, true) }) rfl (fun K hK => ?_) AllReadyH.nil)
        have HT22 : Hid (Texts ((w17.alloc (.cells #[.string x0, .string y] 9)).alloc (.cells #[.string ⟨#[0]⟩, .string z] 9)) (some ⟨(w17.alloc (.cells #[.string x0, .string y] 9)).heap.size, 0, none⟩) 2 [⟨#[0]⟩, z]) := texts_new (w17.alloc (.cells #[.string x0, .string y] 9)) [⟨#[0]⟩, z] 9
        try (replace HT29 := hidk (HT29.out.keep ((Below.refl _ _).alloc (Nat.le_refl _) (.cells #[.string ⟨#[0]⟩, .string z] 9))))
        go_simp
        refine hK.out _ _ (keep2 ((Below.refl _ _).alloc (Nat.le_refl _) _) hHeld) (fun hHeld => ?_)
        clear hK K
        try simp only [Act.put, List.setIfInBounds_toArray, List.set_cons_zero, List.set_cons_succ]
        refine wpAnyH_ready (rs := [23]) (by kernel_rfl) (by simp) ?_
        refine (AllReadyH.cons (o := { dst := some 34, op := Op.call { callee := Callee.value (Operand.func 6), args := #[Operand.tmp 33], argTypes := #[32] }, type := 23, pos := "law.go:99", after := #[{ on := 22, ground := Ground.data }, { on := 20, ground := Ground.chain }, { on := 20, ground := Ground.guard }], guard := some (20, true) }) rfl (fun K hK => ?_) AllReadyH.nil)
        go_simp
        try simp only [World.size_alloc] at HT22
        refine (K23.out _ _ HT22.out hHeld.2.2).mono ?_
        rintro e w23 ⟨rfl, hb23⟩
        clear HT22
        try (replace HT29 := hidk (HT29.out.keep hb23))
        go_wp2_with fail
        refine hK.out _ _ (keep2 hb23 hHeld) (fun hHeld => ?_)
        clear hK K
        try simp only [Act.put, List.setIfInBounds_toArray, List.set_cons_zero, List.set_cons_succ]
        refine wpAnyH_ready (rs := [30]) (by kernel_rfl) (by simp) ?_
        refine (AllReadyH.cons (o := { dst := some 41, op := Op.call { callee := Callee.value (Operand.func 6), args := #[Operand.tmp 40], argTypes := #[32] }, type := 23, pos := "law.go:99", after := #[{ on := 29, ground := Ground.data }, { on := 23, ground := Ground.chain }, { on := 20, ground := Ground.guard }], guard := some (20, true) }) rfl (fun K hK => ?_) AllReadyH.nil)
        go_simp
        try simp only [World.size_alloc] at HT29
        refine (K30.out _ _ HT29.out hHeld.2.2).mono ?_
        rintro e w30 ⟨rfl, hb30⟩
        clear HT29
        go_wp2_with fail
        refine hK.out _ _ (keep2 hb30 hHeld) (fun hHeld => ?_)
        clear hK K
        try simp only [Act.put, List.setIfInBounds_toArray, List.set_cons_zero, List.set_cons_succ]
        refine wpAnyH_take (i := 31) (oi := { dst := some 42, op := Op.binOp BinOp.eql 23 (Operand.tmp 34) (Operand.tmp 41) 23, type := 4, pos := "law.go:99", after := #[{ on := 23, ground := Ground.data }, { on := 30, ground := Ground.data }, { on := 20, ground := Ground.guard }], guard := some (20, true) }) (v := .bool true) rfl (by kernel_rfl) (by kernel_rfl) (by kernel_rfl) (fun _ _ _ h => h) (Or.inl ⟨by rfl, by intro W hSw; go_simp⟩) hHeld ?_
        try simp only [Act.put, List.setIfInBounds_toArray, List.set_cons_zero, List.set_cons_succ]
        refine wpAnyH_take (i := 32) (oi := { dst := some 43, op := Op.pick (Operand.tmp 31) (Operand.tmp 42) (Operand.const (Value.bool false)), type := 4, pos := "law.go:99", after := #[{ on := 20, ground := Ground.data }, { on := 31, ground := Ground.data }], guard := none }) (v := .bool true) rfl (by kernel_rfl) (by kernel_rfl) (by kernel_rfl) (fun _ _ _ h => h) (Or.inl ⟨by rfl, by intro W hSw; go_simp⟩) hHeld ?_
        try simp only [Act.put, List.setIfInBounds_toArray, List.set_cons_zero, List.set_cons_succ]
        refine wpAnyH_take (i := 33) (oi := { dst := some 4, op := Op.assign (Operand.tmp 43), type := 4, pos := "law.go:99", after := #[{ on := 32, ground := Ground.data }, { on := 30, ground := Ground.chain }, { on := 0, ground := Ground.phase }, { on := 1, ground := Ground.phase }, { on := 2, ground := Ground.phase }, { on := 3, ground := Ground.phase }, { on := 4, ground := Ground.phase }, { on := 5, ground := Ground.phase }, { on := 6, ground := Ground.phase }, { on := 7, ground := Ground.phase }, { on := 8, ground := Ground.phase }, { on := 9, ground := Ground.phase }, { on := 10, ground := Ground.phase }, { on := 11, ground := Ground.phase }, { on := 12, ground := Ground.phase }, { on := 13, ground := Ground.phase }, { on := 14, ground := Ground.phase }, { on := 15, ground := Ground.phase }, { on := 16, ground := Ground.phase }, { on := 17, ground := Ground.phase }, { on := 18, ground := Ground.phase }, { on := 19, ground := Ground.phase }, { on := 20, ground := Ground.phase }, { on := 21, ground := Ground.phase }, { on := 22, ground := Ground.phase }, { on := 23, ground := Ground.phase }, { on := 24, ground := Ground.phase }, { on := 25, ground := Ground.phase }, { on := 26, ground := Ground.phase }, { on := 27, ground := Ground.phase }, { on := 28, ground := Ground.phase }, { on := 29, ground := Ground.phase }, { on := 30, ground := Ground.phase }, { on := 31, ground := Ground.phase }, { on := 32, ground := Ground.phase }], guard := none }) (v := .bool true) rfl (by kernel_rfl) (by kernel_rfl) (by kernel_rfl) (fun _ _ _ h => h) (Or.inl ⟨by rfl, by intro W hSw; go_simp⟩) hHeld ?_
        try simp only [Act.put, List.setIfInBounds_toArray, List.set_cons_zero, List.set_cons_succ]
        refine wpAnyH_done (by kernel_rfl) ?_ _
        go_wp2
        go_ret
        exact ⟨rfl, hHeld.2.2⟩

theorem shaLeaves_walk (z0 z1 : List UInt8) (w : World) (w0 : z0.length = 32) (w1 : z1.length = 32) (hK : Table 0 w) :
    Calls Tryd.prog 3 #[digV z0, digV z1] w fun e w' => e = .returned (.bool true) ∧ Below w.heap.size w w' :=
  shaLeaves_rest z0 z1 w0 w1 w hK
end Go.Proofs.YthkmhfpihkjhnabDoor
