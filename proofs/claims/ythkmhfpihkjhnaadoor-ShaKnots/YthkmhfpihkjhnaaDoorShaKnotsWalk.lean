/- ShaKnots returns true for any text and any two digests. -/
import Derived.Test.YthkmhfpihkjhnaaDoorSumx
import Derived.Stop.BytesEq
namespace Go.Proofs.YthkmhfpihkjhnaaDoor
open Go.RowKit Sums
set_option linter.unusedVariables false
set_option linter.unusedSimpArgs false

theorem sizeOf5 (w : World) : (sizeOf 5).run Tryd.prog w = .ok 1 w := by
  cases hq : Tryd.prog.info? 5 with
  | none => have := size5; simp [hq] at this
  | some i => have := size5; simp [hq] at this; simp [sizeOf, typeInfo, hq, this]
theorem eqDig (xs ys : List UInt8) (hx : xs.length = 32) (hy : ys.length = 32) (w : World) : (binOp .eql 27 (.agg (cellsOf xs).toArray) (.agg (cellsOf ys).toArray)).run Tryd.prog w = .ok (.bool (xs == ys)) w :=
  run_eql_bytes w 27 5 32 Tryd.underlying27 Tryd.underlying5 sizeOf5 xs ys hx hy
theorem eqSelf (D : Array Value) (l : List UInt8) (hl : l.length = 32) (HD : Hid (D = (cellsOf l).toArray)) (w : World) : (binOp .eql 27 (.agg D) (.agg D)).run Tryd.prog w = .ok (.bool true) w := by
  rw [HD.out, eqDig l l hl hl]; simp

/-- Of, of texts that lie somewhere. -/
theorem of_texts (ss : List ByteArray) (n : Nat) (hn : n = ss.length) (ht : total ss ≤ 1000000) (hlen : ss.length ≤ 9223372036854775807) (D : Array Value) (HD : Hid (D = (cellsOf (sumD (joinL ss))).toArray)) (W : World) (g cap : Nat)
    (hT : Texts W (some ⟨g, 0, none⟩) n ss) (hK : Table 0 W) :
    Calls Tryd.prog 9 #[.slice (some ⟨g, 0, none⟩) n cap] W fun e w' => e = .returned (.agg D) ∧ Below W.heap.size W w' := by
  subst hn
  have h := of_any _ ss.length cap ss W hT ht hlen hK
  rw [HD.out]
  exact h

set_option maxHeartbeats 1000000 in
theorem shaKnots_long (s : ByteArray) (A B : Array Value) (w : World) (hs : s.size ≤ maxLen) (h : (65536 : Int) < (s.size : Int)) :
    Calls Tryd.prog 6 #[.string s, .agg A, .agg B] w fun e w' => e = .returned (.bool true) ∧ Below w.heap.size w w' := by
  unfold maxLen at hs
  go_enter Tryd.func6, Tryd.ntmps6
  go_wp2
  go_ret
  exact ⟨rfl, ((Below.refl _ _).alloc (Nat.le_refl _) _).alloc (by simp) _⟩

set_option maxHeartbeats 4000000 in
set_option maxRecDepth 100000 in
theorem shaKnots_rest (s : ByteArray) (l r : List UInt8) (hl : l.length = 32) (hr : r.length = 32) (w : World) (hs : s.size ≤ 65536) (hK : Table 0 w) :
    Calls Tryd.prog 6 #[.string s, .agg (cellsOf l).toArray, .agg (cellsOf r).toArray] w fun e w' => e = .returned (.bool true) ∧ Below w.heap.size w w' := by
  obtain ⟨D1, HD1⟩ : ∃ D, Hid (D = (cellsOf (sumD (0 :: s.data.toList))).toArray) := ⟨_, (rfl : (cellsOf (sumD (0 :: s.data.toList))).toArray = _)⟩
  obtain ⟨D2, HD2⟩ : ∃ D, Hid (D = (cellsOf (sumD (1 :: (l ++ r)))).toArray) := ⟨_, (rfl : (cellsOf (sumD (1 :: (l ++ r)))).toArray = _)⟩
  obtain ⟨x, HX⟩ : ∃ x : ByteArray, Hid (x = ⟨l.toArray⟩) := ⟨_, (rfl : (⟨l.toArray⟩ : ByteArray) = _)⟩
  obtain ⟨y, HY⟩ : ∃ y : ByteArray, Hid (y = ⟨r.toArray⟩) := ⟨_, (rfl : (⟨r.toArray⟩ : ByteArray) = _)⟩
  obtain ⟨A, HAL⟩ : ∃ A, Hid (A = cellsOf l) := ⟨_, (rfl : cellsOf l = _)⟩
  obtain ⟨B, HBR⟩ : ∃ B, Hid (B = cellsOf r) := ⟨_, (rfl : cellsOf r = _)⟩
  have HT : Hid (∀ W, Below w.heap.size w W → Table 0 W) := fun W hb => hK.keep hb
  have K0 : Hid (∀ W, Below w.heap.size w W → Calls Tryd.prog 8 #[] W fun e w' => e = .returned (.bool true) ∧ Below W.heap.size W w') := fun W hb => sums_true W (HT.out W hb)
  have K3 : Hid (∀ W, Below w.heap.size w W → Calls Tryd.prog 12 #[.string s] W fun e w' => e = .returned (.agg D1) ∧ Below W.heap.size W w') := fun W hb => leaf_any s W (by omega) (HT.out W hb) D1 HD1
  have K6 : Hid (∀ W g, Texts W (some ⟨g, 0, none⟩) 2 [⟨#[0]⟩, s] → Below w.heap.size w W → Calls Tryd.prog 9 #[.slice (some ⟨g, 0, none⟩) 2 2] W fun e w' => e = .returned (.agg D1) ∧ Below W.heap.size W w') := fun W g h hb =>
    of_texts [⟨#[0]⟩, s] 2 rfl (by show 1 + (s.size + 0) ≤ 1000000; omega) (by show 2 ≤ _; decide) D1 (by show _ = _; rw [HD1.out]; simp [joinL]) W g 2 h (HT.out W hb)
  have K12 : Hid (∀ W, Below w.heap.size w W → Calls Tryd.prog 14 #[.agg A.toArray, .agg B.toArray] W fun e w' => e = .returned (.agg D2) ∧ Below W.heap.size W w') := fun W hb => by
    rw [HAL.out, HBR.out]; exact knot_any l r hl hr W (HT.out W hb) D2 HD2
  have K18 : Hid (∀ W g, Texts W (some ⟨g, 0, none⟩) 3 [⟨#[1]⟩, x, y] → Below w.heap.size w W → Calls Tryd.prog 9 #[.slice (some ⟨g, 0, none⟩) 3 3] W fun e w' => e = .returned (.agg D2) ∧ Below W.heap.size W w') := fun W g h hb =>
    of_texts [⟨#[1]⟩, x, y] 3 rfl (by rw [HX.out, HY.out]; show 1 + (l.toArray.size + (r.toArray.size + 0)) ≤ 1000000; simp [hl, hr]) (by show 3 ≤ _; decide) D2 (by show _ = _; rw [HD2.out, HX.out, HY.out]; simp [joinL]) W g 3 h (HT.out W hb)
  have e1 := eqSelf D1 _ (sumD_length _) HD1
  have e2 := eqSelf D2 _ (sumD_length _) HD2
  have c0 : ∀ W, W.rangeAt w.heap.size 0 A → Sem.run Tryd.prog (convert 35 9 (.slice (some ⟨w.heap.size, 0, none⟩) 32 32)) W = .ok (.string x) W := fun W h => by
    rw [HX.out]; exact conv_dig W _ l hl (by rw [← HAL.out]; exact h)
  have c1 : ∀ W, W.rangeAt (w.heap.size + 1) 0 B → Sem.run Tryd.prog (convert 35 9 (.slice (some ⟨w.heap.size + 1, 0, none⟩) 32 32)) W = .ok (.string y) W := fun W h => by
    rw [HY.out]; exact conv_dig W _ r hr (by rw [← HBR.out]; exact h)
  have s0 := fun W => slice_all W w.heap.size
  have s1 := fun W => slice_all W (w.heap.size + 1)
  have z0 : (Tryd.prog.info? 27).map (·.size) = some A.length := by rw [size23, HAL.out, cellsOf_length, hl]
  have z1 : (Tryd.prog.info? 27).map (·.size) = some B.length := by rw [size23, HBR.out, cellsOf_length, hr]
  rw [← HAL.out, ← HBR.out]
  clear hK
  go_enter Tryd.func6, Tryd.ntmps6
  go_wp2_with fail
  obtain ⟨w0, hw0⟩ : ∃ w0, w0 = (w.alloc (.cells A.toArray 27)).alloc (.cells B.toArray 27) := ⟨_, rfl⟩
  have hS : w0.rangeAt w.heap.size 0 A ∧ w0.rangeAt (w.heap.size + 1) 0 B ∧ Below w.heap.size w w0 := by
    rw [hw0]
    exact ⟨range_row (heap_alloc2_old w _ _), range_row (heap_alloc2_new w _ _), ((Below.refl _ _).alloc (Nat.le_refl _) _).alloc (by simp) _⟩
  rw [← hw0]
  clear hw0
  refine wp_region_held_drew (S := (fun W => W.rangeAt w.heap.size 0 A ∧ W.rangeAt (w.heap.size + 1) 0 B ∧ Below w.heap.size w W)) (by kernel_rfl) (keep2 (Below.refl _ _).drew hS) (fun hHeld => ?_)
  refine wpAnyH_ready (rs := [0]) (by kernel_rfl) (by simp) ?_
  refine (AllReadyH.cons (o := { dst := some 10, op := Op.call { callee := Callee.value (Operand.func 8), args := #[], argTypes := #[] }, type := 4, pos := "law.go:66", after := #[], guard := none }) rfl (fun K hK => ?_) AllReadyH.nil)
  go_simp
  refine (K0.out _ hHeld.2.2).mono ?_
  rintro e w0 ⟨rfl, hb0⟩
  go_wp2_with fail
  refine hK.out _ _ (keep2 hb0 hHeld) (fun hHeld => ?_)
  clear hK K
  try simp only [Act.put, List.setIfInBounds_toArray, List.set_cons_zero, List.set_cons_succ]
  refine wpAnyH_take (i := 1) (oi := { dst := some 11, op := Op.move (Operand.tmp 10), type := 4, pos := "law.go:66", after := #[{ on := 0, ground := Ground.data }, { on := 0, ground := Ground.chain }], guard := none }) (v := .bool true) rfl (by kernel_rfl) (by kernel_rfl) (by kernel_rfl) (fun _ _ _ h => h) (Or.inl ⟨by rfl, by intro W hSw; go_simp⟩) hHeld ?_
  try simp only [Act.put, List.setIfInBounds_toArray, List.set_cons_zero, List.set_cons_succ]
  refine wpAnyH_take (i := 2) (oi := { dst := some 12, op := Op.move (Operand.tmp 0), type := 9, pos := "law.go:66", after := #[{ on := 1, ground := Ground.guard }], guard := some (1, true) }) (v := .string s) rfl (by kernel_rfl) (by kernel_rfl) (by kernel_rfl) (fun _ _ _ h => h) (Or.inl ⟨by rfl, by intro W hSw; go_simp⟩) hHeld ?_
  try simp only [Act.put, List.setIfInBounds_toArray, List.set_cons_zero, List.set_cons_succ]
  refine wpAnyH_take (i := 4) (oi := { dst := some 14, op := Op.move (Operand.tmp 0), type := 9, pos := "law.go:66", after := #[{ on := 1, ground := Ground.guard }], guard := some (1, true) }) (v := .string s) rfl (by kernel_rfl) (by kernel_rfl) (by kernel_rfl) (fun _ _ _ h => h) (Or.inl ⟨by rfl, by intro W hSw; go_simp⟩) hHeld ?_
  try simp only [Act.put, List.setIfInBounds_toArray, List.set_cons_zero, List.set_cons_succ]
  refine wpAnyH_ready (rs := [3, 5]) (by kernel_rfl) (by simp) ?_
  refine (AllReadyH.cons (o := { dst := some 13, op := Op.call { callee := Callee.value (Operand.func 12), args := #[Operand.tmp 12], argTypes := #[9] }, type := 27, pos := "law.go:66", after := #[{ on := 2, ground := Ground.data }, { on := 1, ground := Ground.chain }, { on := 1, ground := Ground.guard }], guard := some (1, true) }) rfl (fun K hK => ?_) (AllReadyH.cons (o := { dst := some 15, op := Op.buildSlice 22 2 #[(0, Operand.const (Value.string { data := #[0] })), (1, Operand.tmp 14)], type := 22, pos := "law.go:66", after := #[{ on := 4, ground := Ground.data }, { on := 1, ground := Ground.guard }], guard := some (1, true) }) rfl (fun K hK => ?_) AllReadyH.nil))
  · go_simp
    refine (K3.out _ hHeld.2.2).mono ?_
    rintro e w3 ⟨rfl, hb3⟩
    try (replace HT5 : Hid _ := HT5.out.keep hb3)
    go_wp2_with fail
    refine hK.out _ _ (keep2 hb3 hHeld) (fun hHeld => ?_)
    clear hK K
    try simp only [Act.put, List.setIfInBounds_toArray, List.set_cons_zero, List.set_cons_succ]
    refine wpAnyH_ready (rs := [5]) (by kernel_rfl) (by simp) ?_
    refine (AllReadyH.cons (o := { dst := some 15, op := Op.buildSlice 22 2 #[(0, Operand.const (Value.string { data := #[0] })), (1, Operand.tmp 14)], type := 22, pos := "law.go:66", after := #[{ on := 4, ground := Ground.data }, { on := 1, ground := Ground.guard }], guard := some (1, true) }) rfl (fun K hK => ?_) AllReadyH.nil)
    have HT5 : Hid (Texts (w3.alloc (.cells #[.string ⟨#[0]⟩, .string s] 9)) (some ⟨w3.heap.size, 0, none⟩) 2 [⟨#[0]⟩, s]) := texts_new w3 [⟨#[0]⟩, s] 9
    go_simp
    refine hK.out _ _ (keep2 ((Below.refl _ _).alloc (Nat.le_refl _) _) hHeld) (fun hHeld => ?_)
    clear hK K
    try simp only [Act.put, List.setIfInBounds_toArray, List.set_cons_zero, List.set_cons_succ]
    refine wpAnyH_ready (rs := [6]) (by kernel_rfl) (by simp) ?_
    refine (AllReadyH.cons (o := { dst := some 16, op := Op.call { callee := Callee.value (Operand.func 9), args := #[Operand.tmp 15], argTypes := #[22] }, type := 27, pos := "law.go:66", after := #[{ on := 5, ground := Ground.data }, { on := 3, ground := Ground.chain }, { on := 1, ground := Ground.guard }], guard := some (1, true) }) rfl (fun K hK => ?_) AllReadyH.nil)
    go_simp
    refine (K6.out _ _ HT5.out hHeld.2.2).mono ?_
    rintro e w6 ⟨rfl, hb6⟩
    clear HT5
    go_wp2_with fail
    refine hK.out _ _ (keep2 hb6 hHeld) (fun hHeld => ?_)
    clear hK K
    try simp only [Act.put, List.setIfInBounds_toArray, List.set_cons_zero, List.set_cons_succ]
    refine wpAnyH_take (i := 7) (oi := { dst := some 17, op := Op.binOp BinOp.eql 27 (Operand.tmp 13) (Operand.tmp 16) 27, type := 4, pos := "law.go:66", after := #[{ on := 3, ground := Ground.data }, { on := 6, ground := Ground.data }, { on := 1, ground := Ground.guard }], guard := some (1, true) }) (v := .bool true) rfl (by kernel_rfl) (by kernel_rfl) (by kernel_rfl) (fun _ _ _ h => h) (Or.inl ⟨by rfl, by intro W hSw; go_simp⟩) hHeld ?_
    try simp only [Act.put, List.setIfInBounds_toArray, List.set_cons_zero, List.set_cons_succ]
    refine wpAnyH_take (i := 8) (oi := { dst := some 18, op := Op.pick (Operand.tmp 11) (Operand.tmp 17) (Operand.const (Value.bool false)), type := 4, pos := "law.go:66", after := #[{ on := 1, ground := Ground.data }, { on := 7, ground := Ground.data }], guard := none }) (v := .bool true) rfl (by kernel_rfl) (by kernel_rfl) (by kernel_rfl) (fun _ _ _ h => h) (Or.inl ⟨by rfl, by intro W hSw; go_simp⟩) hHeld ?_
    try simp only [Act.put, List.setIfInBounds_toArray, List.set_cons_zero, List.set_cons_succ]
    refine wpAnyH_take (i := 9) (oi := { dst := some 19, op := Op.move (Operand.tmp 18), type := 4, pos := "law.go:66", after := #[{ on := 8, ground := Ground.data }, { on := 6, ground := Ground.chain }], guard := none }) (v := .bool true) rfl (by kernel_rfl) (by kernel_rfl) (by kernel_rfl) (fun _ _ _ h => h) (Or.inl ⟨by rfl, by intro W hSw; go_simp⟩) hHeld ?_
    try simp only [Act.put, List.setIfInBounds_toArray, List.set_cons_zero, List.set_cons_succ]
    refine wpAnyH_take (i := 10) (oi := { dst := some 20, op := Op.load 27 (Operand.tmp 4), type := 27, pos := "law.go:66", after := #[{ on := 9, ground := Ground.guard }], guard := some (9, true) }) (v := .agg A.toArray) rfl (by kernel_rfl) (by kernel_rfl) (by kernel_rfl) (fun _ _ _ h => h) (yieldsIf_load_mid (by rfl) 27 (.tmp 4) rfl _ 0 rfl A _ (fun _ h => h.1) Tryd.underlying27 rfl z0) hHeld ?_
    try simp only [Act.put, List.setIfInBounds_toArray, List.set_cons_zero, List.set_cons_succ]
    refine wpAnyH_take (i := 11) (oi := { dst := some 21, op := Op.load 27 (Operand.tmp 5), type := 27, pos := "law.go:66", after := #[{ on := 9, ground := Ground.guard }], guard := some (9, true) }) (v := .agg B.toArray) rfl (by kernel_rfl) (by kernel_rfl) (by kernel_rfl) (fun _ _ _ h => h) (yieldsIf_load_mid (by rfl) 27 (.tmp 5) rfl _ 0 rfl B _ (fun _ h => h.2.1) Tryd.underlying27 rfl z1) hHeld ?_
    try simp only [Act.put, List.setIfInBounds_toArray, List.set_cons_zero, List.set_cons_succ]
    refine wpAnyH_take (i := 13) (oi := { dst := some 23, op := Op.slice 27 (Operand.tmp 4) none none none, type := 35, pos := "law.go:66", after := #[{ on := 9, ground := Ground.guard }], guard := some (9, true) }) (v := .slice (some ⟨w.heap.size, 0, none⟩) 32 32) rfl (by kernel_rfl) (by kernel_rfl) (by kernel_rfl) (fun _ _ _ h => h) (Or.inl ⟨by rfl, by intro W hSw; go_simp⟩) hHeld ?_
    try simp only [Act.put, List.setIfInBounds_toArray, List.set_cons_zero, List.set_cons_succ]
    refine wpAnyH_take (i := 14) (oi := { dst := some 24, op := Op.convert 35 9 (Operand.tmp 23), type := 9, pos := "law.go:66", after := #[{ on := 13, ground := Ground.data }, { on := 9, ground := Ground.guard }], guard := some (9, true) }) (v := .string x) rfl (by kernel_rfl) (by kernel_rfl) (by kernel_rfl) (fun _ _ _ h => h) (Or.inl ⟨by rfl, by intro W hSw; have := c0 W hSw.1; go_simp⟩) hHeld ?_
    try simp only [Act.put, List.setIfInBounds_toArray, List.set_cons_zero, List.set_cons_succ]
    refine wpAnyH_take (i := 15) (oi := { dst := some 25, op := Op.slice 27 (Operand.tmp 5) none none none, type := 35, pos := "law.go:66", after := #[{ on := 9, ground := Ground.guard }], guard := some (9, true) }) (v := .slice (some ⟨w.heap.size + 1, 0, none⟩) 32 32) rfl (by kernel_rfl) (by kernel_rfl) (by kernel_rfl) (fun _ _ _ h => h) (Or.inl ⟨by rfl, by intro W hSw; go_simp⟩) hHeld ?_
    try simp only [Act.put, List.setIfInBounds_toArray, List.set_cons_zero, List.set_cons_succ]
    refine wpAnyH_take (i := 16) (oi := { dst := some 26, op := Op.convert 35 9 (Operand.tmp 25), type := 9, pos := "law.go:66", after := #[{ on := 15, ground := Ground.data }, { on := 9, ground := Ground.guard }], guard := some (9, true) }) (v := .string y) rfl (by kernel_rfl) (by kernel_rfl) (by kernel_rfl) (fun _ _ _ h => h) (Or.inl ⟨by rfl, by intro W hSw; have := c1 W hSw.2.1; go_simp⟩) hHeld ?_
    try simp only [Act.put, List.setIfInBounds_toArray, List.set_cons_zero, List.set_cons_succ]
    refine wpAnyH_ready (rs := [12, 17]) (by kernel_rfl) (by simp) ?_
    refine (AllReadyH.cons (o := { dst := some 22, op := Op.call { callee := Callee.value (Operand.func 14), args := #[Operand.tmp 20, Operand.tmp 21], argTypes := #[27, 27] }, type := 27, pos := "law.go:66", after := #[{ on := 10, ground := Ground.data }, { on := 11, ground := Ground.data }, { on := 9, ground := Ground.chain }, { on := 9, ground := Ground.guard }], guard := some (9, true) }) rfl (fun K hK => ?_) (AllReadyH.cons (o := { dst := some 27, op := Op.buildSlice 22 3 #[(0, Operand.const (Value.string { data := #[1] })), (1, Operand.tmp 24), (2, Operand.tmp 26)], type := 22, pos := "law.go:66", after := #[{ on := 14, ground := Ground.data }, { on := 16, ground := Ground.data }, { on := 9, ground := Ground.guard }], guard := some (9, true) }) rfl (fun K hK => ?_) AllReadyH.nil))
    · go_simp
      refine (K12.out _ hHeld.2.2).mono ?_
      rintro e w12 ⟨rfl, hb12⟩
      try (replace HT17 : Hid _ := HT17.out.keep hb12)
      go_wp2_with fail
      refine hK.out _ _ (keep2 hb12 hHeld) (fun hHeld => ?_)
      clear hK K
      try simp only [Act.put, List.setIfInBounds_toArray, List.set_cons_zero, List.set_cons_succ]
      refine wpAnyH_ready (rs := [17]) (by kernel_rfl) (by simp) ?_
      refine (AllReadyH.cons (o := { dst := some 27, op := Op.buildSlice 22 3 #[(0, Operand.const (Value.string { data := #[1] })), (1, Operand.tmp 24), (2, Operand.tmp 26)], type := 22, pos := "law.go:66", after := #[{ on := 14, ground := Ground.data }, { on := 16, ground := Ground.data }, { on := 9, ground := Ground.guard }], guard := some (9, true) }) rfl (fun K hK => ?_) AllReadyH.nil)
      have HT17 : Hid (Texts (w12.alloc (.cells #[.string ⟨#[1]⟩, .string x, .string y] 9)) (some ⟨w12.heap.size, 0, none⟩) 3 [⟨#[1]⟩, x, y]) := texts_new w12 [⟨#[1]⟩, x, y] 9
      go_simp
      refine hK.out _ _ (keep2 ((Below.refl _ _).alloc (Nat.le_refl _) _) hHeld) (fun hHeld => ?_)
      clear hK K
      try simp only [Act.put, List.setIfInBounds_toArray, List.set_cons_zero, List.set_cons_succ]
      refine wpAnyH_ready (rs := [18]) (by kernel_rfl) (by simp) ?_
      refine (AllReadyH.cons (o := { dst := some 28, op := Op.call { callee := Callee.value (Operand.func 9), args := #[Operand.tmp 27], argTypes := #[22] }, type := 27, pos := "law.go:66", after := #[{ on := 17, ground := Ground.data }, { on := 12, ground := Ground.chain }, { on := 9, ground := Ground.guard }], guard := some (9, true) }) rfl (fun K hK => ?_) AllReadyH.nil)
      go_simp
      refine (K18.out _ _ HT17.out hHeld.2.2).mono ?_
      rintro e w18 ⟨rfl, hb18⟩
      go_wp2_with fail
      refine hK.out _ _ (keep2 hb18 hHeld) (fun hHeld => ?_)
      clear hK K
      try simp only [Act.put, List.setIfInBounds_toArray, List.set_cons_zero, List.set_cons_succ]
      refine wpAnyH_take (i := 19) (oi := { dst := some 29, op := Op.binOp BinOp.eql 27 (Operand.tmp 22) (Operand.tmp 28) 27, type := 4, pos := "law.go:66", after := #[{ on := 12, ground := Ground.data }, { on := 18, ground := Ground.data }, { on := 9, ground := Ground.guard }], guard := some (9, true) }) (v := .bool true) rfl (by kernel_rfl) (by kernel_rfl) (by kernel_rfl) (fun _ _ _ h => h) (Or.inl ⟨by rfl, by intro W hSw; go_simp⟩) hHeld ?_
      try simp only [Act.put, List.setIfInBounds_toArray, List.set_cons_zero, List.set_cons_succ]
      refine wpAnyH_take (i := 20) (oi := { dst := some 30, op := Op.pick (Operand.tmp 19) (Operand.tmp 29) (Operand.const (Value.bool false)), type := 4, pos := "law.go:66", after := #[{ on := 9, ground := Ground.data }, { on := 19, ground := Ground.data }], guard := none }) (v := .bool true) rfl (by kernel_rfl) (by kernel_rfl) (by kernel_rfl) (fun _ _ _ h => h) (Or.inl ⟨by rfl, by intro W hSw; go_simp⟩) hHeld ?_
      try simp only [Act.put, List.setIfInBounds_toArray, List.set_cons_zero, List.set_cons_succ]
      refine wpAnyH_take (i := 21) (oi := { dst := some 6, op := Op.assign (Operand.tmp 30), type := 4, pos := "law.go:66", after := #[{ on := 20, ground := Ground.data }, { on := 18, ground := Ground.chain }, { on := 0, ground := Ground.phase }, { on := 1, ground := Ground.phase }, { on := 2, ground := Ground.phase }, { on := 3, ground := Ground.phase }, { on := 4, ground := Ground.phase }, { on := 5, ground := Ground.phase }, { on := 6, ground := Ground.phase }, { on := 7, ground := Ground.phase }, { on := 8, ground := Ground.phase }, { on := 9, ground := Ground.phase }, { on := 10, ground := Ground.phase }, { on := 11, ground := Ground.phase }, { on := 12, ground := Ground.phase }, { on := 13, ground := Ground.phase }, { on := 14, ground := Ground.phase }, { on := 15, ground := Ground.phase }, { on := 16, ground := Ground.phase }, { on := 17, ground := Ground.phase }, { on := 18, ground := Ground.phase }, { on := 19, ground := Ground.phase }, { on := 20, ground := Ground.phase }], guard := none }) (v := .bool true) rfl (by kernel_rfl) (by kernel_rfl) (by kernel_rfl) (fun _ _ _ h => h) (Or.inl ⟨by rfl, by intro W hSw; go_simp⟩) hHeld ?_
      try simp only [Act.put, List.setIfInBounds_toArray, List.set_cons_zero, List.set_cons_succ]
      refine wpAnyH_done (by kernel_rfl) ?_ _
      go_wp2
      go_ret
      exact ⟨rfl, hHeld.2.2⟩
    · have HT17 : Hid (Texts (w6.alloc (.cells #[.string ⟨#[1]⟩, .string x, .string y] 9)) (some ⟨w6.heap.size, 0, none⟩) 3 [⟨#[1]⟩, x, y]) := texts_new w6 [⟨#[1]⟩, x, y] 9
      go_simp
      refine hK.out _ _ (keep2 ((Below.refl _ _).alloc (Nat.le_refl _) _) hHeld) (fun hHeld => ?_)
      clear hK K
      try simp only [Act.put, List.setIfInBounds_toArray, List.set_cons_zero, List.set_cons_succ]
      refine wpAnyH_ready (rs := [12]) (by kernel_rfl) (by simp) ?_
      refine (AllReadyH.cons (o := { dst := some 22, op := Op.call { callee := Callee.value (Operand.func 14), args := #[Operand.tmp 20, Operand.tmp 21], argTypes := #[27, 27] }, type := 27, pos := "law.go:66", after := #[{ on := 10, ground := Ground.data }, { on := 11, ground := Ground.data }, { on := 9, ground := Ground.chain }, { on := 9, ground := Ground.guard }], guard := some (9, true) }) rfl (fun K hK => ?_) AllReadyH.nil)
      go_simp
      refine (K12.out _ hHeld.2.2).mono ?_
      rintro e w12 ⟨rfl, hb12⟩
      try (replace HT17 : Hid _ := HT17.out.keep hb12)
      go_wp2_with fail
      refine hK.out _ _ (keep2 hb12 hHeld) (fun hHeld => ?_)
      clear hK K
      try simp only [Act.put, List.setIfInBounds_toArray, List.set_cons_zero, List.set_cons_succ]
      refine wpAnyH_ready (rs := [18]) (by kernel_rfl) (by simp) ?_
      refine (AllReadyH.cons (o := { dst := some 28, op := Op.call { callee := Callee.value (Operand.func 9), args := #[Operand.tmp 27], argTypes := #[22] }, type := 27, pos := "law.go:66", after := #[{ on := 17, ground := Ground.data }, { on := 12, ground := Ground.chain }, { on := 9, ground := Ground.guard }], guard := some (9, true) }) rfl (fun K hK => ?_) AllReadyH.nil)
      go_simp
      refine (K18.out _ _ HT17.out hHeld.2.2).mono ?_
      rintro e w18 ⟨rfl, hb18⟩
      go_wp2_with fail
      refine hK.out _ _ (keep2 hb18 hHeld) (fun hHeld => ?_)
      clear hK K
      try simp only [Act.put, List.setIfInBounds_toArray, List.set_cons_zero, List.set_cons_succ]
      refine wpAnyH_take (i := 19) (oi := { dst := some 29, op := Op.binOp BinOp.eql 27 (Operand.tmp 22) (Operand.tmp 28) 27, type := 4, pos := "law.go:66", after := #[{ on := 12, ground := Ground.data }, { on := 18, ground := Ground.data }, { on := 9, ground := Ground.guard }], guard := some (9, true) }) (v := .bool true) rfl (by kernel_rfl) (by kernel_rfl) (by kernel_rfl) (fun _ _ _ h => h) (Or.inl ⟨by rfl, by intro W hSw; go_simp⟩) hHeld ?_
      try simp only [Act.put, List.setIfInBounds_toArray, List.set_cons_zero, List.set_cons_succ]
      refine wpAnyH_take (i := 20) (oi := { dst := some 30, op := Op.pick (Operand.tmp 19) (Operand.tmp 29) (Operand.const (Value.bool false)), type := 4, pos := "law.go:66", after := #[{ on := 9, ground := Ground.data }, { on := 19, ground := Ground.data }], guard := none }) (v := .bool true) rfl (by kernel_rfl) (by kernel_rfl) (by kernel_rfl) (fun _ _ _ h => h) (Or.inl ⟨by rfl, by intro W hSw; go_simp⟩) hHeld ?_
      try simp only [Act.put, List.setIfInBounds_toArray, List.set_cons_zero, List.set_cons_succ]
      refine wpAnyH_take (i := 21) (oi := { dst := some 6, op := Op.assign (Operand.tmp 30), type := 4, pos := "law.go:66", after := #[{ on := 20, ground := Ground.data }, { on := 18, ground := Ground.chain }, { on := 0, ground := Ground.phase }, { on := 1, ground := Ground.phase }, { on := 2, ground := Ground.phase }, { on := 3, ground := Ground.phase }, { on := 4, ground := Ground.phase }, { on := 5, ground := Ground.phase }, { on := 6, ground := Ground.phase }, { on := 7, ground := Ground.phase }, { on := 8, ground := Ground.phase }, { on := 9, ground := Ground.phase }, { on := 10, ground := Ground.phase }, { on := 11, ground := Ground.phase }, { on := 12, ground := Ground.phase }, { on := 13, ground := Ground.phase }, { on := 14, ground := Ground.phase }, { on := 15, ground := Ground.phase }, { on := 16, ground := Ground.phase }, { on := 17, ground := Ground.phase }, { on := 18, ground := Ground.phase }, { on := 19, ground := Ground.phase }, { on := 20, ground := Ground.phase }], guard := none }) (v := .bool true) rfl (by kernel_rfl) (by kernel_rfl) (by kernel_rfl) (fun _ _ _ h => h) (Or.inl ⟨by rfl, by intro W hSw; go_simp⟩) hHeld ?_
      try simp only [Act.put, List.setIfInBounds_toArray, List.set_cons_zero, List.set_cons_succ]
      refine wpAnyH_done (by kernel_rfl) ?_ _
      go_wp2
      go_ret
      exact ⟨rfl, hHeld.2.2⟩
  · have HT5 : Hid (Texts (w0.alloc (.cells #[.string ⟨#[0]⟩, .string s] 9)) (some ⟨w0.heap.size, 0, none⟩) 2 [⟨#[0]⟩, s]) := texts_new w0 [⟨#[0]⟩, s] 9
    go_simp
    refine hK.out _ _ (keep2 ((Below.refl _ _).alloc (Nat.le_refl _) _) hHeld) (fun hHeld => ?_)
    clear hK K
    try simp only [Act.put, List.setIfInBounds_toArray, List.set_cons_zero, List.set_cons_succ]
    refine wpAnyH_ready (rs := [3]) (by kernel_rfl) (by simp) ?_
    refine (AllReadyH.cons (o := { dst := some 13, op := Op.call { callee := Callee.value (Operand.func 12), args := #[Operand.tmp 12], argTypes := #[9] }, type := 27, pos := "law.go:66", after := #[{ on := 2, ground := Ground.data }, { on := 1, ground := Ground.chain }, { on := 1, ground := Ground.guard }], guard := some (1, true) }) rfl (fun K hK => ?_) AllReadyH.nil)
    go_simp
    refine (K3.out _ hHeld.2.2).mono ?_
    rintro e w3 ⟨rfl, hb3⟩
    try (replace HT5 : Hid _ := HT5.out.keep hb3)
    go_wp2_with fail
    refine hK.out _ _ (keep2 hb3 hHeld) (fun hHeld => ?_)
    clear hK K
    try simp only [Act.put, List.setIfInBounds_toArray, List.set_cons_zero, List.set_cons_succ]
    refine wpAnyH_ready (rs := [6]) (by kernel_rfl) (by simp) ?_
    refine (AllReadyH.cons (o := { dst := some 16, op := Op.call { callee := Callee.value (Operand.func 9), args := #[Operand.tmp 15], argTypes := #[22] }, type := 27, pos := "law.go:66", after := #[{ on := 5, ground := Ground.data }, { on := 3, ground := Ground.chain }, { on := 1, ground := Ground.guard }], guard := some (1, true) }) rfl (fun K hK => ?_) AllReadyH.nil)
    go_simp
    refine (K6.out _ _ HT5.out hHeld.2.2).mono ?_
    rintro e w6 ⟨rfl, hb6⟩
    clear HT5
    go_wp2_with fail
    refine hK.out _ _ (keep2 hb6 hHeld) (fun hHeld => ?_)
    clear hK K
    try simp only [Act.put, List.setIfInBounds_toArray, List.set_cons_zero, List.set_cons_succ]
    refine wpAnyH_take (i := 7) (oi := { dst := some 17, op := Op.binOp BinOp.eql 27 (Operand.tmp 13) (Operand.tmp 16) 27, type := 4, pos := "law.go:66", after := #[{ on := 3, ground := Ground.data }, { on := 6, ground := Ground.data }, { on := 1, ground := Ground.guard }], guard := some (1, true) }) (v := .bool true) rfl (by kernel_rfl) (by kernel_rfl) (by kernel_rfl) (fun _ _ _ h => h) (Or.inl ⟨by rfl, by intro W hSw; go_simp⟩) hHeld ?_
    try simp only [Act.put, List.setIfInBounds_toArray, List.set_cons_zero, List.set_cons_succ]
    refine wpAnyH_take (i := 8) (oi := { dst := some 18, op := Op.pick (Operand.tmp 11) (Operand.tmp 17) (Operand.const (Value.bool false)), type := 4, pos := "law.go:66", after := #[{ on := 1, ground := Ground.data }, { on := 7, ground := Ground.data }], guard := none }) (v := .bool true) rfl (by kernel_rfl) (by kernel_rfl) (by kernel_rfl) (fun _ _ _ h => h) (Or.inl ⟨by rfl, by intro W hSw; go_simp⟩) hHeld ?_
    try simp only [Act.put, List.setIfInBounds_toArray, List.set_cons_zero, List.set_cons_succ]
    refine wpAnyH_take (i := 9) (oi := { dst := some 19, op := Op.move (Operand.tmp 18), type := 4, pos := "law.go:66", after := #[{ on := 8, ground := Ground.data }, { on := 6, ground := Ground.chain }], guard := none }) (v := .bool true) rfl (by kernel_rfl) (by kernel_rfl) (by kernel_rfl) (fun _ _ _ h => h) (Or.inl ⟨by rfl, by intro W hSw; go_simp⟩) hHeld ?_
    try simp only [Act.put, List.setIfInBounds_toArray, List.set_cons_zero, List.set_cons_succ]
    refine wpAnyH_take (i := 10) (oi := { dst := some 20, op := Op.load 27 (Operand.tmp 4), type := 27, pos := "law.go:66", after := #[{ on := 9, ground := Ground.guard }], guard := some (9, true) }) (v := .agg A.toArray) rfl (by kernel_rfl) (by kernel_rfl) (by kernel_rfl) (fun _ _ _ h => h) (yieldsIf_load_mid (by rfl) 27 (.tmp 4) rfl _ 0 rfl A _ (fun _ h => h.1) Tryd.underlying27 rfl z0) hHeld ?_
    try simp only [Act.put, List.setIfInBounds_toArray, List.set_cons_zero, List.set_cons_succ]
    refine wpAnyH_take (i := 11) (oi := { dst := some 21, op := Op.load 27 (Operand.tmp 5), type := 27, pos := "law.go:66", after := #[{ on := 9, ground := Ground.guard }], guard := some (9, true) }) (v := .agg B.toArray) rfl (by kernel_rfl) (by kernel_rfl) (by kernel_rfl) (fun _ _ _ h => h) (yieldsIf_load_mid (by rfl) 27 (.tmp 5) rfl _ 0 rfl B _ (fun _ h => h.2.1) Tryd.underlying27 rfl z1) hHeld ?_
    try simp only [Act.put, List.setIfInBounds_toArray, List.set_cons_zero, List.set_cons_succ]
    refine wpAnyH_take (i := 13) (oi := { dst := some 23, op := Op.slice 27 (Operand.tmp 4) none none none, type := 35, pos := "law.go:66", after := #[{ on := 9, ground := Ground.guard }], guard := some (9, true) }) (v := .slice (some ⟨w.heap.size, 0, none⟩) 32 32) rfl (by kernel_rfl) (by kernel_rfl) (by kernel_rfl) (fun _ _ _ h => h) (Or.inl ⟨by rfl, by intro W hSw; go_simp⟩) hHeld ?_
    try simp only [Act.put, List.setIfInBounds_toArray, List.set_cons_zero, List.set_cons_succ]
    refine wpAnyH_take (i := 14) (oi := { dst := some 24, op := Op.convert 35 9 (Operand.tmp 23), type := 9, pos := "law.go:66", after := #[{ on := 13, ground := Ground.data }, { on := 9, ground := Ground.guard }], guard := some (9, true) }) (v := .string x) rfl (by kernel_rfl) (by kernel_rfl) (by kernel_rfl) (fun _ _ _ h => h) (Or.inl ⟨by rfl, by intro W hSw; have := c0 W hSw.1; go_simp⟩) hHeld ?_
    try simp only [Act.put, List.setIfInBounds_toArray, List.set_cons_zero, List.set_cons_succ]
    refine wpAnyH_take (i := 15) (oi := { dst := some 25, op := Op.slice 27 (Operand.tmp 5) none none none, type := 35, pos := "law.go:66", after := #[{ on := 9, ground := Ground.guard }], guard := some (9, true) }) (v := .slice (some ⟨w.heap.size + 1, 0, none⟩) 32 32) rfl (by kernel_rfl) (by kernel_rfl) (by kernel_rfl) (fun _ _ _ h => h) (Or.inl ⟨by rfl, by intro W hSw; go_simp⟩) hHeld ?_
    try simp only [Act.put, List.setIfInBounds_toArray, List.set_cons_zero, List.set_cons_succ]
    refine wpAnyH_take (i := 16) (oi := { dst := some 26, op := Op.convert 35 9 (Operand.tmp 25), type := 9, pos := "law.go:66", after := #[{ on := 15, ground := Ground.data }, { on := 9, ground := Ground.guard }], guard := some (9, true) }) (v := .string y) rfl (by kernel_rfl) (by kernel_rfl) (by kernel_rfl) (fun _ _ _ h => h) (Or.inl ⟨by rfl, by intro W hSw; have := c1 W hSw.2.1; go_simp⟩) hHeld ?_
    try simp only [Act.put, List.setIfInBounds_toArray, List.set_cons_zero, List.set_cons_succ]
    refine wpAnyH_ready (rs := [12, 17]) (by kernel_rfl) (by simp) ?_
    refine (AllReadyH.cons (o := { dst := some 22, op := Op.call { callee := Callee.value (Operand.func 14), args := #[Operand.tmp 20, Operand.tmp 21], argTypes := #[27, 27] }, type := 27, pos := "law.go:66", after := #[{ on := 10, ground := Ground.data }, { on := 11, ground := Ground.data }, { on := 9, ground := Ground.chain }, { on := 9, ground := Ground.guard }], guard := some (9, true) }) rfl (fun K hK => ?_) (AllReadyH.cons (o := { dst := some 27, op := Op.buildSlice 22 3 #[(0, Operand.const (Value.string { data := #[1] })), (1, Operand.tmp 24), (2, Operand.tmp 26)], type := 22, pos := "law.go:66", after := #[{ on := 14, ground := Ground.data }, { on := 16, ground := Ground.data }, { on := 9, ground := Ground.guard }], guard := some (9, true) }) rfl (fun K hK => ?_) AllReadyH.nil))
    · go_simp
      refine (K12.out _ hHeld.2.2).mono ?_
      rintro e w12 ⟨rfl, hb12⟩
      try (replace HT17 : Hid _ := HT17.out.keep hb12)
      go_wp2_with fail
      refine hK.out _ _ (keep2 hb12 hHeld) (fun hHeld => ?_)
      clear hK K
      try simp only [Act.put, List.setIfInBounds_toArray, List.set_cons_zero, List.set_cons_succ]
      refine wpAnyH_ready (rs := [17]) (by kernel_rfl) (by simp) ?_
      refine (AllReadyH.cons (o := { dst := some 27, op := Op.buildSlice 22 3 #[(0, Operand.const (Value.string { data := #[1] })), (1, Operand.tmp 24), (2, Operand.tmp 26)], type := 22, pos := "law.go:66", after := #[{ on := 14, ground := Ground.data }, { on := 16, ground := Ground.data }, { on := 9, ground := Ground.guard }], guard := some (9, true) }) rfl (fun K hK => ?_) AllReadyH.nil)
      have HT17 : Hid (Texts (w12.alloc (.cells #[.string ⟨#[1]⟩, .string x, .string y] 9)) (some ⟨w12.heap.size, 0, none⟩) 3 [⟨#[1]⟩, x, y]) := texts_new w12 [⟨#[1]⟩, x, y] 9
      go_simp
      refine hK.out _ _ (keep2 ((Below.refl _ _).alloc (Nat.le_refl _) _) hHeld) (fun hHeld => ?_)
      clear hK K
      try simp only [Act.put, List.setIfInBounds_toArray, List.set_cons_zero, List.set_cons_succ]
      refine wpAnyH_ready (rs := [18]) (by kernel_rfl) (by simp) ?_
      refine (AllReadyH.cons (o := { dst := some 28, op := Op.call { callee := Callee.value (Operand.func 9), args := #[Operand.tmp 27], argTypes := #[22] }, type := 27, pos := "law.go:66", after := #[{ on := 17, ground := Ground.data }, { on := 12, ground := Ground.chain }, { on := 9, ground := Ground.guard }], guard := some (9, true) }) rfl (fun K hK => ?_) AllReadyH.nil)
      go_simp
      refine (K18.out _ _ HT17.out hHeld.2.2).mono ?_
      rintro e w18 ⟨rfl, hb18⟩
      go_wp2_with fail
      refine hK.out _ _ (keep2 hb18 hHeld) (fun hHeld => ?_)
      clear hK K
      try simp only [Act.put, List.setIfInBounds_toArray, List.set_cons_zero, List.set_cons_succ]
      refine wpAnyH_take (i := 19) (oi := { dst := some 29, op := Op.binOp BinOp.eql 27 (Operand.tmp 22) (Operand.tmp 28) 27, type := 4, pos := "law.go:66", after := #[{ on := 12, ground := Ground.data }, { on := 18, ground := Ground.data }, { on := 9, ground := Ground.guard }], guard := some (9, true) }) (v := .bool true) rfl (by kernel_rfl) (by kernel_rfl) (by kernel_rfl) (fun _ _ _ h => h) (Or.inl ⟨by rfl, by intro W hSw; go_simp⟩) hHeld ?_
      try simp only [Act.put, List.setIfInBounds_toArray, List.set_cons_zero, List.set_cons_succ]
      refine wpAnyH_take (i := 20) (oi := { dst := some 30, op := Op.pick (Operand.tmp 19) (Operand.tmp 29) (Operand.const (Value.bool false)), type := 4, pos := "law.go:66", after := #[{ on := 9, ground := Ground.data }, { on := 19, ground := Ground.data }], guard := none }) (v := .bool true) rfl (by kernel_rfl) (by kernel_rfl) (by kernel_rfl) (fun _ _ _ h => h) (Or.inl ⟨by rfl, by intro W hSw; go_simp⟩) hHeld ?_
      try simp only [Act.put, List.setIfInBounds_toArray, List.set_cons_zero, List.set_cons_succ]
      refine wpAnyH_take (i := 21) (oi := { dst := some 6, op := Op.assign (Operand.tmp 30), type := 4, pos := "law.go:66", after := #[{ on := 20, ground := Ground.data }, { on := 18, ground := Ground.chain }, { on := 0, ground := Ground.phase }, { on := 1, ground := Ground.phase }, { on := 2, ground := Ground.phase }, { on := 3, ground := Ground.phase }, { on := 4, ground := Ground.phase }, { on := 5, ground := Ground.phase }, { on := 6, ground := Ground.phase }, { on := 7, ground := Ground.phase }, { on := 8, ground := Ground.phase }, { on := 9, ground := Ground.phase }, { on := 10, ground := Ground.phase }, { on := 11, ground := Ground.phase }, { on := 12, ground := Ground.phase }, { on := 13, ground := Ground.phase }, { on := 14, ground := Ground.phase }, { on := 15, ground := Ground.phase }, { on := 16, ground := Ground.phase }, { on := 17, ground := Ground.phase }, { on := 18, ground := Ground.phase }, { on := 19, ground := Ground.phase }, { on := 20, ground := Ground.phase }], guard := none }) (v := .bool true) rfl (by kernel_rfl) (by kernel_rfl) (by kernel_rfl) (fun _ _ _ h => h) (Or.inl ⟨by rfl, by intro W hSw; go_simp⟩) hHeld ?_
      try simp only [Act.put, List.setIfInBounds_toArray, List.set_cons_zero, List.set_cons_succ]
      refine wpAnyH_done (by kernel_rfl) ?_ _
      go_wp2
      go_ret
      exact ⟨rfl, hHeld.2.2⟩
    · have HT17 : Hid (Texts (w6.alloc (.cells #[.string ⟨#[1]⟩, .string x, .string y] 9)) (some ⟨w6.heap.size, 0, none⟩) 3 [⟨#[1]⟩, x, y]) := texts_new w6 [⟨#[1]⟩, x, y] 9
      go_simp
      refine hK.out _ _ (keep2 ((Below.refl _ _).alloc (Nat.le_refl _) _) hHeld) (fun hHeld => ?_)
      clear hK K
      try simp only [Act.put, List.setIfInBounds_toArray, List.set_cons_zero, List.set_cons_succ]
      refine wpAnyH_ready (rs := [12]) (by kernel_rfl) (by simp) ?_
      refine (AllReadyH.cons (o := { dst := some 22, op := Op.call { callee := Callee.value (Operand.func 14), args := #[Operand.tmp 20, Operand.tmp 21], argTypes := #[27, 27] }, type := 27, pos := "law.go:66", after := #[{ on := 10, ground := Ground.data }, { on := 11, ground := Ground.data }, { on := 9, ground := Ground.chain }, { on := 9, ground := Ground.guard }], guard := some (9, true) }) rfl (fun K hK => ?_) AllReadyH.nil)
      go_simp
      refine (K12.out _ hHeld.2.2).mono ?_
      rintro e w12 ⟨rfl, hb12⟩
      try (replace HT17 : Hid _ := HT17.out.keep hb12)
      go_wp2_with fail
      refine hK.out _ _ (keep2 hb12 hHeld) (fun hHeld => ?_)
      clear hK K
      try simp only [Act.put, List.setIfInBounds_toArray, List.set_cons_zero, List.set_cons_succ]
      refine wpAnyH_ready (rs := [18]) (by kernel_rfl) (by simp) ?_
      refine (AllReadyH.cons (o := { dst := some 28, op := Op.call { callee := Callee.value (Operand.func 9), args := #[Operand.tmp 27], argTypes := #[22] }, type := 27, pos := "law.go:66", after := #[{ on := 17, ground := Ground.data }, { on := 12, ground := Ground.chain }, { on := 9, ground := Ground.guard }], guard := some (9, true) }) rfl (fun K hK => ?_) AllReadyH.nil)
      go_simp
      refine (K18.out _ _ HT17.out hHeld.2.2).mono ?_
      rintro e w18 ⟨rfl, hb18⟩
      go_wp2_with fail
      refine hK.out _ _ (keep2 hb18 hHeld) (fun hHeld => ?_)
      clear hK K
      try simp only [Act.put, List.setIfInBounds_toArray, List.set_cons_zero, List.set_cons_succ]
      refine wpAnyH_take (i := 19) (oi := { dst := some 29, op := Op.binOp BinOp.eql 27 (Operand.tmp 22) (Operand.tmp 28) 27, type := 4, pos := "law.go:66", after := #[{ on := 12, ground := Ground.data }, { on := 18, ground := Ground.data }, { on := 9, ground := Ground.guard }], guard := some (9, true) }) (v := .bool true) rfl (by kernel_rfl) (by kernel_rfl) (by kernel_rfl) (fun _ _ _ h => h) (Or.inl ⟨by rfl, by intro W hSw; go_simp⟩) hHeld ?_
      try simp only [Act.put, List.setIfInBounds_toArray, List.set_cons_zero, List.set_cons_succ]
      refine wpAnyH_take (i := 20) (oi := { dst := some 30, op := Op.pick (Operand.tmp 19) (Operand.tmp 29) (Operand.const (Value.bool false)), type := 4, pos := "law.go:66", after := #[{ on := 9, ground := Ground.data }, { on := 19, ground := Ground.data }], guard := none }) (v := .bool true) rfl (by kernel_rfl) (by kernel_rfl) (by kernel_rfl) (fun _ _ _ h => h) (Or.inl ⟨by rfl, by intro W hSw; go_simp⟩) hHeld ?_
      try simp only [Act.put, List.setIfInBounds_toArray, List.set_cons_zero, List.set_cons_succ]
      refine wpAnyH_take (i := 21) (oi := { dst := some 6, op := Op.assign (Operand.tmp 30), type := 4, pos := "law.go:66", after := #[{ on := 20, ground := Ground.data }, { on := 18, ground := Ground.chain }, { on := 0, ground := Ground.phase }, { on := 1, ground := Ground.phase }, { on := 2, ground := Ground.phase }, { on := 3, ground := Ground.phase }, { on := 4, ground := Ground.phase }, { on := 5, ground := Ground.phase }, { on := 6, ground := Ground.phase }, { on := 7, ground := Ground.phase }, { on := 8, ground := Ground.phase }, { on := 9, ground := Ground.phase }, { on := 10, ground := Ground.phase }, { on := 11, ground := Ground.phase }, { on := 12, ground := Ground.phase }, { on := 13, ground := Ground.phase }, { on := 14, ground := Ground.phase }, { on := 15, ground := Ground.phase }, { on := 16, ground := Ground.phase }, { on := 17, ground := Ground.phase }, { on := 18, ground := Ground.phase }, { on := 19, ground := Ground.phase }, { on := 20, ground := Ground.phase }], guard := none }) (v := .bool true) rfl (by kernel_rfl) (by kernel_rfl) (by kernel_rfl) (fun _ _ _ h => h) (Or.inl ⟨by rfl, by intro W hSw; go_simp⟩) hHeld ?_
      try simp only [Act.put, List.setIfInBounds_toArray, List.set_cons_zero, List.set_cons_succ]
      refine wpAnyH_done (by kernel_rfl) ?_ _
      go_wp2
      go_ret
      exact ⟨rfl, hHeld.2.2⟩

theorem shaKnots_walk (a0 : ByteArray) (z1 z2 : List UInt8) (w : World) (w0 : a0.size ≤ maxLen) (w1 : z1.length = 32) (w2 : z2.length = 32) (hK : Table 0 w) :
    Calls Tryd.prog 6 #[.string a0, digV z1, digV z2] w fun e w' => e = .returned (.bool true) ∧ Below w.heap.size w w' := by
  by_cases h : a0.size ≤ 65536
  · exact shaKnots_rest a0 z1 z2 w1 w2 w h hK
  · exact shaKnots_long a0 _ _ w w0 (by omega)
end Go.Proofs.YthkmhfpihkjhnaaDoor
