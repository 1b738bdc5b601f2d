/- ShaParts returns true for any texts, any text and any integer. -/
import Derived.Test.YthkmhfpihkjhnaaDoorJoined
import Derived.Test.YthkmhfpihkjhnaaDoorEqs
import Derived.Test.YthkmhfpihkjhnaaDoorOpenT
namespace Go.Proofs.YthkmhfpihkjhnaaDoor
open Go.RowKit Sums
set_option linter.unusedVariables false
set_option linter.unusedSimpArgs false

set_option maxHeartbeats 1000000 in
/-- What is more than is looked at. -/
theorem shaParts_no (a : Option Addr) (len cap : Nat) (ss : List ByteArray) (x : ByteArray) (n : Int) (w : World) (hx : x.size ≤ maxLen)
    (hJ : Hid (Calls Tryd.prog 7 #[.slice a len cap] w fun e w' => e = .returned (.tuple #[.string ⟨#[]⟩, .bool false]) ∧ w = w')) :
    Calls Tryd.prog 4 #[.slice a len cap, .string x, .int .i64 n] w fun e w' => e = .returned (.bool true) ∧ Below w.heap.size w w' := by
  go_enter Tryd.func4, Tryd.ntmps4
  go_wp2_with fail
  refine hJ.out.mono ?_
  rintro e _ ⟨rfl, rfl⟩
  go_wp2
  go_ret
  exact ⟨rfl, Below.refl _ _⟩

set_option maxHeartbeats 1000000 in
theorem shaParts_far (a : Option Addr) (len cap : Nat) (t x : ByteArray) (n : Int) (w : World) (hx : x.size ≤ maxLen) (h0 : -9223372036854775808 ≤ n) (h1 : n ≤ 9223372036854775807)
    (hJ : Hid (Calls Tryd.prog 7 #[.slice a len cap] w fun e w' => e = .returned (.tuple #[.string t, .bool true]) ∧ w = w')) (hf : 65536 < x.size ∨ n < 0 ∨ (x.size : Int) < n) :
    Calls Tryd.prog 4 #[.slice a len cap, .string x, .int .i64 n] w fun e w' => e = .returned (.bool true) ∧ Below w.heap.size w w' := by
  unfold maxLen at hx
  by_cases f1 : 65536 < x.size
  · have f1' : (65536 : Int) < (x.size : Int) := by omega
    go_enter Tryd.func4, Tryd.ntmps4
    go_wp2_with fail
    refine hJ.out.mono ?_
    rintro e _ ⟨rfl, rfl⟩
    go_wp2
    go_ret
    exact ⟨rfl, Below.refl _ _⟩
  · have f1' : ¬ ((65536 : Int) < (x.size : Int)) := by omega
    by_cases f2 : n < 0
    · go_enter Tryd.func4, Tryd.ntmps4
      go_wp2_with fail
      refine hJ.out.mono ?_
      rintro e _ ⟨rfl, rfl⟩
      go_wp2
      go_ret
      exact ⟨rfl, Below.refl _ _⟩
    · have f3 : (x.size : Int) < n := by omega
      go_enter Tryd.func4, Tryd.ntmps4
      go_wp2_with fail
      refine hJ.out.mono ?_
      rintro e _ ⟨rfl, rfl⟩
      go_wp2
      go_ret
      exact ⟨rfl, Below.refl _ _⟩

theorem keep1 {w W W' : World} (hb : Below W.heap.size W W') (h : Below w.heap.size w W) : Below w.heap.size w W' := h.trans (hb.mono h.size)

set_option maxHeartbeats 4000000 in
set_option maxRecDepth 100000 in
theorem shaParts_rest (a : Option Addr) (len cap : Nat) (ss : List ByteArray) (t x : ByteArray) (n : Nat) (w : World) (hT : Texts w a len ss) (hx : x.size ≤ 65536) (hn : n ≤ x.size) (ht : t.data.toList = joinL ss) (htot : total ss ≤ 65536) (hl5 : ss.length ≤ 500)
    (hJ : Hid (Calls Tryd.prog 7 #[.slice a len cap] w fun e w' => e = .returned (.tuple #[.string t, .bool true]) ∧ w = w')) (hK : Table 0 w) :
    Calls Tryd.prog 4 #[.slice a len cap, .string x, .int .i64 n] w fun e w' => e = .returned (.bool true) ∧ Below w.heap.size w w' := by
  obtain ⟨D1, HD1⟩ : ∃ D, Hid (D = (cellsOf (sumD (joinL ss))).toArray) := ⟨_, (rfl : (cellsOf (sumD (joinL ss))).toArray = _)⟩
  obtain ⟨D2, HD2⟩ : ∃ D, Hid (D = (cellsOf (sumD x.data.toList)).toArray) := ⟨_, (rfl : (cellsOf (sumD x.data.toList)).toArray = _)⟩
  obtain ⟨D3, HD3⟩ : ∃ D, Hid (D = (cellsOf (sumD [])).toArray) := ⟨_, (rfl : (cellsOf (sumD [])).toArray = _)⟩
  obtain ⟨x1, HX1⟩ : ∃ y : ByteArray, Hid (y = x.extract 0 n) := ⟨_, (rfl : x.extract 0 n = _)⟩
  obtain ⟨x2, HX2⟩ : ∃ y : ByteArray, Hid (y = x.extract n x.size) := ⟨_, (rfl : x.extract n x.size = _)⟩
  have hts : t.size ≤ 65536 := by
    have h2 : t.data.toList.length = t.size := rfl
    rw [ht, joinL_length] at h2
    omega
  have hx12 : x1.data.toList ++ x2.data.toList = x.data.toList := by
    have hs : x.data.toList.length = x.size := rfl
    rw [HX1.out, HX2.out]
    simp only [ByteArray.data_extract, Array.toList_extract, List.extract_eq_take_drop]
    simp
    rw [List.take_of_length_le (l := List.drop n x.data.toList) (by simp [hs])]
    exact List.take_append_drop _ _
  have hx1s : x1.size ≤ 65536 := by rw [HX1.out, ByteArray.size_extract]; omega
  have hx2s : x2.size ≤ 65536 := by rw [HX2.out, ByteArray.size_extract]; omega
  have HT : Hid (∀ W, Below w.heap.size w W → Table 0 W) := fun W hb => hK.keep hb
  have K0 : Hid (∀ W, Below w.heap.size w W → Calls Tryd.prog 8 #[] W fun e w' => e = .returned (.bool true) ∧ Below W.heap.size W w') := fun W hb => sums_true W (HT.out W hb)
  have K3 : Hid (∀ W, Below w.heap.size w W → Calls Tryd.prog 9 #[.slice a len cap] W fun e w' => e = .returned (.agg D1) ∧ Below W.heap.size W w') := fun W hb =>
    of_lies ss (by omega) (by omega) D1 HD1 W a len cap (hT.keep hb) (HT.out W hb)
  have K6 : Hid (∀ W g, Texts W (some ⟨g, 0, none⟩) 1 [t] → Below w.heap.size w W → Calls Tryd.prog 9 #[.slice (some ⟨g, 0, none⟩) 1 1] W fun e w' => e = .returned (.agg D1) ∧ Below W.heap.size W w') := fun W g h hb =>
    of_lies [t] (by show t.size + 0 ≤ 1000000; omega) (by show 1 ≤ _; decide) D1 (by show _ = _; rw [HD1.out, ← ht]; simp [joinL]) W _ 1 1 h (HT.out W hb)
  have K17 : Hid (∀ W g, Texts W (some ⟨g, 0, none⟩) 2 [x1, x2] → Below w.heap.size w W → Calls Tryd.prog 9 #[.slice (some ⟨g, 0, none⟩) 2 2] W fun e w' => e = .returned (.agg D2) ∧ Below W.heap.size W w') := fun W g h hb =>
    of_lies [x1, x2] (by show x1.size + (x2.size + 0) ≤ 1000000; omega) (by show 2 ≤ _; decide) D2 (by show _ = _; rw [HD2.out, ← hx12]; simp [joinL]) W _ 2 2 h (HT.out W hb)
  have K20 : Hid (∀ W g, Texts W (some ⟨g, 0, none⟩) 1 [x] → Below w.heap.size w W → Calls Tryd.prog 9 #[.slice (some ⟨g, 0, none⟩) 1 1] W fun e w' => e = .returned (.agg D2) ∧ Below W.heap.size W w') := fun W g h hb =>
    of_lies [x] (by show x.size + 0 ≤ 1000000; omega) (by show 1 ≤ _; decide) D2 (by show _ = _; rw [HD2.out]; simp [joinL]) W _ 1 1 h (HT.out W hb)
  have K24 : Hid (∀ W, Below w.heap.size w W → Calls Tryd.prog 9 #[.slice none 0 0] W fun e w' => e = .returned (.agg D3) ∧ Below W.heap.size W w') := fun W hb => of_none W (HT.out W hb) D3 HD3
  have K25 : Hid (∀ W, Below w.heap.size w W → Calls Tryd.prog 11 #[] W fun e w' => e = .returned (.agg D3) ∧ Below W.heap.size W w') := fun W hb => empty_any W (HT.out W hb) D3 HD3
  have e1 := eqSelf D1 _ (sumD_length _) HD1
  have e2 := eqSelf D2 _ (sumD_length _) HD2
  have e3 := eqSelf D3 _ (sumD_length _) HD3
  have f1 : ¬ ((65536 : Int) < (x.size : Int)) := by omega
  have f2 : ¬ ((n : Int) < 0) := by omega
  have f3 : ¬ ((x.size : Int) < (n : Int)) := by omega
  have f4 : (n : Int) ≤ (x.size : Int) := by omega
  clear hK hx12 ht htot hT
  go_enter Tryd.func4, Tryd.ntmps4
  go_wp2_with fail
  refine hJ.out.mono ?_
  rintro e _ ⟨rfl, rfl⟩
  go_wp2_with fail
  have hS : Below w.heap.size w w := Below.refl _ _
  refine wp_region_held_drew (S := (fun W => Below w.heap.size w W)) (by kernel_rfl) (keep1 (Below.refl _ _).drew hS) (fun hHeld => ?_)
  refine wpAnyH_ready (rs := [0]) (by kernel_rfl) (by simp) ?_
  refine (AllReadyH.cons (o := { dst := some 31, op := Op.call { callee := Callee.value (Operand.func 8), args := #[], argTypes := #[] }, type := 4, pos := "law.go:50", after := #[], guard := none }) rfl (fun K hK => ?_) AllReadyH.nil)
  go_simp
  refine (K0.out _ hHeld).mono ?_
  rintro e w0 ⟨rfl, hb0⟩
  go_wp2_with fail
  refine hK.out _ _ (keep1 hb0 hHeld) (fun hHeld => ?_)
  clear hK K
  try simp only [Act.put, List.setIfInBounds_toArray, List.set_cons_zero, List.set_cons_succ]
  refine wpAnyH_take (i := 1) (oi := { dst := some 32, op := Op.move (Operand.tmp 31), type := 4, pos := "law.go:50", after := #[{ on := 0, ground := Ground.data }, { on := 0, ground := Ground.chain }], guard := none }) (v := .bool true) rfl (by kernel_rfl) (by kernel_rfl) (by kernel_rfl) (fun _ _ _ h => h) (Or.inl ⟨by rfl, by intro W hSw; go_simp⟩) hHeld ?_
  try simp only [Act.put, List.setIfInBounds_toArray, List.set_cons_zero, List.set_cons_succ]
  refine wpAnyH_take (i := 2) (oi := { dst := some 33, op := Op.move (Operand.tmp 0), type := 22, pos := "law.go:50", after := #[{ on := 1, ground := Ground.guard }], guard := some (1, true) }) (v := .slice a len cap) rfl (by kernel_rfl) (by kernel_rfl) (by kernel_rfl) (fun _ _ _ h => h) (Or.inl ⟨by rfl, by intro W hSw; go_simp⟩) hHeld ?_
  try simp only [Act.put, List.setIfInBounds_toArray, List.set_cons_zero, List.set_cons_succ]
  refine wpAnyH_take (i := 4) (oi := { dst := some 35, op := Op.move (Operand.tmp 7), type := 9, pos := "law.go:50", after := #[{ on := 1, ground := Ground.guard }], guard := some (1, true) }) (v := .string t) rfl (by kernel_rfl) (by kernel_rfl) (by kernel_rfl) (fun _ _ _ h => h) (Or.inl ⟨by rfl, by intro W hSw; go_simp⟩) hHeld ?_
  try simp only [Act.put, List.setIfInBounds_toArray, List.set_cons_zero, List.set_cons_succ]
  refine wpAnyH_ready (rs := [3, 5]) (by kernel_rfl) (by simp) ?_
  refine (AllReadyH.cons (o := { dst := some 34, op := Op.call { callee := Callee.value (Operand.func 9), args := #[Operand.tmp 33], argTypes := #[22] }, type := 27, pos := "law.go:50", after := #[{ on := 2, ground := Ground.data }, { on := 1, ground := Ground.chain }, { on := 1, ground := Ground.guard }], guard := some (1, true) }) rfl (fun K hK => ?_) (AllReadyH.cons (o := { dst := some 36, op := Op.buildSlice 22 1 #[(0, Operand.tmp 35)], type := 22, pos := "law.go:50", after := #[{ on := 4, ground := Ground.data }, { on := 1, ground := Ground.guard }], guard := some (1, true) }) rfl (fun K hK => ?_) AllReadyH.nil))
  · go_simp
    refine (K3.out _ hHeld).mono ?_
    rintro e w3 ⟨rfl, hb3⟩
    try (replace HT5 := hidk (HT5.out.keep hb3))
    go_wp2_with fail
    refine hK.out _ _ (keep1 hb3 hHeld) (fun hHeld => ?_)
    clear hK K
    try simp only [Act.put, List.setIfInBounds_toArray, List.set_cons_zero, List.set_cons_succ]
    refine wpAnyH_ready (rs := [5]) (by kernel_rfl) (by simp) ?_
    refine (AllReadyH.cons (o := { dst := some 36, op := Op.buildSlice 22 1 #[(0, Operand.tmp 35)], type := 22, pos := "law.go:50", after := #[{ on := 4, ground := Ground.data }, { on := 1, ground := Ground.guard }], guard := some (1, true) }) rfl (fun K hK => ?_) AllReadyH.nil)
    have HT5 : Hid (Texts (w3.alloc (.cells #[.string t] 9)) (some ⟨w3.heap.size, 0, none⟩) 1 [t]) := texts_new w3 [t] 9
    go_simp
    refine hK.out _ _ (keep1 ((Below.refl _ _).alloc (Nat.le_refl _) _) hHeld) (fun hHeld => ?_)
    clear hK K
    try simp only [Act.put, List.setIfInBounds_toArray, List.set_cons_zero, List.set_cons_succ]
    refine wpAnyH_ready (rs := [6]) (by kernel_rfl) (by simp) ?_
    refine (AllReadyH.cons (o := { dst := some 37, op := Op.call { callee := Callee.value (Operand.func 9), args := #[Operand.tmp 36], argTypes := #[22] }, type := 27, pos := "law.go:50", after := #[{ on := 5, ground := Ground.data }, { on := 3, ground := Ground.chain }, { on := 1, ground := Ground.guard }], guard := some (1, true) }) rfl (fun K hK => ?_) AllReadyH.nil)
    go_simp
    refine (K6.out _ _ HT5.out hHeld).mono ?_
    rintro e w6 ⟨rfl, hb6⟩
    clear HT5
    go_wp2_with fail
    refine hK.out _ _ (keep1 hb6 hHeld) (fun hHeld => ?_)
    clear hK K
    try simp only [Act.put, List.setIfInBounds_toArray, List.set_cons_zero, List.set_cons_succ]
    refine wpAnyH_take (i := 7) (oi := { dst := some 38, op := Op.binOp BinOp.eql 27 (Operand.tmp 34) (Operand.tmp 37) 27, type := 4, pos := "law.go:50", after := #[{ on := 3, ground := Ground.data }, { on := 6, ground := Ground.data }, { on := 1, ground := Ground.guard }], guard := some (1, true) }) (v := .bool true) rfl (by kernel_rfl) (by kernel_rfl) (by kernel_rfl) (fun _ _ _ h => h) (Or.inl ⟨by rfl, by intro W hSw; go_simp⟩) hHeld ?_
    try simp only [Act.put, List.setIfInBounds_toArray, List.set_cons_zero, List.set_cons_succ]
    refine wpAnyH_take (i := 8) (oi := { dst := some 39, op := Op.pick (Operand.tmp 32) (Operand.tmp 38) (Operand.const (Value.bool false)), type := 4, pos := "law.go:50", after := #[{ on := 1, ground := Ground.data }, { on := 7, ground := Ground.data }], guard := none }) (v := .bool true) rfl (by kernel_rfl) (by kernel_rfl) (by kernel_rfl) (fun _ _ _ h => h) (Or.inl ⟨by rfl, by intro W hSw; go_simp⟩) hHeld ?_
    try simp only [Act.put, List.setIfInBounds_toArray, List.set_cons_zero, List.set_cons_succ]
    refine wpAnyH_take (i := 9) (oi := { dst := some 40, op := Op.move (Operand.tmp 39), type := 4, pos := "law.go:50", after := #[{ on := 8, ground := Ground.data }, { on := 6, ground := Ground.chain }], guard := none }) (v := .bool true) rfl (by kernel_rfl) (by kernel_rfl) (by kernel_rfl) (fun _ _ _ h => h) (Or.inl ⟨by rfl, by intro W hSw; go_simp⟩) hHeld ?_
    try simp only [Act.put, List.setIfInBounds_toArray, List.set_cons_zero, List.set_cons_succ]
    refine wpAnyH_take (i := 10) (oi := { dst := some 41, op := Op.move (Operand.tmp 1), type := 9, pos := "law.go:50", after := #[{ on := 9, ground := Ground.guard }], guard := some (9, true) }) (v := .string x) rfl (by kernel_rfl) (by kernel_rfl) (by kernel_rfl) (fun _ _ _ h => h) (Or.inl ⟨by rfl, by intro W hSw; go_simp⟩) hHeld ?_
    try simp only [Act.put, List.setIfInBounds_toArray, List.set_cons_zero, List.set_cons_succ]
    refine wpAnyH_take (i := 11) (oi := { dst := some 42, op := Op.move (Operand.tmp 2), type := 3, pos := "law.go:50", after := #[{ on := 9, ground := Ground.guard }], guard := some (9, true) }) (v := .int .i64 (n : Int)) rfl (by kernel_rfl) (by kernel_rfl) (by kernel_rfl) (fun _ _ _ h => h) (Or.inl ⟨by rfl, by intro W hSw; go_simp⟩) hHeld ?_
    try simp only [Act.put, List.setIfInBounds_toArray, List.set_cons_zero, List.set_cons_succ]
    refine wpAnyH_take (i := 12) (oi := { dst := some 43, op := Op.slice 9 (Operand.tmp 41) none (some (Operand.tmp 42)) none, type := 9, pos := "law.go:50", after := #[{ on := 10, ground := Ground.data }, { on := 11, ground := Ground.data }, { on := 9, ground := Ground.guard }], guard := some (9, true) }) (v := .string x1) rfl (by kernel_rfl) (by kernel_rfl) (by kernel_rfl) (fun _ _ _ h => h) (Or.inl ⟨by rfl, by intro W hSw; go_simp; exact HX1.out.symm⟩) hHeld ?_
    try simp only [Act.put, List.setIfInBounds_toArray, List.set_cons_zero, List.set_cons_succ]
    refine wpAnyH_take (i := 13) (oi := { dst := some 44, op := Op.move (Operand.tmp 1), type := 9, pos := "law.go:50", after := #[{ on := 9, ground := Ground.guard }], guard := some (9, true) }) (v := .string x) rfl (by kernel_rfl) (by kernel_rfl) (by kernel_rfl) (fun _ _ _ h => h) (Or.inl ⟨by rfl, by intro W hSw; go_simp⟩) hHeld ?_
    try simp only [Act.put, List.setIfInBounds_toArray, List.set_cons_zero, List.set_cons_succ]
    refine wpAnyH_take (i := 14) (oi := { dst := some 45, op := Op.move (Operand.tmp 2), type := 3, pos := "law.go:50", after := #[{ on := 9, ground := Ground.guard }], guard := some (9, true) }) (v := .int .i64 (n : Int)) rfl (by kernel_rfl) (by kernel_rfl) (by kernel_rfl) (fun _ _ _ h => h) (Or.inl ⟨by rfl, by intro W hSw; go_simp⟩) hHeld ?_
    try simp only [Act.put, List.setIfInBounds_toArray, List.set_cons_zero, List.set_cons_succ]
    refine wpAnyH_take (i := 15) (oi := { dst := some 46, op := Op.slice 9 (Operand.tmp 44) (some (Operand.tmp 45)) none none, type := 9, pos := "law.go:50", after := #[{ on := 13, ground := Ground.data }, { on := 14, ground := Ground.data }, { on := 9, ground := Ground.guard }], guard := some (9, true) }) (v := .string x2) rfl (by kernel_rfl) (by kernel_rfl) (by kernel_rfl) (fun _ _ _ h => h) (Or.inl ⟨by rfl, by intro W hSw; go_simp; exact HX2.out.symm⟩) hHeld ?_
    try simp only [Act.put, List.setIfInBounds_toArray, List.set_cons_zero, List.set_cons_succ]
    refine wpAnyH_take (i := 18) (oi := { dst := some 49, op := Op.move (Operand.tmp 1), type := 9, pos := "law.go:50", after := #[{ on := 9, ground := Ground.guard }], guard := some (9, true) }) (v := .string x) rfl (by kernel_rfl) (by kernel_rfl) (by kernel_rfl) (fun _ _ _ h => h) (Or.inl ⟨by rfl, by intro W hSw; go_simp⟩) hHeld ?_
    try simp only [Act.put, List.setIfInBounds_toArray, List.set_cons_zero, List.set_cons_succ]
    refine wpAnyH_ready (rs := [16, 19]) (by kernel_rfl) (by simp) ?_
    refine (AllReadyH.cons (o := { dst := some 47, op := Op.buildSlice 22 2 #[(0, Operand.tmp 43), (1, Operand.tmp 46)], type := 22, pos := "law.go:50", after := #[{ on := 12, ground := Ground.data }, { on := 15, ground := Ground.data }, { on := 9, ground := Ground.guard }], guard := some (9, true) }) rfl (fun K hK => ?_) (AllReadyH.cons (o := { dst := some 50, op := Op.buildSlice 22 1 #[(0, Operand.tmp 49)], type := 22, pos := "law.go:50", after := #[{ on := 18, ground := Ground.data }, { on := 9, ground := Ground.guard }], guard := some (9, true) }) rfl (fun K hK => ?_) AllReadyH.nil))
    · have HT16 : Hid (Texts (w6.alloc (.cells #[.string x1, .string x2] 9)) (some ⟨w6.heap.size, 0, none⟩) 2 [x1, x2]) := texts_new w6 [x1, x2] 9
      try (replace HT19 := hidk (HT19.out.keep ((Below.refl _ _).alloc (Nat.le_refl _) (.cells #[.string x1, .string x2] 9))))
      go_simp
      refine hK.out _ _ (keep1 ((Below.refl _ _).alloc (Nat.le_refl _) _) hHeld) (fun hHeld => ?_)
      clear hK K
      try simp only [Act.put, List.setIfInBounds_toArray, List.set_cons_zero, List.set_cons_succ]
      refine wpAnyH_ready (rs := [17, 19]) (by kernel_rfl) (by simp) ?_
      refine (AllReadyH.cons (o := { dst := some 48, op := Op.call { callee := Callee.value (Operand.func 9), args := #[Operand.tmp 47], argTypes := #[22] }, type := 27, pos := "law.go:50", after := #[{ on := 16, ground := Ground.data }, { on := 9, ground := Ground.chain }, { on := 9, ground := Ground.guard }], guard := some (9, true) }) rfl (fun K hK => ?_) (AllReadyH.cons (o := { dst := some 50, op := Op.buildSlice 22 1 #[(0, Operand.tmp 49)], type := 22, pos := "law.go:50", after := #[{ on := 18, ground := Ground.data }, { on := 9, ground := Ground.guard }], guard := some (9, true) }) rfl (fun K hK => ?_) AllReadyH.nil))
      · go_simp
        try simp only [World.size_alloc] at HT16
        refine (K17.out _ _ HT16.out hHeld).mono ?_
        rintro e w17 ⟨rfl, hb17⟩
        clear HT16
        try (replace HT19 := hidk (HT19.out.keep hb17))
        go_wp2_with fail
        refine hK.out _ _ (keep1 hb17 hHeld) (fun hHeld => ?_)
        clear hK K
        try simp only [Act.put, List.setIfInBounds_toArray, List.set_cons_zero, List.set_cons_succ]
        refine wpAnyH_ready (rs := [19]) (by kernel_rfl) (by simp) ?_
        refine (AllReadyH.cons (o := { dst := some 50, op := Op.buildSlice 22 1 #[(0, Operand.tmp 49)], type := 22, pos := "law.go:50", after := #[{ on := 18, ground := Ground.data }, { on := 9, ground := Ground.guard }], guard := some (9, true) }) rfl (fun K hK => ?_) AllReadyH.nil)
        have HT19 : Hid (Texts (w17.alloc (.cells #[.string x] 9)) (some ⟨w17.heap.size, 0, none⟩) 1 [x]) := texts_new w17 [x] 9
        try (replace HT16 := hidk (HT16.out.keep ((Below.refl _ _).alloc (Nat.le_refl _) (.cells #[.string x] 9))))
        go_simp
        refine hK.out _ _ (keep1 ((Below.refl _ _).alloc (Nat.le_refl _) _) hHeld) (fun hHeld => ?_)
        clear hK K
        try simp only [Act.put, List.setIfInBounds_toArray, List.set_cons_zero, List.set_cons_succ]
        refine wpAnyH_ready (rs := [20]) (by kernel_rfl) (by simp) ?_
        refine (AllReadyH.cons (o := { dst := some 51, op := Op.call { callee := Callee.value (Operand.func 9), args := #[Operand.tmp 50], argTypes := #[22] }, type := 27, pos := "law.go:50", after := #[{ on := 19, ground := Ground.data }, { on := 17, ground := Ground.chain }, { on := 9, ground := Ground.guard }], guard := some (9, true) }) rfl (fun K hK => ?_) AllReadyH.nil)
        go_simp
        try simp only [World.size_alloc] at HT19
        refine (K20.out _ _ HT19.out hHeld).mono ?_
        rintro e w20 ⟨rfl, hb20⟩
        clear HT19
        go_wp2_with fail
        refine hK.out _ _ (keep1 hb20 hHeld) (fun hHeld => ?_)
        clear hK K
        try simp only [Act.put, List.setIfInBounds_toArray, List.set_cons_zero, List.set_cons_succ]
        refine wpAnyH_take (i := 21) (oi := { dst := some 52, op := Op.binOp BinOp.eql 27 (Operand.tmp 48) (Operand.tmp 51) 27, type := 4, pos := "law.go:50", after := #[{ on := 17, ground := Ground.data }, { on := 20, ground := Ground.data }, { on := 9, ground := Ground.guard }], guard := some (9, true) }) (v := .bool true) rfl (by kernel_rfl) (by kernel_rfl) (by kernel_rfl) (fun _ _ _ h => h) (Or.inl ⟨by rfl, by intro W hSw; go_simp⟩) hHeld ?_
        try simp only [Act.put, List.setIfInBounds_toArray, List.set_cons_zero, List.set_cons_succ]
        refine wpAnyH_take (i := 22) (oi := { dst := some 53, op := Op.pick (Operand.tmp 40) (Operand.tmp 52) (Operand.const (Value.bool false)), type := 4, pos := "law.go:50", after := #[{ on := 9, ground := Ground.data }, { on := 21, ground := Ground.data }], guard := none }) (v := .bool true) rfl (by kernel_rfl) (by kernel_rfl) (by kernel_rfl) (fun _ _ _ h => h) (Or.inl ⟨by rfl, by intro W hSw; go_simp⟩) hHeld ?_
        try simp only [Act.put, List.setIfInBounds_toArray, List.set_cons_zero, List.set_cons_succ]
        refine wpAnyH_take (i := 23) (oi := { dst := some 54, op := Op.move (Operand.tmp 53), type := 4, pos := "law.go:50", after := #[{ on := 22, ground := Ground.data }, { on := 20, ground := Ground.chain }], guard := none }) (v := .bool true) rfl (by kernel_rfl) (by kernel_rfl) (by kernel_rfl) (fun _ _ _ h => h) (Or.inl ⟨by rfl, by intro W hSw; go_simp⟩) hHeld ?_
        try simp only [Act.put, List.setIfInBounds_toArray, List.set_cons_zero, List.set_cons_succ]
        refine wpAnyH_ready (rs := [24]) (by kernel_rfl) (by simp) ?_
        refine (AllReadyH.cons (o := { dst := some 55, op := Op.call { callee := Callee.value (Operand.func 9), args := #[Operand.const (Value.slice none 0 0)], argTypes := #[22] }, type := 27, pos := "law.go:50", after := #[{ on := 23, ground := Ground.chain }, { on := 23, ground := Ground.guard }], guard := some (23, true) }) rfl (fun K hK => ?_) AllReadyH.nil)
        go_simp
        refine (K24.out _ hHeld).mono ?_
        rintro e w24 ⟨rfl, hb24⟩
        go_wp2_with fail
        refine hK.out _ _ (keep1 hb24 hHeld) (fun hHeld => ?_)
        clear hK K
        try simp only [Act.put, List.setIfInBounds_toArray, List.set_cons_zero, List.set_cons_succ]
        refine wpAnyH_ready (rs := [25]) (by kernel_rfl) (by simp) ?_
        refine (AllReadyH.cons (o := { dst := some 56, op := Op.call { callee := Callee.value (Operand.func 11), args := #[], argTypes := #[] }, type := 27, pos := "law.go:50", after := #[{ on := 24, ground := Ground.chain }, { on := 23, ground := Ground.guard }], guard := some (23, true) }) rfl (fun K hK => ?_) AllReadyH.nil)
        go_simp
        refine (K25.out _ hHeld).mono ?_
        rintro e w25 ⟨rfl, hb25⟩
        go_wp2_with fail
        refine hK.out _ _ (keep1 hb25 hHeld) (fun hHeld => ?_)
        clear hK K
        try simp only [Act.put, List.setIfInBounds_toArray, List.set_cons_zero, List.set_cons_succ]
        refine wpAnyH_take (i := 26) (oi := { dst := some 57, op := Op.binOp BinOp.eql 27 (Operand.tmp 55) (Operand.tmp 56) 27, type := 4, pos := "law.go:50", after := #[{ on := 24, ground := Ground.data }, { on := 25, ground := Ground.data }, { on := 23, ground := Ground.guard }], guard := some (23, true) }) (v := .bool true) rfl (by kernel_rfl) (by kernel_rfl) (by kernel_rfl) (fun _ _ _ h => h) (Or.inl ⟨by rfl, by intro W hSw; go_simp⟩) hHeld ?_
        try simp only [Act.put, List.setIfInBounds_toArray, List.set_cons_zero, List.set_cons_succ]
        refine wpAnyH_take (i := 27) (oi := { dst := some 58, op := Op.pick (Operand.tmp 54) (Operand.tmp 57) (Operand.const (Value.bool false)), type := 4, pos := "law.go:50", after := #[{ on := 23, ground := Ground.data }, { on := 26, ground := Ground.data }], guard := none }) (v := .bool true) rfl (by kernel_rfl) (by kernel_rfl) (by kernel_rfl) (fun _ _ _ h => h) (Or.inl ⟨by rfl, by intro W hSw; go_simp⟩) hHeld ?_
        try simp only [Act.put, List.setIfInBounds_toArray, List.set_cons_zero, List.set_cons_succ]
        refine wpAnyH_take (i := 28) (oi := { dst := some 6, op := Op.assign (Operand.tmp 58), type := 4, pos := "law.go:50", after := #[{ on := 27, ground := Ground.data }, { on := 25, ground := Ground.chain }, { on := 0, ground := Ground.phase }, { on := 1, ground := Ground.phase }, { on := 2, ground := Ground.phase }, { on := 3, ground := Ground.phase }, { on := 4, ground := Ground.phase }, { on := 5, ground := Ground.phase }, { on := 6, ground := Ground.phase }, { on := 7, ground := Ground.phase }, { on := 8, ground := Ground.phase }, { on := 9, ground := Ground.phase }, { on := 10, ground := Ground.phase }, { on := 11, ground := Ground.phase }, { on := 12, ground := Ground.phase }, { on := 13, ground := Ground.phase }, { on := 14, ground := Ground.phase }, { on := 15, ground := Ground.phase }, { on := 16, ground := Ground.phase }, { on := 17, ground := Ground.phase }, { on := 18, ground := Ground.phase }, { on := 19, ground := Ground.phase }, { on := 20, ground := Ground.phase }, { on := 21, ground := Ground.phase }, { on := 22, ground := Ground.phase }, { on := 23, ground := Ground.phase }, { on := 24, ground := Ground.phase }, { on := 25, ground := Ground.phase }, { on := 26, ground := Ground.phase }, { on := 27, ground := Ground.phase }], guard := none }) (v := .bool true) rfl (by kernel_rfl) (by kernel_rfl) (by kernel_rfl) (fun _ _ _ h => h) (Or.inl ⟨by rfl, by intro W hSw; go_simp⟩) hHeld ?_
        try simp only [Act.put, List.setIfInBounds_toArray, List.set_cons_zero, List.set_cons_succ]
        refine wpAnyH_done (by kernel_rfl) ?_ _
        go_wp2
        go_ret
        exact ⟨rfl, hHeld⟩
      · have HT19 : Hid (Texts ((w6.alloc (.cells #[.string x1, .string x2] 9)).alloc (.cells #[.string x] 9)) (some ⟨(w6.alloc (.cells #[.string x1, .string x2] 9)).heap.size, 0, none⟩) 1 [x]) := texts_new (w6.alloc (.cells #[.string x1, .string x2] 9)) [x] 9
        try (replace HT16 := hidk (HT16.out.keep ((Below.refl _ _).alloc (Nat.le_refl _) (.cells #[.string x] 9))))
        go_simp
        refine hK.out _ _ (keep1 ((Below.refl _ _).alloc (Nat.le_refl _) _) hHeld) (fun hHeld => ?_)
        clear hK K
        try simp only [Act.put, List.setIfInBounds_toArray, List.set_cons_zero, List.set_cons_succ]
        refine wpAnyH_ready (rs := [17]) (by kernel_rfl) (by simp) ?_
        refine (AllReadyH.cons (o := { dst := some 48, op := Op.call { callee := Callee.value (Operand.func 9), args := #[Operand.tmp 47], argTypes := #[22] }, type := 27, pos := "law.go:50", after := #[{ on := 16, ground := Ground.data }, { on := 9, ground := Ground.chain }, { on := 9, ground := Ground.guard }], guard := some (9, true) }) rfl (fun K hK => ?_) AllReadyH.nil)
        go_simp
        try simp only [World.size_alloc] at HT16
        refine (K17.out _ _ HT16.out hHeld).mono ?_
        rintro e w17 ⟨rfl, hb17⟩
        clear HT16
        try (replace HT19 := hidk (HT19.out.keep hb17))
        go_wp2_with fail
        refine hK.out _ _ (keep1 hb17 hHeld) (fun hHeld => ?_)
        clear hK K
        try simp only [Act.put, List.setIfInBounds_toArray, List.set_cons_zero, List.set_cons_succ]
        refine wpAnyH_ready (rs := [20]) (by kernel_rfl) (by simp) ?_
        refine (AllReadyH.cons (o := { dst := some 51, op := Op.call { callee := Callee.value (Operand.func 9), args := #[Operand.tmp 50], argTypes := #[22] }, type := 27, pos := "law.go:50", after := #[{ on := 19, ground := Ground.data }, { on := 17, ground := Ground.chain }, { on := 9, ground := Ground.guard }], guard := some (9, true) }) rfl (fun K hK => ?_) AllReadyH.nil)
        go_simp
        try simp only [World.size_alloc] at HT19
        refine (K20.out _ _ HT19.out hHeld).mono ?_
        rintro e w20 ⟨rfl, hb20⟩
        clear HT19
        go_wp2_with fail
        refine hK.out _ _ (keep1 hb20 hHeld) (fun hHeld => ?_)
        clear hK K
        try simp only [Act.put, List.setIfInBounds_toArray, List.set_cons_zero, List.set_cons_succ]
        refine wpAnyH_take (i := 21) (oi := { dst := some 52, op := Op.binOp BinOp.eql 27 (Operand.tmp 48) (Operand.tmp 51) 27, type := 4, pos := "law.go:50", after := #[{ on := 17, ground := Ground.data }, { on := 20, ground := Ground.data }, { on := 9, ground := Ground.guard }], guard := some (9, true) }) (v := .bool true) rfl (by kernel_rfl) (by kernel_rfl) (by kernel_rfl) (fun _ _ _ h => h) (Or.inl ⟨by rfl, by intro W hSw; go_simp⟩) hHeld ?_
        try simp only [Act.put, List.setIfInBounds_toArray, List.set_cons_zero, List.set_cons_succ]
        refine wpAnyH_take (i := 22) (oi := { dst := some 53, op := Op.pick (Operand.tmp 40) (Operand.tmp 52) (Operand.const (Value.bool false)), type := 4, pos := "law.go:50", after := #[{ on := 9, ground := Ground.data }, { on := 21, ground := Ground.data }], guard := none }) (v := .bool true) rfl (by kernel_rfl) (by kernel_rfl) (by kernel_rfl) (fun _ _ _ h => h) (Or.inl ⟨by rfl, by intro W hSw; go_simp⟩) hHeld ?_
        try simp only [Act.put, List.setIfInBounds_toArray, List.set_cons_zero, List.set_cons_succ]
        refine wpAnyH_take (i := 23) (oi := { dst := some 54, op := Op.move (Operand.tmp 53), type := 4, pos := "law.go:50", after := #[{ on := 22, ground := Ground.data }, { on := 20, ground := Ground.chain }], guard := none }) (v := .bool true) rfl (by kernel_rfl) (by kernel_rfl) (by kernel_rfl) (fun _ _ _ h => h) (Or.inl ⟨by rfl, by intro W hSw; go_simp⟩) hHeld ?_
        try simp only [Act.put, List.setIfInBounds_toArray, List.set_cons_zero, List.set_cons_succ]
        refine wpAnyH_ready (rs := [24]) (by kernel_rfl) (by simp) ?_
        refine (AllReadyH.cons (o := { dst := some 55, op := Op.call { callee := Callee.value (Operand.func 9), args := #[Operand.const (Value.slice none 0 0)], argTypes := #[22] }, type := 27, pos := "law.go:50", after := #[{ on := 23, ground := Ground.chain }, { on := 23, ground := Ground.guard }], guard := some (23, true) }) rfl (fun K hK => ?_) AllReadyH.nil)
        go_simp
        refine (K24.out _ hHeld).mono ?_
        rintro e w24 ⟨rfl, hb24⟩
        go_wp2_with fail
        refine hK.out _ _ (keep1 hb24 hHeld) (fun hHeld => ?_)
        clear hK K
        try simp only [Act.put, List.setIfInBounds_toArray, List.set_cons_zero, List.set_cons_succ]
        refine wpAnyH_ready (rs := [25]) (by kernel_rfl) (by simp) ?_
        refine (AllReadyH.cons (o := { dst := some 56, op := Op.call { callee := Callee.value (Operand.func 11), args := #[], argTypes := #[] }, type := 27, pos := "law.go:50", after := #[{ on := 24, ground := Ground.chain }, { on := 23, ground := Ground.guard }], guard := some (23, true) }) rfl (fun K hK => ?_) AllReadyH.nil)
        go_simp
        refine (K25.out _ hHeld).mono ?_
        rintro e w25 ⟨rfl, hb25⟩
        go_wp2_with fail
        refine hK.out _ _ (keep1 hb25 hHeld) (fun hHeld => ?_)
        clear hK K
        try simp only [Act.put, List.setIfInBounds_toArray, List.set_cons_zero, List.set_cons_succ]
        refine wpAnyH_take (i := 26) (oi := { dst := some 57, op := Op.binOp BinOp.eql 27 (Operand.tmp 55) (Operand.tmp 56) 27, type := 4, pos := "law.go:50", after := #[{ on := 24, ground := Ground.data }, { on := 25, ground := Ground.data }, { on := 23, ground := Ground.guard }], guard := some (23, true) }) (v := .bool true) rfl (by kernel_rfl) (by kernel_rfl) (by kernel_rfl) (fun _ _ _ h => h) (Or.inl ⟨by rfl, by intro W hSw; go_simp⟩) hHeld ?_
        try simp only [Act.put, List.setIfInBounds_toArray, List.set_cons_zero, List.set_cons_succ]
        refine wpAnyH_take (i := 27) (oi := { dst := some 58, op := Op.pick (Operand.tmp 54) (Operand.tmp 57) (Operand.const (Value.bool false)), type := 4, pos := "law.go:50", after := #[{ on := 23, ground := Ground.data }, { on := 26, ground := Ground.data }], guard := none }) (v := .bool true) rfl (by kernel_rfl) (by kernel_rfl) (by kernel_rfl) (fun _ _ _ h => h) (Or.inl ⟨by rfl, by intro W hSw; go_simp⟩) hHeld ?_
        try simp only [Act.put, List.setIfInBounds_toArray, List.set_cons_zero, List.set_cons_succ]
        refine wpAnyH_take (i := 28) (oi := { dst := some 6, op := Op.assign (Operand.tmp 58), type := 4, pos := "law.go:50", after := #[{ on := 27, ground := Ground.data }, { on := 25, ground := Ground.chain }, { on := 0, ground := Ground.phase }, { on := 1, ground := Ground.phase }, { on := 2, ground := Ground.phase }, { on := 3, ground := Ground.phase }, { on := 4, ground := Ground.phase }, { on := 5, ground := Ground.phase }, { on := 6, ground := Ground.phase }, { on := 7, ground := Ground.phase }, { on := 8, ground := Ground.phase }, { on := 9, ground := Ground.phase }, { on := 10, ground := Ground.phase }, { on := 11, ground := Ground.phase }, { on := 12, ground := Ground.phase }, { on := 13, ground := Ground.phase }, { on := 14, ground := Ground.phase }, { on := 15, ground := Ground.phase }, { on := 16, ground := Ground.phase }, { on := 17, ground := Ground.phase }, { on := 18, ground := Ground.phase }, { on := 19, ground := Ground.phase }, { on := 20, ground := Ground.phase }, { on := 21, ground := Ground.phase }, { on := 22, ground := Ground.phase }, { on := 23, ground := Ground.phase }, { on := 24, ground := Ground.phase }, { on := 25, ground := Ground.phase }, { on := 26, ground := Ground.phase }, { on := 27, ground := Ground.phase }], guard := none }) (v := .bool true) rfl (by kernel_rfl) (by kernel_rfl) (by kernel_rfl) (fun _ _ _ h => h) (Or.inl ⟨by rfl, by intro W hSw; go_simp⟩) hHeld ?_
        try simp only [Act.put, List.setIfInBounds_toArray, List.set_cons_zero, List.set_cons_succ]
        refine wpAnyH_done (by kernel_rfl) ?_ _
        go_wp2
        go_ret
        exact ⟨rfl, hHeld⟩
    · have HT19 : Hid (Texts (w6.alloc (.cells #[.string x] 9)) (some ⟨w6.heap.size, 0, none⟩) 1 [x]) := texts_new w6 [x] 9
      try (replace HT16 := hidk (HT16.out.keep ((Below.refl _ _).alloc (Nat.le_refl _) (.cells #[.string x] 9))))
      go_simp
      refine hK.out _ _ (keep1 ((Below.refl _ _).alloc (Nat.le_refl _) _) hHeld) (fun hHeld => ?_)
      clear hK K
      try simp only [Act.put, List.setIfInBounds_toArray, List.set_cons_zero, List.set_cons_succ]
      refine wpAnyH_ready (rs := [16]) (by kernel_rfl) (by simp) ?_
      refine (AllReadyH.cons (o := { dst := some 47, op := Op.buildSlice 22 2 #[(0, Operand.tmp 43), (1, Operand.tmp 46)], type := 22, pos := "law.go:50", after := #[{ on := 12, ground := Ground.data }, { on := 15, ground := Ground.data }, { on := 9, ground := Ground.guard }], guard := some (9, true) }) rfl (fun K hK => ?_) AllReadyH.nil)
      have HT16 : Hid (Texts ((w6.alloc (.cells #[.string x] 9)).alloc (.cells #[.string x1, .string x2] 9)) (some ⟨(w6.alloc (.cells #[.string x] 9)).heap.size, 0, none⟩) 2 [x1, x2]) := texts_new (w6.alloc (.cells #[.string x] 9)) [x1, x2] 9
      try (replace HT19 := hidk (HT19.out.keep ((Below.refl _ _).alloc (Nat.le_refl _) (.cells #[.string x1, .string x2] 9))))
      go_simp
      refine hK.out _ _ (keep1 ((Below.refl _ _).alloc (Nat.le_refl _) _) hHeld) (fun hHeld => ?_)
      clear hK K
      try simp only [Act.put, List.setIfInBounds_toArray, List.set_cons_zero, List.set_cons_succ]
      refine wpAnyH_ready (rs := [17]) (by kernel_rfl) (by simp) ?_
      refine (AllReadyH.cons (o := { dst := some 48, op := Op.call { callee := Callee.value (Operand.func 9), args := #[Operand.tmp 47], argTypes := #[22] }, type := 27, pos := "law.go:50", after := #[{ on := 16, ground := Ground.data }, { on := 9, ground := Ground.chain }, { on := 9, ground := Ground.guard }], guard := some (9, true) }) rfl (fun K hK => ?_) AllReadyH.nil)
      go_simp
      try simp only [World.size_alloc] at HT16
      refine (K17.out _ _ HT16.out hHeld).mono ?_
      rintro e w17 ⟨rfl, hb17⟩
      clear HT16
      try (replace HT19 := hidk (HT19.out.keep hb17))
      go_wp2_with fail
      refine hK.out _ _ (keep1 hb17 hHeld) (fun hHeld => ?_)
      clear hK K
      try simp only [Act.put, List.setIfInBounds_toArray, List.set_cons_zero, List.set_cons_succ]
      refine wpAnyH_ready (rs := [20]) (by kernel_rfl) (by simp) ?_
      refine (AllReadyH.cons (o := { dst := some 51, op := Op.call { callee := Callee.value (Operand.func 9), args := #[Operand.tmp 50], argTypes := #[22] }, type := 27, pos := "law.go:50", after := #[{ on := 19, ground := Ground.data }, { on := 17, ground := Ground.chain }, { on := 9, ground := Ground.guard }], guard := some (9, true) }) rfl (fun K hK => ?_) AllReadyH.nil)
      go_simp
      try simp only [World.size_alloc] at HT19
      refine (K20.out _ _ HT19.out hHeld).mono ?_
      rintro e w20 ⟨rfl, hb20⟩
      clear HT19
      go_wp2_with fail
      refine hK.out _ _ (keep1 hb20 hHeld) (fun hHeld => ?_)
      clear hK K
      try simp only [Act.put, List.setIfInBounds_toArray, List.set_cons_zero, List.set_cons_succ]
      refine wpAnyH_take (i := 21) (oi := { dst := some 52, op := Op.binOp BinOp.eql 27 (Operand.tmp 48) (Operand.tmp 51) 27, type := 4, pos := "law.go:50", after := #[{ on := 17, ground := Ground.data }, { on := 20, ground := Ground.data }, { on := 9, ground := Ground.guard }], guard := some (9, true) }) (v := .bool true) rfl (by kernel_rfl) (by kernel_rfl) (by kernel_rfl) (fun _ _ _ h => h) (Or.inl ⟨by rfl, by intro W hSw; go_simp⟩) hHeld ?_
      try simp only [Act.put, List.setIfInBounds_toArray, List.set_cons_zero, List.set_cons_succ]
      refine wpAnyH_take (i := 22) (oi := { dst := some 53, op := Op.pick (Operand.tmp 40) (Operand.tmp 52) (Operand.const (Value.bool false)), type := 4, pos := "law.go:50", after := #[{ on := 9, ground := Ground.data }, { on := 21, ground := Ground.data }], guard := none }) (v := .bool true) rfl (by kernel_rfl) (by kernel_rfl) (by kernel_rfl) (fun _ _ _ h => h) (Or.inl ⟨by rfl, by intro W hSw; go_simp⟩) hHeld ?_
      try simp only [Act.put, List.setIfInBounds_toArray, List.set_cons_zero, List.set_cons_succ]
      refine wpAnyH_take (i := 23) (oi := { dst := some 54, op := Op.move (Operand.tmp 53), type := 4, pos := "law.go:50", after := #[{ on := 22, ground := Ground.data }, { on := 20, ground := Ground.chain }], guard := none }) (v := .bool true) rfl (by kernel_rfl) (by kernel_rfl) (by kernel_rfl) (fun _ _ _ h => h) (Or.inl ⟨by rfl, by intro W hSw; go_simp⟩) hHeld ?_
      try simp only [Act.put, List.setIfInBounds_toArray, List.set_cons_zero, List.set_cons_succ]
      refine wpAnyH_ready (rs := [24]) (by kernel_rfl) (by simp) ?_
      refine (AllReadyH.cons (o := { dst := some 55, op := Op.call { callee := Callee.value (Operand.func 9), args := #[Operand.const (Value.slice none 0 0)], argTypes := #[22] }, type := 27, pos := "law.go:50", after := #[{ on := 23, ground := Ground.chain }, { on := 23, ground := Ground.guard }], guard := some (23, true) }) rfl (fun K hK => ?_) AllReadyH.nil)
      go_simp
      refine (K24.out _ hHeld).mono ?_
      rintro e w24 ⟨rfl, hb24⟩
      go_wp2_with fail
      refine hK.out _ _ (keep1 hb24 hHeld) (fun hHeld => ?_)
      clear hK K
      try simp only [Act.put, List.setIfInBounds_toArray, List.set_cons_zero, List.set_cons_succ]
      refine wpAnyH_ready (rs := [25]) (by kernel_rfl) (by simp) ?_
      refine (AllReadyH.cons (o := { dst := some 56, op := Op.call { callee := Callee.value (Operand.func 11), args := #[], argTypes := #[] }, type := 27, pos := "law.go:50", after := #[{ on := 24, ground := Ground.chain }, { on := 23, ground := Ground.guard }], guard := some (23, true) }) rfl (fun K hK => ?_) AllReadyH.nil)
      go_simp
      refine (K25.out _ hHeld).mono ?_
      rintro e w25 ⟨rfl, hb25⟩
      go_wp2_with fail
      refine hK.out _ _ (keep1 hb25 hHeld) (fun hHeld => ?_)
      clear hK K
      try simp only [Act.put, List.setIfInBounds_toArray, List.set_cons_zero, List.set_cons_succ]
      refine wpAnyH_take (i := 26) (oi := { dst := some 57, op := Op.binOp BinOp.eql 27 (Operand.tmp 55) (Operand.tmp 56) 27, type := 4, pos := "law.go:50", after := #[{ on := 24, ground := Ground.data }, { on := 25, ground := Ground.data }, { on := 23, ground := Ground.guard }], guard := some (23, true) }) (v := .bool true) rfl (by kernel_rfl) (by kernel_rfl) (by kernel_rfl) (fun _ _ _ h => h) (Or.inl ⟨by rfl, by intro W hSw; go_simp⟩) hHeld ?_
      try simp only [Act.put, List.setIfInBounds_toArray, List.set_cons_zero, List.set_cons_succ]
      refine wpAnyH_take (i := 27) (oi := { dst := some 58, op := Op.pick (Operand.tmp 54) (Operand.tmp 57) (Operand.const (Value.bool false)), type := 4, pos := "law.go:50", after := #[{ on := 23, ground := Ground.data }, { on := 26, ground := Ground.data }], guard := none }) (v := .bool true) rfl (by kernel_rfl) (by kernel_rfl) (by kernel_rfl) (fun _ _ _ h => h) (Or.inl ⟨by rfl, by intro W hSw; go_simp⟩) hHeld ?_
      try simp only [Act.put, List.setIfInBounds_toArray, List.set_cons_zero, List.set_cons_succ]
      refine wpAnyH_take (i := 28) (oi := { dst := some 6, op := Op.assign (Operand.tmp 58), type := 4, pos := "law.go:50", after := #[{ on := 27, ground := Ground.data }, { on := 25, ground := Ground.chain }, { on := 0, ground := Ground.phase }, { on := 1, ground := Ground.phase }, { on := 2, ground := Ground.phase }, { on := 3, ground := Ground.phase }, { on := 4, ground := Ground.phase }, { on := 5, ground := Ground.phase }, { on := 6, ground := Ground.phase }, { on := 7, ground := Ground.phase }, { on := 8, ground := Ground.phase }, { on := 9, ground := Ground.phase }, { on := 10, ground := Ground.phase }, { on := 11, ground := Ground.phase }, { on := 12, ground := Ground.phase }, { on := 13, ground := Ground.phase }, { on := 14, ground := Ground.phase }, { on := 15, ground := Ground.phase }, { on := 16, ground := Ground.phase }, { on := 17, ground := Ground.phase }, { on := 18, ground := Ground.phase }, { on := 19, ground := Ground.phase }, { on := 20, ground := Ground.phase }, { on := 21, ground := Ground.phase }, { on := 22, ground := Ground.phase }, { on := 23, ground := Ground.phase }, { on := 24, ground := Ground.phase }, { on := 25, ground := Ground.phase }, { on := 26, ground := Ground.phase }, { on := 27, ground := Ground.phase }], guard := none }) (v := .bool true) rfl (by kernel_rfl) (by kernel_rfl) (by kernel_rfl) (fun _ _ _ h => h) (Or.inl ⟨by rfl, by intro W hSw; go_simp⟩) hHeld ?_
      try simp only [Act.put, List.setIfInBounds_toArray, List.set_cons_zero, List.set_cons_succ]
      refine wpAnyH_done (by kernel_rfl) ?_ _
      go_wp2
      go_ret
      exact ⟨rfl, hHeld⟩
  · have HT5 : Hid (Texts (w0.alloc (.cells #[.string t] 9)) (some ⟨w0.heap.size, 0, none⟩) 1 [t]) := texts_new w0 [t] 9
    go_simp
    refine hK.out _ _ (keep1 ((Below.refl _ _).alloc (Nat.le_refl _) _) hHeld) (fun hHeld => ?_)
    clear hK K
    try simp only [Act.put, List.setIfInBounds_toArray, List.set_cons_zero, List.set_cons_succ]
    refine wpAnyH_ready (rs := [3]) (by kernel_rfl) (by simp) ?_
    refine (AllReadyH.cons (o := { dst := some 34, op := Op.call { callee := Callee.value (Operand.func 9), args := #[Operand.tmp 33], argTypes := #[22] }, type := 27, pos := "law.go:50", after := #[{ on := 2, ground := Ground.data }, { on := 1, ground := Ground.chain }, { on := 1, ground := Ground.guard }], guard := some (1, true) }) rfl (fun K hK => ?_) AllReadyH.nil)
    go_simp
    refine (K3.out _ hHeld).mono ?_
    rintro e w3 ⟨rfl, hb3⟩
    try (replace HT5 := hidk (HT5.out.keep hb3))
    go_wp2_with fail
    refine hK.out _ _ (keep1 hb3 hHeld) (fun hHeld => ?_)
    clear hK K
    try simp only [Act.put, List.setIfInBounds_toArray, List.set_cons_zero, List.set_cons_succ]
    refine wpAnyH_ready (rs := [6]) (by kernel_rfl) (by simp) ?_
    refine (AllReadyH.cons (o := { dst := some 37, op := Op.call { callee := Callee.value (Operand.func 9), args := #[Operand.tmp 36], argTypes := #[22] }, type := 27, pos := "law.go:50", after := #[{ on := 5, ground := Ground.data }, { on := 3, ground := Ground.chain }, { on := 1, ground := Ground.guard }], guard := some (1, true) }) rfl (fun K hK => ?_) AllReadyH.nil)
    go_simp
    refine (K6.out _ _ HT5.out hHeld).mono ?_
    rintro e w6 ⟨rfl, hb6⟩
    clear HT5
    go_wp2_with fail
    refine hK.out _ _ (keep1 hb6 hHeld) (fun hHeld => ?_)
    clear hK K
    try simp only [Act.put, List.setIfInBounds_toArray, List.set_cons_zero, List.set_cons_succ]
    refine wpAnyH_take (i := 7) (oi := { dst := some 38, op := Op.binOp BinOp.eql 27 (Operand.tmp 34) (Operand.tmp 37) 27, type := 4, pos := "law.go:50", after := #[{ on := 3, ground := Ground.data }, { on := 6, ground := Ground.data }, { on := 1, ground := Ground.guard }], guard := some (1, true) }) (v := .bool true) rfl (by kernel_rfl) (by kernel_rfl) (by kernel_rfl) (fun _ _ _ h => h) (Or.inl ⟨by rfl, by intro W hSw; go_simp⟩) hHeld ?_
    try simp only [Act.put, List.setIfInBounds_toArray, List.set_cons_zero, List.set_cons_succ]
    refine wpAnyH_take (i := 8) (oi := { dst := some 39, op := Op.pick (Operand.tmp 32) (Operand.tmp 38) (Operand.const (Value.bool false)), type := 4, pos := "law.go:50", after := #[{ on := 1, ground := Ground.data }, { on := 7, ground := Ground.data }], guard := none }) (v := .bool true) rfl (by kernel_rfl) (by kernel_rfl) (by kernel_rfl) (fun _ _ _ h => h) (Or.inl ⟨by rfl, by intro W hSw; go_simp⟩) hHeld ?_
    try simp only [Act.put, List.setIfInBounds_toArray, List.set_cons_zero, List.set_cons_succ]
    refine wpAnyH_take (i := 9) (oi := { dst := some 40, op := Op.move (Operand.tmp 39), type := 4, pos := "law.go:50", after := #[{ on := 8, ground := Ground.data }, { on := 6, ground := Ground.chain }], guard := none }) (v := .bool true) rfl (by kernel_rfl) (by kernel_rfl) (by kernel_rfl) (fun _ _ _ h => h) (Or.inl ⟨by rfl, by intro W hSw; go_simp⟩) hHeld ?_
    try simp only [Act.put, List.setIfInBounds_toArray, List.set_cons_zero, List.set_cons_succ]
    refine wpAnyH_take (i := 10) (oi := { dst := some 41, op := Op.move (Operand.tmp 1), type := 9, pos := "law.go:50", after := #[{ on := 9, ground := Ground.guard }], guard := some (9, true) }) (v := .string x) rfl (by kernel_rfl) (by kernel_rfl) (by kernel_rfl) (fun _ _ _ h => h) (Or.inl ⟨by rfl, by intro W hSw; go_simp⟩) hHeld ?_
    try simp only [Act.put, List.setIfInBounds_toArray, List.set_cons_zero, List.set_cons_succ]
    refine wpAnyH_take (i := 11) (oi := { dst := some 42, op := Op.move (Operand.tmp 2), type := 3, pos := "law.go:50", after := #[{ on := 9, ground := Ground.guard }], guard := some (9, true) }) (v := .int .i64 (n : Int)) rfl (by kernel_rfl) (by kernel_rfl) (by kernel_rfl) (fun _ _ _ h => h) (Or.inl ⟨by rfl, by intro W hSw; go_simp⟩) hHeld ?_
    try simp only [Act.put, List.setIfInBounds_toArray, List.set_cons_zero, List.set_cons_succ]
    refine wpAnyH_take (i := 12) (oi := { dst := some 43, op := Op.slice 9 (Operand.tmp 41) none (some (Operand.tmp 42)) none, type := 9, pos := "law.go:50", after := #[{ on := 10, ground := Ground.data }, { on := 11, ground := Ground.data }, { on := 9, ground := Ground.guard }], guard := some (9, true) }) (v := .string x1) rfl (by kernel_rfl) (by kernel_rfl) (by kernel_rfl) (fun _ _ _ h => h) (Or.inl ⟨by rfl, by intro W hSw; go_simp; exact HX1.out.symm⟩) hHeld ?_
    try simp only [Act.put, List.setIfInBounds_toArray, List.set_cons_zero, List.set_cons_succ]
    refine wpAnyH_take (i := 13) (oi := { dst := some 44, op := Op.move (Operand.tmp 1), type := 9, pos := "law.go:50", after := #[{ on := 9, ground := Ground.guard }], guard := some (9, true) }) (v := .string x) rfl (by kernel_rfl) (by kernel_rfl) (by kernel_rfl) (fun _ _ _ h => h) (Or.inl ⟨by rfl, by intro W hSw; go_simp⟩) hHeld ?_
    try simp only [Act.put, List.setIfInBounds_toArray, List.set_cons_zero, List.set_cons_succ]
    refine wpAnyH_take (i := 14) (oi := { dst := some 45, op := Op.move (Operand.tmp 2), type := 3, pos := "law.go:50", after := #[{ on := 9, ground := Ground.guard }], guard := some (9, true) }) (v := .int .i64 (n : Int)) rfl (by kernel_rfl) (by kernel_rfl) (by kernel_rfl) (fun _ _ _ h => h) (Or.inl ⟨by rfl, by intro W hSw; go_simp⟩) hHeld ?_
    try simp only [Act.put, List.setIfInBounds_toArray, List.set_cons_zero, List.set_cons_succ]
    refine wpAnyH_take (i := 15) (oi := { dst := some 46, op := Op.slice 9 (Operand.tmp 44) (some (Operand.tmp 45)) none none, type := 9, pos := "law.go:50", after := #[{ on := 13, ground := Ground.data }, { on := 14, ground := Ground.data }, { on := 9, ground := Ground.guard }], guard := some (9, true) }) (v := .string x2) rfl (by kernel_rfl) (by kernel_rfl) (by kernel_rfl) (fun _ _ _ h => h) (Or.inl ⟨by rfl, by intro W hSw; go_simp; exact HX2.out.symm⟩) hHeld ?_
    try simp only [Act.put, List.setIfInBounds_toArray, List.set_cons_zero, List.set_cons_succ]
    refine wpAnyH_take (i := 18) (oi := { dst := some 49, op := Op.move (Operand.tmp 1), type := 9, pos := "law.go:50", after := #[{ on := 9, ground := Ground.guard }], guard := some (9, true) }) (v := .string x) rfl (by kernel_rfl) (by kernel_rfl) (by kernel_rfl) (fun _ _ _ h => h) (Or.inl ⟨by rfl, by intro W hSw; go_simp⟩) hHeld ?_
    try simp only [Act.put, List.setIfInBounds_toArray, List.set_cons_zero, List.set_cons_succ]
    refine wpAnyH_ready (rs := [16, 19]) (by kernel_rfl) (by simp) ?_
    refine (AllReadyH.cons (o := { dst := some 47, op := Op.buildSlice 22 2 #[(0, Operand.tmp 43), (1, Operand.tmp 46)], type := 22, pos := "law.go:50", after := #[{ on := 12, ground := Ground.data }, { on := 15, ground := Ground.data }, { on := 9, ground := Ground.guard }], guard := some (9, true) }) rfl (fun K hK => ?_) (AllReadyH.cons (o := { dst := some 50, op := Op.buildSlice 22 1 #[(0, Operand.tmp 49)], type := 22, pos := "law.go:50", after := #[{ on := 18, ground := Ground.data }, { on := 9, ground := Ground.guard }], guard := some (9, true) }) rfl (fun K hK => ?_) AllReadyH.nil))
    · have HT16 : Hid (Texts (w6.alloc (.cells #[.string x1, .string x2] 9)) (some ⟨w6.heap.size, 0, none⟩) 2 [x1, x2]) := texts_new w6 [x1, x2] 9
      try (replace HT19 := hidk (HT19.out.keep ((Below.refl _ _).alloc (Nat.le_refl _) (.cells #[.string x1, .string x2] 9))))
      go_simp
      refine hK.out _ _ (keep1 ((Below.refl _ _).alloc (Nat.le_refl _) _) hHeld) (fun hHeld => ?_)
      clear hK K
      try simp only [Act.put, List.setIfInBounds_toArray, List.set_cons_zero, List.set_cons_succ]
      refine wpAnyH_ready (rs := [17, 19]) (by kernel_rfl) (by simp) ?_
      refine (AllReadyH.cons (o := { dst := some 48, op := Op.call { callee := Callee.value (Operand.func 9), args := #[Operand.tmp 47], argTypes := #[22] }, type := 27, pos := "law.go:50", after := #[{ on := 16, ground := Ground.data }, { on := 9, ground := Ground.chain }, { on := 9, ground := Ground.guard }], guard := some (9, true) }) rfl (fun K hK => ?_) (AllReadyH.cons (o := { dst := some 50, op := Op.buildSlice 22 1 #[(0, Operand.tmp 49)], type := 22, pos := "law.go:50", after := #[{ on := 18, ground := Ground.data }, { on := 9, ground := Ground.guard }], guard := some (9, true) }) rfl (fun K hK => ?_) AllReadyH.nil))
      · go_simp
        try simp only [World.size_alloc] at HT16
        refine (K17.out _ _ HT16.out hHeld).mono ?_
        rintro e w17 ⟨rfl, hb17⟩
        clear HT16
        try (replace HT19 := hidk (HT19.out.keep hb17))
        go_wp2_with fail
        refine hK.out _ _ (keep1 hb17 hHeld) (fun hHeld => ?_)
        clear hK K
        try simp only [Act.put, List.setIfInBounds_toArray, List.set_cons_zero, List.set_cons_succ]
        refine wpAnyH_ready (rs := [19]) (by kernel_rfl) (by simp) ?_
        refine (AllReadyH.cons (o := { dst := some 50, op := Op.buildSlice 22 1 #[(0, Operand.tmp 49)], type := 22, pos := "law.go:50", after := #[{ on := 18, ground := Ground.data }, { on := 9, ground := Ground.guard }], guard := some (9, true) }) rfl (fun K hK => ?_) AllReadyH.nil)
        have HT19 : Hid (Texts (w17.alloc (.cells #[.string x] 9)) (some ⟨w17.heap.size, 0, none⟩) 1 [x]) := texts_new w17 [x] 9
        try (replace HT16 := hidk (HT16.out.keep ((Below.refl _ _).alloc (Nat.le_refl _) (.cells #[.string x] 9))))
        go_simp
        refine hK.out _ _ (keep1 ((Below.refl _ _).alloc (Nat.le_refl _) _) hHeld) (fun hHeld => ?_)
        clear hK K
        try simp only [Act.put, List.setIfInBounds_toArray, List.set_cons_zero, List.set_cons_succ]
        refine wpAnyH_ready (rs := [20]) (by kernel_rfl) (by simp) ?_
        refine (AllReadyH.cons (o := { dst := some 51, op := Op.call { callee := Callee.value (Operand.func 9), args := #[Operand.tmp 50], argTypes := #[22] }, type := 27, pos := "law.go:50", after := #[{ on := 19, ground := Ground.data }, { on := 17, ground := Ground.chain }, { on := 9, ground := Ground.guard }], guard := some (9, true) }) rfl (fun K hK => ?_) AllReadyH.nil)
        go_simp
        try simp only [World.size_alloc] at HT19
        refine (K20.out _ _ HT19.out hHeld).mono ?_
        rintro e w20 ⟨rfl, hb20⟩
        clear HT19
        go_wp2_with fail
        refine hK.out _ _ (keep1 hb20 hHeld) (fun hHeld => ?_)
        clear hK K
        try simp only [Act.put, List.setIfInBounds_toArray, List.set_cons_zero, List.set_cons_succ]
        refine wpAnyH_take (i := 21) (oi := { dst := some 52, op := Op.binOp BinOp.eql 27 (Operand.tmp 48) (Operand.tmp 51) 27, type := 4, pos := "law.go:50", after := #[{ on := 17, ground := Ground.data }, { on := 20, ground := Ground.data }, { on := 9, ground := Ground.guard }], guard := some (9, true) }) (v := .bool true) rfl (by kernel_rfl) (by kernel_rfl) (by kernel_rfl) (fun _ _ _ h => h) (Or.inl ⟨by rfl, by intro W hSw; go_simp⟩) hHeld ?_
        try simp only [Act.put, List.setIfInBounds_toArray, List.set_cons_zero, List.set_cons_succ]
        refine wpAnyH_take (i := 22) (oi := { dst := some 53, op := Op.pick (Operand.tmp 40) (Operand.tmp 52) (Operand.const (Value.bool false)), type := 4, pos := "law.go:50", after := #[{ on := 9, ground := Ground.data }, { on := 21, ground := Ground.data }], guard := none }) (v := .bool true) rfl (by kernel_rfl) (by kernel_rfl) (by kernel_rfl) (fun _ _ _ h => h) (Or.inl ⟨by rfl, by intro W hSw; go_simp⟩) hHeld ?_
        try simp only [Act.put, List.setIfInBounds_toArray, List.set_cons_zero, List.set_cons_succ]
        refine wpAnyH_take (i := 23) (oi := { dst := some 54, op := Op.move (Operand.tmp 53), type := 4, pos := "law.go:50", after := #[{ on := 22, ground := Ground.data }, { on := 20, ground := Ground.chain }], guard := none }) (v := .bool true) rfl (by kernel_rfl) (by kernel_rfl) (by kernel_rfl) (fun _ _ _ h => h) (Or.inl ⟨by rfl, by intro W hSw; go_simp⟩) hHeld ?_
        try simp only [Act.put, List.setIfInBounds_toArray, List.set_cons_zero, List.set_cons_succ]
        refine wpAnyH_ready (rs := [24]) (by kernel_rfl) (by simp) ?_
        refine (AllReadyH.cons (o := { dst := some 55, op := Op.call { callee := Callee.value (Operand.func 9), args := #[Operand.const (Value.slice none 0 0)], argTypes := #[22] }, type := 27, pos := "law.go:50", after := #[{ on := 23, ground := Ground.chain }, { on := 23, ground := Ground.guard }], guard := some (23, true) }) rfl (fun K hK => ?_) AllReadyH.nil)
        go_simp
        refine (K24.out _ hHeld).mono ?_
        rintro e w24 ⟨rfl, hb24⟩
        go_wp2_with fail
        refine hK.out _ _ (keep1 hb24 hHeld) (fun hHeld => ?_)
        clear hK K
        try simp only [Act.put, List.setIfInBounds_toArray, List.set_cons_zero, List.set_cons_succ]
        refine wpAnyH_ready (rs := [25]) (by kernel_rfl) (by simp) ?_
        refine (AllReadyH.cons (o := { dst := some 56, op := Op.call { callee := Callee.value (Operand.func 11), args := #[], argTypes := #[] }, type := 27, pos := "law.go:50", after := #[{ on := 24, ground := Ground.chain }, { on := 23, ground := Ground.guard }], guard := some (23, true) }) rfl (fun K hK => ?_) AllReadyH.nil)
        go_simp
        refine (K25.out _ hHeld).mono ?_
        rintro e w25 ⟨rfl, hb25⟩
        go_wp2_with fail
        refine hK.out _ _ (keep1 hb25 hHeld) (fun hHeld => ?_)
        clear hK K
        try simp only [Act.put, List.setIfInBounds_toArray, List.set_cons_zero, List.set_cons_succ]
        refine wpAnyH_take (i := 26) (oi := { dst := some 57, op := Op.binOp BinOp.eql 27 (Operand.tmp 55) (Operand.tmp 56) 27, type := 4, pos := "law.go:50", after := #[{ on := 24, ground := Ground.data }, { on := 25, ground := Ground.data }, { on := 23, ground := Ground.guard }], guard := some (23, true) }) (v := .bool true) rfl (by kernel_rfl) (by kernel_rfl) (by kernel_rfl) (fun _ _ _ h => h) (Or.inl ⟨by rfl, by intro W hSw; go_simp⟩) hHeld ?_
        try simp only [Act.put, List.setIfInBounds_toArray, List.set_cons_zero, List.set_cons_succ]
        refine wpAnyH_take (i := 27) (oi := { dst := some 58, op := Op.pick (Operand.tmp 54) (Operand.tmp 57) (Operand.const (Value.bool false)), type := 4, pos := "law.go:50", after := #[{ on := 23, ground := Ground.data }, { on := 26, ground := Ground.data }], guard := none }) (v := .bool true) rfl (by kernel_rfl) (by kernel_rfl) (by kernel_rfl) (fun _ _ _ h => h) (Or.inl ⟨by rfl, by intro W hSw; go_simp⟩) hHeld ?_
        try simp only [Act.put, List.setIfInBounds_toArray, List.set_cons_zero, List.set_cons_succ]
        refine wpAnyH_take (i := 28) (oi := { dst := some 6, op := Op.assign (Operand.tmp 58), type := 4, pos := "law.go:50", after := #[{ on := 27, ground := Ground.data }, { on := 25, ground := Ground.chain }, { on := 0, ground := Ground.phase }, { on := 1, ground := Ground.phase }, { on := 2, ground := Ground.phase }, { on := 3, ground := Ground.phase }, { on := 4, ground := Ground.phase }, { on := 5, ground := Ground.phase }, { on := 6, ground := Ground.phase }, { on := 7, ground := Ground.phase }, { on := 8, ground := Ground.phase }, { on := 9, ground := Ground.phase }, { on := 10, ground := Ground.phase }, { on := 11, ground := Ground.phase }, { on := 12, ground := Ground.phase }, { on := 13, ground := Ground.phase }, { on := 14, ground := Ground.phase }, { on := 15, ground := Ground.phase }, { on := 16, ground := Ground.phase }, { on := 17, ground := Ground.phase }, { on := 18, ground := Ground.phase }, { on := 19, ground := Ground.phase }, { on := 20, ground := Ground.phase }, { on := 21, ground := Ground.phase }, { on := 22, ground := Ground.phase }, { on := 23, ground := Ground.phase }, { on := 24, ground := Ground.phase }, { on := 25, ground := Ground.phase }, { on := 26, ground := Ground.phase }, { on := 27, ground := Ground.phase }], guard := none }) (v := .bool true) rfl (by kernel_rfl) (by kernel_rfl) (by kernel_rfl) (fun _ _ _ h => h) (Or.inl ⟨by rfl, by intro W hSw; go_simp⟩) hHeld ?_
        try simp only [Act.put, List.setIfInBounds_toArray, List.set_cons_zero, List.set_cons_succ]
        refine wpAnyH_done (by kernel_rfl) ?_ _
        go_wp2
        go_ret
        exact ⟨rfl, hHeld⟩
      · have HT19 : Hid (Texts ((w6.alloc (.cells #[.string x1, .string x2] 9)).alloc (.cells #[.string x] 9)) (some ⟨(w6.alloc (.cells #[.string x1, .string x2] 9)).heap.size, 0, none⟩) 1 [x]) := texts_new (w6.alloc (.cells #[.string x1, .string x2] 9)) [x] 9
        try (replace HT16 := hidk (HT16.out.keep ((Below.refl _ _).alloc (Nat.le_refl _) (.cells #[.string x] 9))))
        go_simp
        refine hK.out _ _ (keep1 ((Below.refl _ _).alloc (Nat.le_refl _) _) hHeld) (fun hHeld => ?_)
        clear hK K
        try simp only [Act.put, List.setIfInBounds_toArray, List.set_cons_zero, List.set_cons_succ]
        refine wpAnyH_ready (rs := [17]) (by kernel_rfl) (by simp) ?_
        refine (AllReadyH.cons (o := { dst := some 48, op := Op.call { callee := Callee.value (Operand.func 9), args := #[Operand.tmp 47], argTypes := #[22] }, type := 27, pos := "law.go:50", after := #[{ on := 16, ground := Ground.data }, { on := 9, ground := Ground.chain }, { on := 9, ground := Ground.guard }], guard := some (9, true) }) rfl (fun K hK => ?_) AllReadyH.nil)
        go_simp
        try simp only [World.size_alloc] at HT16
        refine (K17.out _ _ HT16.out hHeld).mono ?_
        rintro e w17 ⟨rfl, hb17⟩
        clear HT16
        try (replace HT19 := hidk (HT19.out.keep hb17))
        go_wp2_with fail
        refine hK.out _ _ (keep1 hb17 hHeld) (fun hHeld => ?_)
        clear hK K
        try simp only [Act.put, List.setIfInBounds_toArray, List.set_cons_zero, List.set_cons_succ]
        refine wpAnyH_ready (rs := [20]) (by kernel_rfl) (by simp) ?_
        refine (AllReadyH.cons (o := { dst := some 51, op := Op.call { callee := Callee.value (Operand.func 9), args := #[Operand.tmp 50], argTypes := #[22] }, type := 27, pos := "law.go:50", after := #[{ on := 19, ground := Ground.data }, { on := 17, ground := Ground.chain }, { on := 9, ground := Ground.guard }], guard := some (9, true) }) rfl (fun K hK => ?_) AllReadyH.nil)
        go_simp
        try simp only [World.size_alloc] at HT19
        refine (K20.out _ _ HT19.out hHeld).mono ?_
        rintro e w20 ⟨rfl, hb20⟩
        clear HT19
        go_wp2_with fail
        refine hK.out _ _ (keep1 hb20 hHeld) (fun hHeld => ?_)
        clear hK K
        try simp only [Act.put, List.setIfInBounds_toArray, List.set_cons_zero, List.set_cons_succ]
        refine wpAnyH_take (i := 21) (oi := { dst := some 52, op := Op.binOp BinOp.eql 27 (Operand.tmp 48) (Operand.tmp 51) 27, type := 4, pos := "law.go:50", after := #[{ on := 17, ground := Ground.data }, { on := 20, ground := Ground.data }, { on := 9, ground := Ground.guard }], guard := some (9, true) }) (v := .bool true) rfl (by kernel_rfl) (by kernel_rfl) (by kernel_rfl) (fun _ _ _ h => h) (Or.inl ⟨by rfl, by intro W hSw; go_simp⟩) hHeld ?_
        try simp only [Act.put, List.setIfInBounds_toArray, List.set_cons_zero, List.set_cons_succ]
        refine wpAnyH_take (i := 22) (oi := { dst := some 53, op := Op.pick (Operand.tmp 40) (Operand.tmp 52) (Operand.const (Value.bool false)), type := 4, pos := "law.go:50", after := #[{ on := 9, ground := Ground.data }, { on := 21, ground := Ground.data }], guard := none }) (v := .bool true) rfl (by kernel_rfl) (by kernel_rfl) (by kernel_rfl) (fun _ _ _ h => h) (Or.inl ⟨by rfl, by intro W hSw; go_simp⟩) hHeld ?_
        try simp only [Act.put, List.setIfInBounds_toArray, List.set_cons_zero, List.set_cons_succ]
        refine wpAnyH_take (i := 23) (oi := { dst := some 54, op := Op.move (Operand.tmp 53), type := 4, pos := "law.go:50", after := #[{ on := 22, ground := Ground.data }, { on := 20, ground := Ground.chain }], guard := none }) (v := .bool true) rfl (by kernel_rfl) (by kernel_rfl) (by kernel_rfl) (fun _ _ _ h => h) (Or.inl ⟨by rfl, by intro W hSw; go_simp⟩) hHeld ?_
        try simp only [Act.put, List.setIfInBounds_toArray, List.set_cons_zero, List.set_cons_succ]
        refine wpAnyH_ready (rs := [24]) (by kernel_rfl) (by simp) ?_
        refine (AllReadyH.cons (o := { dst := some 55, op := Op.call { callee := Callee.value (Operand.func 9), args := #[Operand.const (Value.slice none 0 0)], argTypes := #[22] }, type := 27, pos := "law.go:50", after := #[{ on := 23, ground := Ground.chain }, { on := 23, ground := Ground.guard }], guard := some (23, true) }) rfl (fun K hK => ?_) AllReadyH.nil)
        go_simp
        refine (K24.out _ hHeld).mono ?_
        rintro e w24 ⟨rfl, hb24⟩
        go_wp2_with fail
        refine hK.out _ _ (keep1 hb24 hHeld) (fun hHeld => ?_)
        clear hK K
        try simp only [Act.put, List.setIfInBounds_toArray, List.set_cons_zero, List.set_cons_succ]
        refine wpAnyH_ready (rs := [25]) (by kernel_rfl) (by simp) ?_
        refine (AllReadyH.cons (o := { dst := some 56, op := Op.call { callee := Callee.value (Operand.func 11), args := #[], argTypes := #[] }, type := 27, pos := "law.go:50", after := #[{ on := 24, ground := Ground.chain }, { on := 23, ground := Ground.guard }], guard := some (23, true) }) rfl (fun K hK => ?_) AllReadyH.nil)
        go_simp
        refine (K25.out _ hHeld).mono ?_
        rintro e w25 ⟨rfl, hb25⟩
        go_wp2_with fail
        refine hK.out _ _ (keep1 hb25 hHeld) (fun hHeld => ?_)
        clear hK K
        try simp only [Act.put, List.setIfInBounds_toArray, List.set_cons_zero, List.set_cons_succ]
        refine wpAnyH_take (i := 26) (oi := { dst := some 57, op := Op.binOp BinOp.eql 27 (Operand.tmp 55) (Operand.tmp 56) 27, type := 4, pos := "law.go:50", after := #[{ on := 24, ground := Ground.data }, { on := 25, ground := Ground.data }, { on := 23, ground := Ground.guard }], guard := some (23, true) }) (v := .bool true) rfl (by kernel_rfl) (by kernel_rfl) (by kernel_rfl) (fun _ _ _ h => h) (Or.inl ⟨by rfl, by intro W hSw; go_simp⟩) hHeld ?_
        try simp only [Act.put, List.setIfInBounds_toArray, List.set_cons_zero, List.set_cons_succ]
        refine wpAnyH_take (i := 27) (oi := { dst := some 58, op := Op.pick (Operand.tmp 54) (Operand.tmp 57) (Operand.const (Value.bool false)), type := 4, pos := "law.go:50", after := #[{ on := 23, ground := Ground.data }, { on := 26, ground := Ground.data }], guard := none }) (v := .bool true) rfl (by kernel_rfl) (by kernel_rfl) (by kernel_rfl) (fun _ _ _ h => h) (Or.inl ⟨by rfl, by intro W hSw; go_simp⟩) hHeld ?_
        try simp only [Act.put, List.setIfInBounds_toArray, List.set_cons_zero, List.set_cons_succ]
        refine wpAnyH_take (i := 28) (oi := { dst := some 6, op := Op.assign (Operand.tmp 58), type := 4, pos := "law.go:50", after := #[{ on := 27, ground := Ground.data }, { on := 25, ground := Ground.chain }, { on := 0, ground := Ground.phase }, { on := 1, ground := Ground.phase }, { on := 2, ground := Ground.phase }, { on := 3, ground := Ground.phase }, { on := 4, ground := Ground.phase }, { on := 5, ground := Ground.phase }, { on := 6, ground := Ground.phase }, { on := 7, ground := Ground.phase }, { on := 8, ground := Ground.phase }, { on := 9, ground := Ground.phase }, { on := 10, ground := Ground.phase }, { on := 11, ground := Ground.phase }, { on := 12, ground := Ground.phase }, { on := 13, ground := Ground.phase }, { on := 14, ground := Ground.phase }, { on := 15, ground := Ground.phase }, { on := 16, ground := Ground.phase }, { on := 17, ground := Ground.phase }, { on := 18, ground := Ground.phase }, { on := 19, ground := Ground.phase }, { on := 20, ground := Ground.phase }, { on := 21, ground := Ground.phase }, { on := 22, ground := Ground.phase }, { on := 23, ground := Ground.phase }, { on := 24, ground := Ground.phase }, { on := 25, ground := Ground.phase }, { on := 26, ground := Ground.phase }, { on := 27, ground := Ground.phase }], guard := none }) (v := .bool true) rfl (by kernel_rfl) (by kernel_rfl) (by kernel_rfl) (fun _ _ _ h => h) (Or.inl ⟨by rfl, by intro W hSw; go_simp⟩) hHeld ?_
        try simp only [Act.put, List.setIfInBounds_toArray, List.set_cons_zero, List.set_cons_succ]
        refine wpAnyH_done (by kernel_rfl) ?_ _
        go_wp2
        go_ret
        exact ⟨rfl, hHeld⟩
    · have HT19 : Hid (Texts (w6.alloc (.cells #[.string x] 9)) (some ⟨w6.heap.size, 0, none⟩) 1 [x]) := texts_new w6 [x] 9
      try (replace HT16 := hidk (HT16.out.keep ((Below.refl _ _).alloc (Nat.le_refl _) (.cells #[.string x] 9))))
      go_simp
      refine hK.out _ _ (keep1 ((Below.refl _ _).alloc (Nat.le_refl _) _) hHeld) (fun hHeld => ?_)
      clear hK K
      try simp only [Act.put, List.setIfInBounds_toArray, List.set_cons_zero, List.set_cons_succ]
      refine wpAnyH_ready (rs := [16]) (by kernel_rfl) (by simp) ?_
      refine (AllReadyH.cons (o := { dst := some 47, op := Op.buildSlice 22 2 #[(0, Operand.tmp 43), (1, Operand.tmp 46)], type := 22, pos := "law.go:50", after := #[{ on := 12, ground := Ground.data }, { on := 15, ground := Ground.data }, { on := 9, ground := Ground.guard }], guard := some (9, true) }) rfl (fun K hK => ?_) AllReadyH.nil)
      have HT16 : Hid (Texts ((w6.alloc (.cells #[.string x] 9)).alloc (.cells #[.string x1, .string x2] 9)) (some ⟨(w6.alloc (.cells #[.string x] 9)).heap.size, 0, none⟩) 2 [x1, x2]) := texts_new (w6.alloc (.cells #[.string x] 9)) [x1, x2] 9
      try (replace HT19 := hidk (HT19.out.keep ((Below.refl _ _).alloc (Nat.le_refl _) (.cells #[.string x1, .string x2] 9))))
      go_simp
      refine hK.out _ _ (keep1 ((Below.refl _ _).alloc (Nat.le_refl _) _) hHeld) (fun hHeld => ?_)
      clear hK K
      try simp only [Act.put, List.setIfInBounds_toArray, List.set_cons_zero, List.set_cons_succ]
      refine wpAnyH_ready (rs := [17]) (by kernel_rfl) (by simp) ?_
      refine (AllReadyH.cons (o := { dst := some 48, op := Op.call { callee := Callee.value (Operand.func 9), args := #[Operand.tmp 47], argTypes := #[22] }, type := 27, pos := "law.go:50", after := #[{ on := 16, ground := Ground.data }, { on := 9, ground := Ground.chain }, { on := 9, ground := Ground.guard }], guard := some (9, true) }) rfl (fun K hK => ?_) AllReadyH.nil)
      go_simp
      try simp only [World.size_alloc] at HT16
      refine (K17.out _ _ HT16.out hHeld).mono ?_
      rintro e w17 ⟨rfl, hb17⟩
      clear HT16
      try (replace HT19 := hidk (HT19.out.keep hb17))
      go_wp2_with fail
      refine hK.out _ _ (keep1 hb17 hHeld) (fun hHeld => ?_)
      clear hK K
      try simp only [Act.put, List.setIfInBounds_toArray, List.set_cons_zero, List.set_cons_succ]
      refine wpAnyH_ready (rs := [20]) (by kernel_rfl) (by simp) ?_
      refine (AllReadyH.cons (o := { dst := some 51, op := Op.call { callee := Callee.value (Operand.func 9), args := #[Operand.tmp 50], argTypes := #[22] }, type := 27, pos := "law.go:50", after := #[{ on := 19, ground := Ground.data }, { on := 17, ground := Ground.chain }, { on := 9, ground := Ground.guard }], guard := some (9, true) }) rfl (fun K hK => ?_) AllReadyH.nil)
      go_simp
      try simp only [World.size_alloc] at HT19
      refine (K20.out _ _ HT19.out hHeld).mono ?_
      rintro e w20 ⟨rfl, hb20⟩
      clear HT19
      go_wp2_with fail
      refine hK.out _ _ (keep1 hb20 hHeld) (fun hHeld => ?_)
      clear hK K
      try simp only [Act.put, List.setIfInBounds_toArray, List.set_cons_zero, List.set_cons_succ]
      refine wpAnyH_take (i := 21) (oi := { dst := some 52, op := Op.binOp BinOp.eql 27 (Operand.tmp 48) (Operand.tmp 51) 27, type := 4, pos := "law.go:50", after := #[{ on := 17, ground := Ground.data }, { on := 20, ground := Ground.data }, { on := 9, ground := Ground.guard }], guard := some (9, true) }) (v := .bool true) rfl (by kernel_rfl) (by kernel_rfl) (by kernel_rfl) (fun _ _ _ h => h) (Or.inl ⟨by rfl, by intro W hSw; go_simp⟩) hHeld ?_
      try simp only [Act.put, List.setIfInBounds_toArray, List.set_cons_zero, List.set_cons_succ]
      refine wpAnyH_take (i := 22) (oi := { dst := some 53, op := Op.pick (Operand.tmp 40) (Operand.tmp 52) (Operand.const (Value.bool false)), type := 4, pos := "law.go:50", after := #[{ on := 9, ground := Ground.data }, { on := 21, ground := Ground.data }], guard := none }) (v := .bool true) rfl (by kernel_rfl) (by kernel_rfl) (by kernel_rfl) (fun _ _ _ h => h) (Or.inl ⟨by rfl, by intro W hSw; go_simp⟩) hHeld ?_
      try simp only [Act.put, List.setIfInBounds_toArray, List.set_cons_zero, List.set_cons_succ]
      refine wpAnyH_take (i := 23) (oi := { dst := some 54, op := Op.move (Operand.tmp 53), type := 4, pos := "law.go:50", after := #[{ on := 22, ground := Ground.data }, { on := 20, ground := Ground.chain }], guard := none }) (v := .bool true) rfl (by kernel_rfl) (by kernel_rfl) (by kernel_rfl) (fun _ _ _ h => h) (Or.inl ⟨by rfl, by intro W hSw; go_simp⟩) hHeld ?_
      try simp only [Act.put, List.setIfInBounds_toArray, List.set_cons_zero, List.set_cons_succ]
      refine wpAnyH_ready (rs := [24]) (by kernel_rfl) (by simp) ?_
      refine (AllReadyH.cons (o := { dst := some 55, op := Op.call { callee := Callee.value (Operand.func 9), args := #[Operand.const (Value.slice none 0 0)], argTypes := #[22] }, type := 27, pos := "law.go:50", after := #[{ on := 23, ground := Ground.chain }, { on := 23, ground := Ground.guard }], guard := some (23, true) }) rfl (fun K hK => ?_) AllReadyH.nil)
      go_simp
      refine (K24.out _ hHeld).mono ?_
      rintro e w24 ⟨rfl, hb24⟩
      go_wp2_with fail
      refine hK.out _ _ (keep1 hb24 hHeld) (fun hHeld => ?_)
      clear hK K
      try simp only [Act.put, List.setIfInBounds_toArray, List.set_cons_zero, List.set_cons_succ]
      refine wpAnyH_ready (rs := [25]) (by kernel_rfl) (by simp) ?_
      refine (AllReadyH.cons (o := { dst := some 56, op := Op.call { callee := Callee.value (Operand.func 11), args := #[], argTypes := #[] }, type := 27, pos := "law.go:50", after := #[{ on := 24, ground := Ground.chain }, { on := 23, ground := Ground.guard }], guard := some (23, true) }) rfl (fun K hK => ?_) AllReadyH.nil)
      go_simp
      refine (K25.out _ hHeld).mono ?_
      rintro e w25 ⟨rfl, hb25⟩
      go_wp2_with fail
      refine hK.out _ _ (keep1 hb25 hHeld) (fun hHeld => ?_)
      clear hK K
      try simp only [Act.put, List.setIfInBounds_toArray, List.set_cons_zero, List.set_cons_succ]
      refine wpAnyH_take (i := 26) (oi := { dst := some 57, op := Op.binOp BinOp.eql 27 (Operand.tmp 55) (Operand.tmp 56) 27, type := 4, pos := "law.go:50", after := #[{ on := 24, ground := Ground.data }, { on := 25, ground := Ground.data }, { on := 23, ground := Ground.guard }], guard := some (23, true) }) (v := .bool true) rfl (by kernel_rfl) (by kernel_rfl) (by kernel_rfl) (fun _ _ _ h => h) (Or.inl ⟨by rfl, by intro W hSw; go_simp⟩) hHeld ?_
      try simp only [Act.put, List.setIfInBounds_toArray, List.set_cons_zero, List.set_cons_succ]
      refine wpAnyH_take (i := 27) (oi := { dst := some 58, op := Op.pick (Operand.tmp 54) (Operand.tmp 57) (Operand.const (Value.bool false)), type := 4, pos := "law.go:50", after := #[{ on := 23, ground := Ground.data }, { on := 26, ground := Ground.data }], guard := none }) (v := .bool true) rfl (by kernel_rfl) (by kernel_rfl) (by kernel_rfl) (fun _ _ _ h => h) (Or.inl ⟨by rfl, by intro W hSw; go_simp⟩) hHeld ?_
      try simp only [Act.put, List.setIfInBounds_toArray, List.set_cons_zero, List.set_cons_succ]
      refine wpAnyH_take (i := 28) (oi := { dst := some 6, op := Op.assign (Operand.tmp 58), type := 4, pos := "law.go:50", after := #[{ on := 27, ground := Ground.data }, { on := 25, ground := Ground.chain }, { on := 0, ground := Ground.phase }, { on := 1, ground := Ground.phase }, { on := 2, ground := Ground.phase }, { on := 3, ground := Ground.phase }, { on := 4, ground := Ground.phase }, { on := 5, ground := Ground.phase }, { on := 6, ground := Ground.phase }, { on := 7, ground := Ground.phase }, { on := 8, ground := Ground.phase }, { on := 9, ground := Ground.phase }, { on := 10, ground := Ground.phase }, { on := 11, ground := Ground.phase }, { on := 12, ground := Ground.phase }, { on := 13, ground := Ground.phase }, { on := 14, ground := Ground.phase }, { on := 15, ground := Ground.phase }, { on := 16, ground := Ground.phase }, { on := 17, ground := Ground.phase }, { on := 18, ground := Ground.phase }, { on := 19, ground := Ground.phase }, { on := 20, ground := Ground.phase }, { on := 21, ground := Ground.phase }, { on := 22, ground := Ground.phase }, { on := 23, ground := Ground.phase }, { on := 24, ground := Ground.phase }, { on := 25, ground := Ground.phase }, { on := 26, ground := Ground.phase }, { on := 27, ground := Ground.phase }], guard := none }) (v := .bool true) rfl (by kernel_rfl) (by kernel_rfl) (by kernel_rfl) (fun _ _ _ h => h) (Or.inl ⟨by rfl, by intro W hSw; go_simp⟩) hHeld ?_
      try simp only [Act.put, List.setIfInBounds_toArray, List.set_cons_zero, List.set_cons_succ]
      refine wpAnyH_done (by kernel_rfl) ?_ _
      go_wp2
      go_ret
      exact ⟨rfl, hHeld⟩

theorem shaParts_walk (a0 : Option Addr) (len0 cap0 : Nat) (z0 : List ByteArray) (a1 : ByteArray) (a2 : Int) (w : World) (w0 : Texts w a0 len0 z0 ∧ (∀ s ∈ z0, s.size ≤ maxLen) ∧ len0 ≤ maxLen) (w1 : a1.size ≤ maxLen) (w2 : (Lit.int .i64 a2).wf = true) (hK : Table 0 w) :
    Calls Tryd.prog 4 #[.slice a0 len0 cap0, .string a1, .int .i64 a2] w fun e w' => e = .returned (.bool true) ∧ Below w.heap.size w w' := by
  have hlen : len0 ≤ 9223372036854775807 := by have := w0.2.2; unfold maxLen at this; omega
  have hb := bounds_i64 w2
  by_cases hf : Fits z0
  · by_cases hx : a1.size ≤ 65536 ∧ 0 ≤ a2 ∧ a2 ≤ (a1.size : Int)
    · obtain ⟨n, rfl⟩ := Int.eq_ofNat_of_zero_le hx.2.1
      exact shaParts_rest a0 len0 cap0 z0 ⟨(joinL z0).toArray⟩ a1 n w w0.1 hx.1 (by omega) (by simp) hf.2 hf.1 (joined_fits cap0 w0.1 w0.2.1 hlen hf) hK
    · exact shaParts_far a0 len0 cap0 ⟨(joinL z0).toArray⟩ a1 a2 w w1 (by omega) (by omega) (joined_fits cap0 w0.1 w0.2.1 hlen hf) (by omega)
  · exact shaParts_no a0 len0 cap0 z0 a1 a2 w w1 (joined_not cap0 w0.1 w0.2.1 hlen hf)
end Go.Proofs.YthkmhfpihkjhnaaDoor
