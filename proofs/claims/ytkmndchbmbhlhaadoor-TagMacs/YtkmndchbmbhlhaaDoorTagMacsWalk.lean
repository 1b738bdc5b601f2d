/- What TagMacs says of any input, over what the calls of package tag answer. -/
import Derived.Test.YtkmndchbmbhlhaaDoorTagC
import Derived.Test.YtkmndchbmbhlhaaDoorRefTag
import Derived.Test.YtkmndchbmbhlhaaDoorTagOneWalk
namespace Go.Proofs.YtkmndchbmbhlhaaDoor
open Go.RowKit Sums
set_option linter.unusedVariables false
set_option linter.unusedSimpArgs false

set_option maxHeartbeats 4000000 in
theorem tagMacs_of (ck : TagC) (z0 : List UInt8) (a1 : ByteArray) (z2 z3 : List UInt8) (w : World) (w0 : z0.length = 32) (w1 : a1.size ≤ maxLen) (w2 : z2.length = 32) (w3 : z3.length = 32) (hC : Table 1 w) (hT : TabT w) :
    Calls Tryd.prog 3 #[digV z0, .string a1, digV z2, digV z3] w fun e w' => e = .returned (.bool true) ∧ Below w.heap.size w w' := by
  unfold digV
  obtain ⟨K, HK, HSK, H1K, H32K⟩ := key_row z0 w0
  obtain ⟨T, HT, HST, H1T, H32T⟩ := dig_row' z2 w2
  obtain ⟨U, HU, HSU, H1U, H32U⟩ := dig_row' z3 w3
  rw [← HK.out, ← HT.out, ← HU.out]
  have HB := hidk (came3 w K T U)
  have hml : a1.size ≤ 9223372036854775807 := by unfold maxLen at w1; omega
  by_cases hlen : 16384 < a1.size
  · have d0 : decide (16384 < (a1.size : Int)) = true := by rw [decide_eq_true_eq]; omega
    have d0' : decide (16384 < a1.size) = true := by rw [decide_eq_true_eq]; omega
    clear hlen
    go_enter Tryd.func3, Tryd.ntmps3
    go_wp2
    go_ret
    exact ⟨rfl, HB.out.1⟩
  have d0 : decide (16384 < (a1.size : Int)) = false := by rw [decide_eq_false_iff_not]; omega
  have d0' : decide (16384 < a1.size) = false := by rw [decide_eq_false_iff_not]; omega
  have hle : a1.size ≤ 100000 := by omega
  obtain ⟨D, HD, HSD, H1D, H32D⟩ := dig_row' (macD z0 a1.data.toList) (sumD_length _)
  obtain ⟨b, hb⟩ : ∃ b, decide (z2 = z3) = b := ⟨_, rfl⟩
  have C0 : Hid (∀ W, Below w.heap.size w W → Calls Tryd.prog 8 #[] W fun e w' => e = .returned (.bool true) ∧ Below W.heap.size W w') := fun W hb => macs_true ck W (hT.keep hb)
  have C1 : Hid (∀ W, Below w.heap.size w W → Calls Tryd.prog 9 #[.agg K, .string a1] W fun e w' => e = .returned (.agg D) ∧ Below W.heap.size W w') := fun W hb => ck.mac z0 a1 W K D HK w0 hle (hT.keep hb) HD
  have C2 : Hid (∀ W, Below w.heap.size w W → Calls Tryd.prog 10 #[.agg K, .string a1] W fun e w' => e = .returned (.agg D) ∧ Below W.heap.size W w') := fun W hb => refMac_any z0 a1 W K D HK w0 hle (hC.keep hb) HD
  have C3 : Hid (∀ W, Calls Tryd.prog 11 #[.agg T, .agg U] W fun e w' => e = .returned (.bool b) ∧ Below W.heap.size W w') := fun W => by rw [← hb]; exact ck.same z2 z3 W T U HT HU w2 w3
  have C4 : Hid (∀ W, Calls Tryd.prog 11 #[.agg T, .agg T] W fun e w' => e = .returned (.bool true) ∧ Below W.heap.size W w') := fun W => by have := ck.same z2 z2 W T T HT HT w2 w2; simpa using this
  have q1 : ∀ W, (binOp .eql 24 (.agg D) (.agg D)).run Tryd.prog W = .ok (.bool true) W := fun W => eqSelf D _ (sumD_length _) HD W
  have q2 : ∀ W, (binOp .eql 24 (.agg T) (.agg U)).run Tryd.prog W = .ok (.bool b) W := fun W => eqDigV z2 z3 w2 w3 T U HT HU b hb W
  have q3 : (b == b) = true := by simp
  clear hT hC HK HT HU HD hlen w1 hb
  go_enter Tryd.func3, Tryd.ntmps3
  go_wp2
  refine wp_region_held_drew (S := (fun W => W.heap[w.heap.size]? = some (.cells K 23 (0, 0)) ∧ W.heap[w.heap.size + 1]? = some (.cells T 24 (0, 0)) ∧ W.heap[w.heap.size + 2]? = some (.cells U 24 (0, 0)))) (by kernel_rfl) ⟨HB.out.2.1, HB.out.2.2.1, HB.out.2.2.2⟩ (fun hHeld => ?_)
  refine wpAnyH_ready (rs := [0]) (by kernel_rfl) (by simp) ?_
  refine (AllReadyH.cons (o := { dst := some 12, op := Op.call { callee := Callee.value (Operand.func 8), args := #[], argTypes := #[] }, type := 4, pos := "law.go:27", after := #[], guard := none }) rfl (fun K hK => ?_) AllReadyH.nil)
  go_simp
  refine (C0.out _ HB.out.1.drew).mono ?_
  rintro e w0 ⟨rfl, hb1⟩
  have HB1 := hidk (HB.out.1.drew.trans (hb1.mono HB.out.1.size))
  go_wp2_with fail
  refine hK.out _ _ ⟨(hb1.block _ (heap_lt hHeld.1)).trans hHeld.1, (hb1.block _ (heap_lt hHeld.2.1)).trans hHeld.2.1, (hb1.block _ (heap_lt hHeld.2.2)).trans hHeld.2.2⟩ (fun hHeld => ?_)
  clear hK K
  try simp only [Act.put, List.setIfInBounds_toArray, List.set_cons_zero, List.set_cons_succ]
  refine wpAnyH_take (i := 1) (oi := { dst := some 13, op := Op.move (Operand.tmp 12), type := 4, pos := "law.go:27", after := #[{ on := 0, ground := Ground.data }, { on := 0, ground := Ground.chain }], guard := none }) (v := .bool true) rfl (by kernel_rfl) (by kernel_rfl) (by kernel_rfl) (fun _ _ _ h => h) (Or.inl ⟨by rfl, by intro W hSw; go_simp⟩) hHeld ?_
  try simp only [Act.put, List.setIfInBounds_toArray, List.set_cons_zero, List.set_cons_succ]
  refine wpAnyH_take (i := 2) (oi := { dst := some 14, op := Op.load 23 (Operand.tmp 4), type := 23, pos := "law.go:27", after := #[{ on := 1, ground := Ground.guard }], guard := some (1, true) }) (v := .agg K) rfl (by kernel_rfl) (by kernel_rfl) (by kernel_rfl) (fun _ _ _ h => h) (yieldsIf_row (by rfl) 23 (.tmp 4) rfl w.heap.size rfl 23 K (0, 0) _ (fun _ h => h.1) Tryd.underlying23 rfl HSK.out) hHeld ?_
  try simp only [Act.put, List.setIfInBounds_toArray, List.set_cons_zero, List.set_cons_succ]
  refine wpAnyH_take (i := 3) (oi := { dst := some 15, op := Op.move (Operand.tmp 1), type := 9, pos := "law.go:27", after := #[{ on := 1, ground := Ground.guard }], guard := some (1, true) }) (v := .string a1) rfl (by kernel_rfl) (by kernel_rfl) (by kernel_rfl) (fun _ _ _ h => h) (Or.inl ⟨by rfl, by intro W hSw; go_simp⟩) hHeld ?_
  try simp only [Act.put, List.setIfInBounds_toArray, List.set_cons_zero, List.set_cons_succ]
  refine wpAnyH_take (i := 5) (oi := { dst := some 17, op := Op.load 23 (Operand.tmp 4), type := 23, pos := "law.go:27", after := #[{ on := 1, ground := Ground.guard }], guard := some (1, true) }) (v := .agg K) rfl (by kernel_rfl) (by kernel_rfl) (by kernel_rfl) (fun _ _ _ h => h) (yieldsIf_row (by rfl) 23 (.tmp 4) rfl w.heap.size rfl 23 K (0, 0) _ (fun _ h => h.1) Tryd.underlying23 rfl HSK.out) hHeld ?_
  try simp only [Act.put, List.setIfInBounds_toArray, List.set_cons_zero, List.set_cons_succ]
  refine wpAnyH_take (i := 6) (oi := { dst := some 18, op := Op.move (Operand.tmp 1), type := 9, pos := "law.go:27", after := #[{ on := 1, ground := Ground.guard }], guard := some (1, true) }) (v := .string a1) rfl (by kernel_rfl) (by kernel_rfl) (by kernel_rfl) (fun _ _ _ h => h) (Or.inl ⟨by rfl, by intro W hSw; go_simp⟩) hHeld ?_
  try simp only [Act.put, List.setIfInBounds_toArray, List.set_cons_zero, List.set_cons_succ]
  refine wpAnyH_ready (rs := [4]) (by kernel_rfl) (by simp) ?_
  refine (AllReadyH.cons (o := { dst := some 16, op := Op.call { callee := Callee.value (Operand.func 9), args := #[Operand.tmp 14, Operand.tmp 15], argTypes := #[23, 9] }, type := 24, pos := "law.go:27", after := #[{ on := 2, ground := Ground.data }, { on := 3, ground := Ground.data }, { on := 1, ground := Ground.chain }, { on := 1, ground := Ground.guard }], guard := some (1, true) }) rfl (fun K hK => ?_) AllReadyH.nil)
  go_simp
  refine (C1.out _ HB1.out).mono ?_
  rintro e w4 ⟨rfl, hb2⟩
  have HB2 := hidk (HB1.out.trans (hb2.mono HB1.out.size))
  go_wp2_with fail
  refine hK.out _ _ ⟨(hb2.block _ (heap_lt hHeld.1)).trans hHeld.1, (hb2.block _ (heap_lt hHeld.2.1)).trans hHeld.2.1, (hb2.block _ (heap_lt hHeld.2.2)).trans hHeld.2.2⟩ (fun hHeld => ?_)
  clear hK K
  try simp only [Act.put, List.setIfInBounds_toArray, List.set_cons_zero, List.set_cons_succ]
  refine wpAnyH_ready (rs := [7]) (by kernel_rfl) (by simp) ?_
  refine (AllReadyH.cons (o := { dst := some 19, op := Op.call { callee := Callee.value (Operand.func 10), args := #[Operand.tmp 17, Operand.tmp 18], argTypes := #[23, 9] }, type := 24, pos := "law.go:27", after := #[{ on := 5, ground := Ground.data }, { on := 6, ground := Ground.data }, { on := 4, ground := Ground.chain }, { on := 1, ground := Ground.guard }], guard := some (1, true) }) rfl (fun K hK => ?_) AllReadyH.nil)
  go_simp
  refine (C2.out _ HB2.out).mono ?_
  rintro e w7 ⟨rfl, hb3⟩
  have HB3 := hidk (HB2.out.trans (hb3.mono HB2.out.size))
  go_wp2_with fail
  refine hK.out _ _ ⟨(hb3.block _ (heap_lt hHeld.1)).trans hHeld.1, (hb3.block _ (heap_lt hHeld.2.1)).trans hHeld.2.1, (hb3.block _ (heap_lt hHeld.2.2)).trans hHeld.2.2⟩ (fun hHeld => ?_)
  clear hK K
  try simp only [Act.put, List.setIfInBounds_toArray, List.set_cons_zero, List.set_cons_succ]
  refine wpAnyH_take (i := 8) (oi := { dst := some 20, op := Op.binOp BinOp.eql 24 (Operand.tmp 16) (Operand.tmp 19) 24, type := 4, pos := "law.go:27", after := #[{ on := 4, ground := Ground.data }, { on := 7, ground := Ground.data }, { on := 1, ground := Ground.guard }], guard := some (1, true) }) (v := .bool true) rfl (by kernel_rfl) (by kernel_rfl) (by kernel_rfl) (fun _ _ _ h => h) (Or.inl ⟨by rfl, by intro W hSw; have := q1 W; go_simp⟩) hHeld ?_
  try simp only [Act.put, List.setIfInBounds_toArray, List.set_cons_zero, List.set_cons_succ]
  refine wpAnyH_take (i := 9) (oi := { dst := some 21, op := Op.pick (Operand.tmp 13) (Operand.tmp 20) (Operand.const (Value.bool false)), type := 4, pos := "law.go:27", after := #[{ on := 1, ground := Ground.data }, { on := 8, ground := Ground.data }], guard := none }) (v := .bool true) rfl (by kernel_rfl) (by kernel_rfl) (by kernel_rfl) (fun _ _ _ h => h) (Or.inl ⟨by rfl, by intro W hSw; go_simp⟩) hHeld ?_
  try simp only [Act.put, List.setIfInBounds_toArray, List.set_cons_zero, List.set_cons_succ]
  refine wpAnyH_take (i := 10) (oi := { dst := some 22, op := Op.move (Operand.tmp 21), type := 4, pos := "law.go:27", after := #[{ on := 9, ground := Ground.data }, { on := 7, ground := Ground.chain }], guard := none }) (v := .bool true) rfl (by kernel_rfl) (by kernel_rfl) (by kernel_rfl) (fun _ _ _ h => h) (Or.inl ⟨by rfl, by intro W hSw; go_simp⟩) hHeld ?_
  try simp only [Act.put, List.setIfInBounds_toArray, List.set_cons_zero, List.set_cons_succ]
  refine wpAnyH_take (i := 11) (oi := { dst := some 23, op := Op.load 24 (Operand.tmp 6), type := 24, pos := "law.go:27", after := #[{ on := 10, ground := Ground.guard }], guard := some (10, true) }) (v := .agg T) rfl (by kernel_rfl) (by kernel_rfl) (by kernel_rfl) (fun _ _ _ h => h) (yieldsIf_row (by rfl) 24 (.tmp 6) rfl (w.heap.size + 1) rfl 24 T (0, 0) _ (fun _ h => h.2.1) Tryd.underlying24 rfl HST.out) hHeld ?_
  try simp only [Act.put, List.setIfInBounds_toArray, List.set_cons_zero, List.set_cons_succ]
  refine wpAnyH_take (i := 12) (oi := { dst := some 24, op := Op.load 24 (Operand.tmp 7), type := 24, pos := "law.go:27", after := #[{ on := 10, ground := Ground.guard }], guard := some (10, true) }) (v := .agg U) rfl (by kernel_rfl) (by kernel_rfl) (by kernel_rfl) (fun _ _ _ h => h) (yieldsIf_row (by rfl) 24 (.tmp 7) rfl (w.heap.size + 2) rfl 24 U (0, 0) _ (fun _ h => h.2.2) Tryd.underlying24 rfl HSU.out) hHeld ?_
  try simp only [Act.put, List.setIfInBounds_toArray, List.set_cons_zero, List.set_cons_succ]
  refine wpAnyH_take (i := 14) (oi := { dst := some 26, op := Op.load 24 (Operand.tmp 6), type := 24, pos := "law.go:27", after := #[{ on := 10, ground := Ground.guard }], guard := some (10, true) }) (v := .agg T) rfl (by kernel_rfl) (by kernel_rfl) (by kernel_rfl) (fun _ _ _ h => h) (yieldsIf_row (by rfl) 24 (.tmp 6) rfl (w.heap.size + 1) rfl 24 T (0, 0) _ (fun _ h => h.2.1) Tryd.underlying24 rfl HST.out) hHeld ?_
  try simp only [Act.put, List.setIfInBounds_toArray, List.set_cons_zero, List.set_cons_succ]
  refine wpAnyH_take (i := 15) (oi := { dst := some 27, op := Op.load 24 (Operand.tmp 7), type := 24, pos := "law.go:27", after := #[{ on := 10, ground := Ground.guard }], guard := some (10, true) }) (v := .agg U) rfl (by kernel_rfl) (by kernel_rfl) (by kernel_rfl) (fun _ _ _ h => h) (yieldsIf_row (by rfl) 24 (.tmp 7) rfl (w.heap.size + 2) rfl 24 U (0, 0) _ (fun _ h => h.2.2) Tryd.underlying24 rfl HSU.out) hHeld ?_
  try simp only [Act.put, List.setIfInBounds_toArray, List.set_cons_zero, List.set_cons_succ]
  refine wpAnyH_take (i := 16) (oi := { dst := some 28, op := Op.binOp BinOp.eql 24 (Operand.tmp 26) (Operand.tmp 27) 24, type := 4, pos := "law.go:27", after := #[{ on := 14, ground := Ground.data }, { on := 15, ground := Ground.data }, { on := 10, ground := Ground.guard }], guard := some (10, true) }) (v := .bool b) rfl (by kernel_rfl) (by kernel_rfl) (by kernel_rfl) (fun _ _ _ h => h) (Or.inl ⟨by rfl, by intro W hSw; have := q2 W; go_simp⟩) hHeld ?_
  try simp only [Act.put, List.setIfInBounds_toArray, List.set_cons_zero, List.set_cons_succ]
  refine wpAnyH_ready (rs := [13]) (by kernel_rfl) (by simp) ?_
  refine (AllReadyH.cons (o := { dst := some 25, op := Op.call { callee := Callee.value (Operand.func 11), args := #[Operand.tmp 23, Operand.tmp 24], argTypes := #[24, 24] }, type := 4, pos := "law.go:27", after := #[{ on := 11, ground := Ground.data }, { on := 12, ground := Ground.data }, { on := 10, ground := Ground.chain }, { on := 10, ground := Ground.guard }], guard := some (10, true) }) rfl (fun K hK => ?_) AllReadyH.nil)
  go_simp
  refine (C3.out _).mono ?_
  rintro e w13 ⟨rfl, hb4⟩
  have HB4 := hidk (HB3.out.trans (hb4.mono HB3.out.size))
  go_wp2_with fail
  refine hK.out _ _ ⟨(hb4.block _ (heap_lt hHeld.1)).trans hHeld.1, (hb4.block _ (heap_lt hHeld.2.1)).trans hHeld.2.1, (hb4.block _ (heap_lt hHeld.2.2)).trans hHeld.2.2⟩ (fun hHeld => ?_)
  clear hK K
  try simp only [Act.put, List.setIfInBounds_toArray, List.set_cons_zero, List.set_cons_succ]
  refine wpAnyH_take (i := 17) (oi := { dst := some 29, op := Op.binOp BinOp.eql 4 (Operand.tmp 25) (Operand.tmp 28) 4, type := 4, pos := "law.go:27", after := #[{ on := 13, ground := Ground.data }, { on := 16, ground := Ground.data }, { on := 10, ground := Ground.guard }], guard := some (10, true) }) (v := .bool true) rfl (by kernel_rfl) (by kernel_rfl) (by kernel_rfl) (fun _ _ _ h => h) (Or.inl ⟨by rfl, by intro W hSw; go_simp⟩) hHeld ?_
  try simp only [Act.put, List.setIfInBounds_toArray, List.set_cons_zero, List.set_cons_succ]
  refine wpAnyH_take (i := 18) (oi := { dst := some 30, op := Op.pick (Operand.tmp 22) (Operand.tmp 29) (Operand.const (Value.bool false)), type := 4, pos := "law.go:27", after := #[{ on := 10, ground := Ground.data }, { on := 17, ground := Ground.data }], guard := none }) (v := .bool true) rfl (by kernel_rfl) (by kernel_rfl) (by kernel_rfl) (fun _ _ _ h => h) (Or.inl ⟨by rfl, by intro W hSw; go_simp⟩) hHeld ?_
  try simp only [Act.put, List.setIfInBounds_toArray, List.set_cons_zero, List.set_cons_succ]
  refine wpAnyH_take (i := 19) (oi := { dst := some 31, op := Op.move (Operand.tmp 30), type := 4, pos := "law.go:27", after := #[{ on := 18, ground := Ground.data }, { on := 13, ground := Ground.chain }], guard := none }) (v := .bool true) rfl (by kernel_rfl) (by kernel_rfl) (by kernel_rfl) (fun _ _ _ h => h) (Or.inl ⟨by rfl, by intro W hSw; go_simp⟩) hHeld ?_
  try simp only [Act.put, List.setIfInBounds_toArray, List.set_cons_zero, List.set_cons_succ]
  refine wpAnyH_take (i := 20) (oi := { dst := some 32, op := Op.load 24 (Operand.tmp 6), type := 24, pos := "law.go:27", after := #[{ on := 19, ground := Ground.guard }], guard := some (19, true) }) (v := .agg T) rfl (by kernel_rfl) (by kernel_rfl) (by kernel_rfl) (fun _ _ _ h => h) (yieldsIf_row (by rfl) 24 (.tmp 6) rfl (w.heap.size + 1) rfl 24 T (0, 0) _ (fun _ h => h.2.1) Tryd.underlying24 rfl HST.out) hHeld ?_
  try simp only [Act.put, List.setIfInBounds_toArray, List.set_cons_zero, List.set_cons_succ]
  refine wpAnyH_take (i := 21) (oi := { dst := some 33, op := Op.load 24 (Operand.tmp 6), type := 24, pos := "law.go:27", after := #[{ on := 19, ground := Ground.guard }], guard := some (19, true) }) (v := .agg T) rfl (by kernel_rfl) (by kernel_rfl) (by kernel_rfl) (fun _ _ _ h => h) (yieldsIf_row (by rfl) 24 (.tmp 6) rfl (w.heap.size + 1) rfl 24 T (0, 0) _ (fun _ h => h.2.1) Tryd.underlying24 rfl HST.out) hHeld ?_
  try simp only [Act.put, List.setIfInBounds_toArray, List.set_cons_zero, List.set_cons_succ]
  refine wpAnyH_ready (rs := [22]) (by kernel_rfl) (by simp) ?_
  refine (AllReadyH.cons (o := { dst := some 34, op := Op.call { callee := Callee.value (Operand.func 11), args := #[Operand.tmp 32, Operand.tmp 33], argTypes := #[24, 24] }, type := 4, pos := "law.go:27", after := #[{ on := 20, ground := Ground.data }, { on := 21, ground := Ground.data }, { on := 19, ground := Ground.chain }, { on := 19, ground := Ground.guard }], guard := some (19, true) }) rfl (fun K hK => ?_) AllReadyH.nil)
  go_simp
  refine (C4.out _).mono ?_
  rintro e w22 ⟨rfl, hb5⟩
  have HB5 := hidk (HB4.out.trans (hb5.mono HB4.out.size))
  go_wp2_with fail
  refine hK.out _ _ ⟨(hb5.block _ (heap_lt hHeld.1)).trans hHeld.1, (hb5.block _ (heap_lt hHeld.2.1)).trans hHeld.2.1, (hb5.block _ (heap_lt hHeld.2.2)).trans hHeld.2.2⟩ (fun hHeld => ?_)
  clear hK K
  try simp only [Act.put, List.setIfInBounds_toArray, List.set_cons_zero, List.set_cons_succ]
  refine wpAnyH_take (i := 23) (oi := { dst := some 35, op := Op.pick (Operand.tmp 31) (Operand.tmp 34) (Operand.const (Value.bool false)), type := 4, pos := "law.go:27", after := #[{ on := 19, ground := Ground.data }, { on := 22, ground := Ground.data }], guard := none }) (v := .bool true) rfl (by kernel_rfl) (by kernel_rfl) (by kernel_rfl) (fun _ _ _ h => h) (Or.inl ⟨by rfl, by intro W hSw; go_simp⟩) hHeld ?_
  try simp only [Act.put, List.setIfInBounds_toArray, List.set_cons_zero, List.set_cons_succ]
  refine wpAnyH_take (i := 24) (oi := { dst := some 8, op := Op.assign (Operand.tmp 35), type := 4, pos := "law.go:27", after := #[{ on := 23, ground := Ground.data }, { on := 22, ground := Ground.chain }, { on := 0, ground := Ground.phase }, { on := 1, ground := Ground.phase }, { on := 2, ground := Ground.phase }, { on := 3, ground := Ground.phase }, { on := 4, ground := Ground.phase }, { on := 5, ground := Ground.phase }, { on := 6, ground := Ground.phase }, { on := 7, ground := Ground.phase }, { on := 8, ground := Ground.phase }, { on := 9, ground := Ground.phase }, { on := 10, ground := Ground.phase }, { on := 11, ground := Ground.phase }, { on := 12, ground := Ground.phase }, { on := 13, ground := Ground.phase }, { on := 14, ground := Ground.phase }, { on := 15, ground := Ground.phase }, { on := 16, ground := Ground.phase }, { on := 17, ground := Ground.phase }, { on := 18, ground := Ground.phase }, { on := 19, ground := Ground.phase }, { on := 20, ground := Ground.phase }, { on := 21, ground := Ground.phase }, { on := 22, ground := Ground.phase }, { on := 23, ground := Ground.phase }], guard := none }) (v := .bool true) rfl (by kernel_rfl) (by kernel_rfl) (by kernel_rfl) (fun _ _ _ h => h) (Or.inl ⟨by rfl, by intro W hSw; go_simp⟩) hHeld ?_
  try simp only [Act.put, List.setIfInBounds_toArray, List.set_cons_zero, List.set_cons_succ]
  refine wpAnyH_done (by kernel_rfl) ?_ _
  go_wp2
  go_ret
  exact ⟨rfl, HB5.out⟩
end Go.Proofs.YtkmndchbmbhlhaaDoor
