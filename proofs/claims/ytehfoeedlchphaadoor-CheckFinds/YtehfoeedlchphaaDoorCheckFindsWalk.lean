/- CheckFinds over what the calls of check answer. -/
import Derived.Test.YtehfoeedlchphaaDoorFinds
import Derived.OpenShut
namespace Go.Proofs.YtehfoeedlchphaaDoor
open Go.RowKit Sums
set_option linter.unusedVariables false
set_option linter.unusedSimpArgs false

set_option maxHeartbeats 8000000 in
theorem checkFinds_of (ck : CheckC) (a0 : Option Addr) (len0 cap0 : Nat) (z0 : List (List UInt8)) (a1 : Int) (w : World) (w0 : LReads w a0 len0 cap0 z0) (w1 : (Lit.int .i64 a1).wf = true) (hK : TabC w) :
    Calls Tryd.prog 6 #[.slice a0 len0 cap0, .int .i64 a1] w fun e w' => e = .returned (.bool true) ∧ Below w.heap.size w w' := by
  have hb1 := bounds_i64 w1
  have hlen := w0.1
  have hlx : len0 ≤ 9223372036854775807 := by have := w0.2.2.2.1; unfold maxLen at this; omega
  by_cases hlong : 200 < len0
  · have dl : decide (200 < (len0 : Int)) = true := by rw [decide_eq_true_eq]; omega
    clear hK w0 ck
    go_enter Tryd.func6, Tryd.ntmps6
    go_wp2
    go_ret
    exact ⟨rfl, Below.refl _ _⟩
  have dl : decide (200 < (len0 : Int)) = false := by rw [decide_eq_false_iff_not]; omega
  obtain ⟨Z, HZ, HA, HS, H1, H32⟩ := noughts27
  obtain ⟨R, HR, HSR, H1R, H32R⟩ := dig_row' (root z0) (root_length sumD_length z0 w0.2.1)
  have HZR : Hid (Z.size = R.size) := by show _ = _; rw [H32.out, H32R.out]
  have RT : Hid (∀ W, Below w.heap.size w W → Calls Tryd.prog 20 #[.slice a0 len0 cap0] W fun e w' => e = .returned (.agg R) ∧ Below W.heap.size W w') := fun W hb => root_any len0 a0 len0 cap0 z0 W rfl (w0.keep hb) (hK.keep hb).sha R HR
  have TH : Hid (∀ W, Below w.heap.size w W → Calls Tryd.prog 11 #[] W fun e w' => e = .returned (.bool true) ∧ Below W.heap.size W w') := fun W hb => three5_true ck W (hK.keep hb)
  by_cases hout : a1 < 0 ∨ (len0 : Int) < a1
  · have IN : Hid (∀ W, Calls Tryd.prog 18 #[.slice a0 len0 cap0, .int .i64 a1] W fun e w' => e = .returned (.tuple #[.slice none 0 0, .int .i64 20]) ∧ Below W.heap.size W w') := fun W => inclusion_out a0 len0 cap0 a1 W w0.2.2.2.1 (by omega)
    have CO : Hid (∀ W, Calls Tryd.prog 19 #[.slice a0 len0 cap0, .int .i64 a1] W fun e w' => e = .returned (.tuple #[.slice none 0 0, .int .i64 21]) ∧ Below W.heap.size W w') := fun W => consistency_out a0 len0 cap0 a1 W w0.2.2.2.1 hout
    have cs : (decide (0 ≤ a1) = false) ∨ (decide (0 ≤ a1) = true ∧ decide (a1 < (len0 : Int)) = false ∧ decide (a1 ≤ (len0 : Int)) = false) := by
      rcases hout with h | h
      · exact .inl (by rw [decide_eq_false_iff_not]; omega)
      · exact .inr ⟨by rw [decide_eq_true_eq]; omega, by rw [decide_eq_false_iff_not]; omega, by rw [decide_eq_false_iff_not]; omega⟩
    clear hK w0 ck HR hout hlong hlen
    rcases cs with k1 | ⟨k1, k2, k3⟩
    all_goals
      go_enter Tryd.func6, Tryd.ntmps6
      go_wp2_with fail
      refine (IN.out _).mono ?_
      rintro e w1 ⟨rfl, hb1⟩
      have H1w : Hid (Below w.heap.size w w1 ∧ True) := ⟨hb1, trivial⟩
      clear hb1 IN
      go_wp2_with fail
      refine (CO.out _).mono ?_
      rintro e w2 ⟨rfl, hb2⟩
      have H2 : Hid (Below w.heap.size w w2 ∧ True) := ⟨H1w.out.1.trans (hb2.mono H1w.out.1.size), trivial⟩
      clear hb2 CO H1w
      go_wp2_with fail
      refine (RT.out _ H2.out.1).mono ?_
      rintro e w3 ⟨rfl, hb3⟩
      have H3 : Hid (Below w.heap.size w w3) := H2.out.1.trans (hb3.mono H2.out.1.size)
      clear hb3 RT H2
      go_wp2_with (first
        | (show wpList _ _ _ ({ dst := some 9, op := _, type := _, pos := _, after := _, guard := _ } :: _) _ _; refine wpList_new_row rfl rfl 23 rfl (.tmp 9) (.tmp 26) rfl Z R HA.out (fun _ => by simp [Act.put, Act.eval]) (fun _ => by simp [Act.put, Act.eval]) HSR.out HZR.out H1R.out ?_; intro gR w5 F5; try simp only [Act.put, List.setIfInBounds_toArray, List.set_cons_zero, List.set_cons_succ])
        | fail)
      have H5 : Hid (Below w.heap.size w w5 ∧ w5.heap[gR]? = some (.cells R 23 (0, 0)) ∧ True) := ⟨H3.out.trans (F5.out.2.2.mono H3.out.size), F5.out.2.1, trivial⟩
      clear F5 H3
      refine wp_region_held_drew (S := (fun W => W.heap[gR]? = some (.cells R 23 (0, 0)))) (by kernel_rfl) (show w5.drew.heap[gR]? = _ from H5.out.2.1) (fun hHeld => ?_)
      refine wpAnyH_take (i := 0) (oi := { dst := some 51, op := Op.move (Operand.tmp 6), type := 26, pos := "law.go:69", after := #[], guard := none }) (v := .int .i64 20) rfl (by kernel_rfl) (by kernel_rfl) (by kernel_rfl) (fun _ _ _ h => h) (Or.inl ⟨by rfl, by intro w hSw; go_simp⟩) hHeld ?_
      try simp only [Act.put, List.setIfInBounds_toArray, List.set_cons_zero, List.set_cons_succ]
      refine wpAnyH_take (i := 1) (oi := { dst := some 52, op := Op.binOp BinOp.eql 26 (Operand.tmp 51) (Operand.const (Value.int IntKind.i64 0)) 26, type := 4, pos := "law.go:69", after := #[{ on := 0, ground := Ground.data }], guard := none }) (v := .bool false) rfl (by kernel_rfl) (by kernel_rfl) (by kernel_rfl) (fun _ _ _ h => h) (Or.inl ⟨by rfl, by intro w hSw; go_simp⟩) hHeld ?_
      try simp only [Act.put, List.setIfInBounds_toArray, List.set_cons_zero, List.set_cons_succ]
      refine wpAnyH_take (i := 2) (oi := { dst := some 53, op := Op.move (Operand.tmp 52), type := 4, pos := "law.go:69", after := #[{ on := 1, ground := Ground.data }], guard := none }) (v := .bool false) rfl (by kernel_rfl) (by kernel_rfl) (by kernel_rfl) (fun _ _ _ h => h) (Or.inl ⟨by rfl, by intro w hSw; go_simp⟩) hHeld ?_
      try simp only [Act.put, List.setIfInBounds_toArray, List.set_cons_zero, List.set_cons_succ]
      refine wpAnyH_take (i := 3) (oi := { dst := some 54, op := Op.load 23 (Operand.tmp 9), type := 23, pos := "law.go:69", after := #[{ on := 2, ground := Ground.guard }], guard := some (2, true) }) (v := undef) rfl (by kernel_rfl) (by kernel_rfl) (by kernel_rfl) (fun _ _ _ h => h) (Or.inr ⟨by rfl, rfl⟩) hHeld ?_
      try simp only [Act.put, List.setIfInBounds_toArray, List.set_cons_zero, List.set_cons_succ]
      refine wpAnyH_take (i := 4) (oi := { dst := some 55, op := Op.move (Operand.tmp 0), type := 24, pos := "law.go:69", after := #[{ on := 2, ground := Ground.guard }], guard := some (2, true) }) (v := undef) rfl (by kernel_rfl) (by kernel_rfl) (by kernel_rfl) (fun _ _ _ h => h) (Or.inr ⟨by rfl, rfl⟩) hHeld ?_
      try simp only [Act.put, List.setIfInBounds_toArray, List.set_cons_zero, List.set_cons_succ]
      refine wpAnyH_take (i := 5) (oi := { dst := some 56, op := Op.call { callee := Callee.builtin Builtin.len, args := #[Operand.tmp 55], argTypes := #[24] }, type := 3, pos := "law.go:69", after := #[{ on := 4, ground := Ground.data }, { on := 2, ground := Ground.guard }], guard := some (2, true) }) (v := undef) rfl (by kernel_rfl) (by kernel_rfl) (by kernel_rfl) (fun _ _ _ h => h) (Or.inr ⟨by rfl, rfl⟩) hHeld ?_
      try simp only [Act.put, List.setIfInBounds_toArray, List.set_cons_zero, List.set_cons_succ]
      refine wpAnyH_take (i := 6) (oi := { dst := some 57, op := Op.move (Operand.tmp 1), type := 3, pos := "law.go:69", after := #[{ on := 2, ground := Ground.guard }], guard := some (2, true) }) (v := undef) rfl (by kernel_rfl) (by kernel_rfl) (by kernel_rfl) (fun _ _ _ h => h) (Or.inr ⟨by rfl, rfl⟩) hHeld ?_
      try simp only [Act.put, List.setIfInBounds_toArray, List.set_cons_zero, List.set_cons_succ]
      refine wpAnyH_take (i := 7) (oi := { dst := some 58, op := Op.move (Operand.tmp 0), type := 24, pos := "law.go:69", after := #[{ on := 2, ground := Ground.guard }], guard := some (2, true) }) (v := undef) rfl (by kernel_rfl) (by kernel_rfl) (by kernel_rfl) (fun _ _ _ h => h) (Or.inr ⟨by rfl, rfl⟩) hHeld ?_
      try simp only [Act.put, List.setIfInBounds_toArray, List.set_cons_zero, List.set_cons_succ]
      refine wpAnyH_take (i := 8) (oi := { dst := some 59, op := Op.move (Operand.tmp 1), type := 3, pos := "law.go:69", after := #[{ on := 2, ground := Ground.guard }], guard := some (2, true) }) (v := undef) rfl (by kernel_rfl) (by kernel_rfl) (by kernel_rfl) (fun _ _ _ h => h) (Or.inr ⟨by rfl, rfl⟩) hHeld ?_
      try simp only [Act.put, List.setIfInBounds_toArray, List.set_cons_zero, List.set_cons_succ]
      refine wpAnyH_take (i := 9) (oi := { dst := some 60, op := Op.indexAddr 24 (Operand.tmp 58) (Operand.tmp 59), type := 0, pos := "law.go:69", after := #[{ on := 7, ground := Ground.data }, { on := 8, ground := Ground.data }, { on := 2, ground := Ground.guard }], guard := some (2, true) }) (v := undef) rfl (by kernel_rfl) (by kernel_rfl) (by kernel_rfl) (fun _ _ _ h => h) (Or.inr ⟨by rfl, rfl⟩) hHeld ?_
      try simp only [Act.put, List.setIfInBounds_toArray, List.set_cons_zero, List.set_cons_succ]
      refine wpAnyH_take (i := 10) (oi := { dst := some 61, op := Op.load 23 (Operand.tmp 60), type := 23, pos := "law.go:69", after := #[{ on := 9, ground := Ground.data }, { on := 2, ground := Ground.guard }], guard := some (2, true) }) (v := undef) rfl (by kernel_rfl) (by kernel_rfl) (by kernel_rfl) (fun _ _ _ h => h) (Or.inr ⟨by rfl, rfl⟩) hHeld ?_
      try simp only [Act.put, List.setIfInBounds_toArray, List.set_cons_zero, List.set_cons_succ]
      refine wpAnyH_take (i := 11) (oi := { dst := some 62, op := Op.move (Operand.tmp 5), type := 24, pos := "law.go:69", after := #[{ on := 2, ground := Ground.guard }], guard := some (2, true) }) (v := undef) rfl (by kernel_rfl) (by kernel_rfl) (by kernel_rfl) (fun _ _ _ h => h) (Or.inr ⟨by rfl, rfl⟩) hHeld ?_
      try simp only [Act.put, List.setIfInBounds_toArray, List.set_cons_zero, List.set_cons_succ]
      refine wpAnyH_take (i := 12) (oi := { dst := some 63, op := Op.call { callee := Callee.value (Operand.func 10), args := #[Operand.tmp 54, Operand.tmp 56, Operand.tmp 57, Operand.tmp 61, Operand.tmp 62], argTypes := #[23, 3, 3, 23, 24] }, type := 26, pos := "law.go:69", after := #[{ on := 3, ground := Ground.data }, { on := 5, ground := Ground.data }, { on := 6, ground := Ground.data }, { on := 10, ground := Ground.data }, { on := 11, ground := Ground.data }, { on := 2, ground := Ground.chain }, { on := 2, ground := Ground.guard }], guard := some (2, true) }) (v := undef) rfl (by kernel_rfl) (by kernel_rfl) (by kernel_rfl) (fun _ _ _ h => h) (Or.inr ⟨by rfl, rfl⟩) hHeld ?_
      try simp only [Act.put, List.setIfInBounds_toArray, List.set_cons_zero, List.set_cons_succ]
      refine wpAnyH_take (i := 13) (oi := { dst := some 64, op := Op.binOp BinOp.neq 26 (Operand.tmp 63) (Operand.const (Value.int IntKind.i64 0)) 26, type := 4, pos := "law.go:69", after := #[{ on := 12, ground := Ground.data }, { on := 2, ground := Ground.guard }], guard := some (2, true) }) (v := undef) rfl (by kernel_rfl) (by kernel_rfl) (by kernel_rfl) (fun _ _ _ h => h) (Or.inr ⟨by rfl, rfl⟩) hHeld ?_
      try simp only [Act.put, List.setIfInBounds_toArray, List.set_cons_zero, List.set_cons_succ]
      refine wpAnyH_take (i := 14) (oi := { dst := some 65, op := Op.pick (Operand.tmp 53) (Operand.tmp 64) (Operand.const (Value.bool false)), type := 4, pos := "law.go:69", after := #[{ on := 2, ground := Ground.data }, { on := 13, ground := Ground.data }], guard := none }) (v := .bool false) rfl (by kernel_rfl) (by kernel_rfl) (by kernel_rfl) (fun _ _ _ h => h) (Or.inl ⟨by rfl, by intro w hSw; go_simp⟩) hHeld ?_
      try simp only [Act.put, List.setIfInBounds_toArray, List.set_cons_zero, List.set_cons_succ]
      refine wpAnyH_done (by kernel_rfl) ?_ _
      have H8 := hidk (H5.out.1.drew)
      clear hHeld H5
      go_wp2
      refine wp_region_held_drew (S := (fun W => True)) (by kernel_rfl) trivial (fun hHeld => ?_)
      refine wpAnyH_ready (rs := [0]) (by kernel_rfl) (by simp) ?_
      refine AllReadyH.cons (o := { dst := some 66, op := Op.call { callee := Callee.value (Operand.func 11), args := #[], argTypes := #[] }, type := 4, pos := "law.go:72", after := #[], guard := none }) rfl (fun K hK => ?_) AllReadyH.nil
      go_simp
      refine (TH.out _ H8.out.drew).mono ?_
      rintro e w6 ⟨rfl, hb6⟩
      have H9 : Hid (Below w.heap.size w w6) := H8.out.drew.trans (hb6.mono H8.out.size)
      go_wp2_with fail
      refine hK.out _ _ trivial (fun hHeld => ?_)
      clear hK K
      try simp only [Act.put, List.setIfInBounds_toArray, List.set_cons_zero, List.set_cons_succ]
      refine wpAnyH_take (i := 1) (oi := { dst := some 67, op := Op.move (Operand.tmp 66), type := 4, pos := "law.go:72", after := #[{ on := 0, ground := Ground.data }, { on := 0, ground := Ground.chain }], guard := none }) (v := .bool true) rfl (by kernel_rfl) (by kernel_rfl) (by kernel_rfl) (fun _ _ _ h => h) (Or.inl ⟨by rfl, by intro w hSw; go_simp⟩) hHeld ?_
      try simp only [Act.put, List.setIfInBounds_toArray, List.set_cons_zero, List.set_cons_succ]
      refine wpAnyH_take (i := 2) (oi := { dst := some 68, op := Op.move (Operand.tmp 8), type := 26, pos := "law.go:72", after := #[{ on := 1, ground := Ground.guard }], guard := some (1, true) }) (v := .int .i64 21) rfl (by kernel_rfl) (by kernel_rfl) (by kernel_rfl) (fun _ _ _ h => h) (Or.inl ⟨by rfl, by intro w hSw; go_simp⟩) hHeld ?_
      try simp only [Act.put, List.setIfInBounds_toArray, List.set_cons_zero, List.set_cons_succ]
      refine wpAnyH_take (i := 3) (oi := { dst := some 69, op := Op.binOp BinOp.neq 26 (Operand.tmp 68) (Operand.const (Value.int IntKind.i64 0)) 26, type := 4, pos := "law.go:72", after := #[{ on := 2, ground := Ground.data }, { on := 1, ground := Ground.guard }], guard := some (1, true) }) (v := .bool true) rfl (by kernel_rfl) (by kernel_rfl) (by kernel_rfl) (fun _ _ _ h => h) (Or.inl ⟨by rfl, by intro w hSw; go_simp⟩) hHeld ?_
      try simp only [Act.put, List.setIfInBounds_toArray, List.set_cons_zero, List.set_cons_succ]
      refine wpAnyH_take (i := 4) (oi := { dst := some 70, op := Op.move (Operand.tmp 69), type := 4, pos := "law.go:72", after := #[{ on := 3, ground := Ground.data }, { on := 1, ground := Ground.chain }, { on := 1, ground := Ground.guard }], guard := some (1, true) }) (v := .bool true) rfl (by kernel_rfl) (by kernel_rfl) (by kernel_rfl) (fun _ _ _ h => h) (Or.inl ⟨by rfl, by intro w hSw; go_simp⟩) hHeld ?_
      try simp only [Act.put, List.setIfInBounds_toArray, List.set_cons_zero, List.set_cons_succ]
      refine wpAnyH_take (i := 5) (oi := { dst := some 71, op := Op.move (Operand.tmp 1), type := 3, pos := "law.go:72", after := #[{ on := 4, ground := Ground.guard }], guard := some (4, false) }) (v := undef) rfl (by kernel_rfl) (by kernel_rfl) (by kernel_rfl) (fun _ _ _ h => h) (Or.inr ⟨by rfl, rfl⟩) hHeld ?_
      try simp only [Act.put, List.setIfInBounds_toArray, List.set_cons_zero, List.set_cons_succ]
      refine wpAnyH_take (i := 6) (oi := { dst := some 72, op := Op.move (Operand.tmp 0), type := 24, pos := "law.go:72", after := #[{ on := 4, ground := Ground.guard }], guard := some (4, false) }) (v := undef) rfl (by kernel_rfl) (by kernel_rfl) (by kernel_rfl) (fun _ _ _ h => h) (Or.inr ⟨by rfl, rfl⟩) hHeld ?_
      try simp only [Act.put, List.setIfInBounds_toArray, List.set_cons_zero, List.set_cons_succ]
      refine wpAnyH_take (i := 7) (oi := { dst := some 73, op := Op.move (Operand.tmp 1), type := 3, pos := "law.go:72", after := #[{ on := 4, ground := Ground.guard }], guard := some (4, false) }) (v := undef) rfl (by kernel_rfl) (by kernel_rfl) (by kernel_rfl) (fun _ _ _ h => h) (Or.inr ⟨by rfl, rfl⟩) hHeld ?_
      try simp only [Act.put, List.setIfInBounds_toArray, List.set_cons_zero, List.set_cons_succ]
      refine wpAnyH_take (i := 8) (oi := { dst := some 74, op := Op.slice 24 (Operand.tmp 72) none (some (Operand.tmp 73)) none, type := 24, pos := "law.go:72", after := #[{ on := 6, ground := Ground.data }, { on := 7, ground := Ground.data }, { on := 4, ground := Ground.guard }], guard := some (4, false) }) (v := undef) rfl (by kernel_rfl) (by kernel_rfl) (by kernel_rfl) (fun _ _ _ h => h) (Or.inr ⟨by rfl, rfl⟩) hHeld ?_
      try simp only [Act.put, List.setIfInBounds_toArray, List.set_cons_zero, List.set_cons_succ]
      refine wpAnyH_take (i := 9) (oi := { dst := some 75, op := Op.call { callee := Callee.value (Operand.func 20), args := #[Operand.tmp 74], argTypes := #[24] }, type := 23, pos := "law.go:72", after := #[{ on := 8, ground := Ground.data }, { on := 4, ground := Ground.chain }, { on := 4, ground := Ground.guard }], guard := some (4, false) }) (v := undef) rfl (by kernel_rfl) (by kernel_rfl) (by kernel_rfl) (fun _ _ _ h => h) (Or.inr ⟨by rfl, rfl⟩) hHeld ?_
      try simp only [Act.put, List.setIfInBounds_toArray, List.set_cons_zero, List.set_cons_succ]
      refine wpAnyH_take (i := 10) (oi := { dst := some 76, op := Op.move (Operand.tmp 0), type := 24, pos := "law.go:72", after := #[{ on := 4, ground := Ground.guard }], guard := some (4, false) }) (v := undef) rfl (by kernel_rfl) (by kernel_rfl) (by kernel_rfl) (fun _ _ _ h => h) (Or.inr ⟨by rfl, rfl⟩) hHeld ?_
      try simp only [Act.put, List.setIfInBounds_toArray, List.set_cons_zero, List.set_cons_succ]
      refine wpAnyH_take (i := 11) (oi := { dst := some 77, op := Op.call { callee := Callee.builtin Builtin.len, args := #[Operand.tmp 76], argTypes := #[24] }, type := 3, pos := "law.go:72", after := #[{ on := 10, ground := Ground.data }, { on := 4, ground := Ground.guard }], guard := some (4, false) }) (v := undef) rfl (by kernel_rfl) (by kernel_rfl) (by kernel_rfl) (fun _ _ _ h => h) (Or.inr ⟨by rfl, rfl⟩) hHeld ?_
      try simp only [Act.put, List.setIfInBounds_toArray, List.set_cons_zero, List.set_cons_succ]
      refine wpAnyH_take (i := 12) (oi := { dst := some 78, op := Op.load 23 (Operand.tmp 9), type := 23, pos := "law.go:72", after := #[{ on := 4, ground := Ground.guard }], guard := some (4, false) }) (v := undef) rfl (by kernel_rfl) (by kernel_rfl) (by kernel_rfl) (fun _ _ _ h => h) (Or.inr ⟨by rfl, rfl⟩) hHeld ?_
      try simp only [Act.put, List.setIfInBounds_toArray, List.set_cons_zero, List.set_cons_succ]
      refine wpAnyH_take (i := 13) (oi := { dst := some 79, op := Op.move (Operand.tmp 7), type := 24, pos := "law.go:72", after := #[{ on := 4, ground := Ground.guard }], guard := some (4, false) }) (v := undef) rfl (by kernel_rfl) (by kernel_rfl) (by kernel_rfl) (fun _ _ _ h => h) (Or.inr ⟨by rfl, rfl⟩) hHeld ?_
      try simp only [Act.put, List.setIfInBounds_toArray, List.set_cons_zero, List.set_cons_succ]
      refine wpAnyH_take (i := 14) (oi := { dst := some 80, op := Op.call { callee := Callee.value (Operand.func 14), args := #[Operand.tmp 71, Operand.tmp 75, Operand.tmp 77, Operand.tmp 78, Operand.tmp 79], argTypes := #[3, 23, 3, 23, 24] }, type := 26, pos := "law.go:72", after := #[{ on := 5, ground := Ground.data }, { on := 9, ground := Ground.data }, { on := 11, ground := Ground.data }, { on := 12, ground := Ground.data }, { on := 13, ground := Ground.data }, { on := 9, ground := Ground.chain }, { on := 4, ground := Ground.guard }], guard := some (4, false) }) (v := undef) rfl (by kernel_rfl) (by kernel_rfl) (by kernel_rfl) (fun _ _ _ h => h) (Or.inr ⟨by rfl, rfl⟩) hHeld ?_
      try simp only [Act.put, List.setIfInBounds_toArray, List.set_cons_zero, List.set_cons_succ]
      refine wpAnyH_take (i := 15) (oi := { dst := some 81, op := Op.binOp BinOp.eql 26 (Operand.tmp 80) (Operand.const (Value.int IntKind.i64 0)) 26, type := 4, pos := "law.go:72", after := #[{ on := 14, ground := Ground.data }, { on := 4, ground := Ground.guard }], guard := some (4, false) }) (v := undef) rfl (by kernel_rfl) (by kernel_rfl) (by kernel_rfl) (fun _ _ _ h => h) (Or.inr ⟨by rfl, rfl⟩) hHeld ?_
      try simp only [Act.put, List.setIfInBounds_toArray, List.set_cons_zero, List.set_cons_succ]
      refine wpAnyH_take (i := 16) (oi := { dst := some 82, op := Op.pick (Operand.tmp 70) (Operand.const (Value.bool true)) (Operand.tmp 81), type := 4, pos := "law.go:72", after := #[{ on := 4, ground := Ground.data }, { on := 15, ground := Ground.data }, { on := 1, ground := Ground.guard }], guard := some (1, true) }) (v := .bool true) rfl (by kernel_rfl) (by kernel_rfl) (by kernel_rfl) (fun _ _ _ h => h) (Or.inl ⟨by rfl, by intro w hSw; go_simp⟩) hHeld ?_
      try simp only [Act.put, List.setIfInBounds_toArray, List.set_cons_zero, List.set_cons_succ]
      refine wpAnyH_take (i := 17) (oi := { dst := some 83, op := Op.pick (Operand.tmp 67) (Operand.tmp 82) (Operand.const (Value.bool false)), type := 4, pos := "law.go:72", after := #[{ on := 1, ground := Ground.data }, { on := 16, ground := Ground.data }], guard := none }) (v := .bool true) rfl (by kernel_rfl) (by kernel_rfl) (by kernel_rfl) (fun _ _ _ h => h) (Or.inl ⟨by rfl, by intro w hSw; go_simp⟩) hHeld ?_
      try simp only [Act.put, List.setIfInBounds_toArray, List.set_cons_zero, List.set_cons_succ]
      refine wpAnyH_take (i := 18) (oi := { dst := some 4, op := Op.assign (Operand.tmp 83), type := 4, pos := "law.go:72", after := #[{ on := 17, ground := Ground.data }, { on := 14, ground := Ground.chain }, { on := 0, ground := Ground.phase }, { on := 1, ground := Ground.phase }, { on := 2, ground := Ground.phase }, { on := 3, ground := Ground.phase }, { on := 4, ground := Ground.phase }, { on := 5, ground := Ground.phase }, { on := 6, ground := Ground.phase }, { on := 7, ground := Ground.phase }, { on := 8, ground := Ground.phase }, { on := 9, ground := Ground.phase }, { on := 10, ground := Ground.phase }, { on := 11, ground := Ground.phase }, { on := 12, ground := Ground.phase }, { on := 13, ground := Ground.phase }, { on := 14, ground := Ground.phase }, { on := 15, ground := Ground.phase }, { on := 16, ground := Ground.phase }, { on := 17, ground := Ground.phase }], guard := none }) (v := .bool true) rfl (by kernel_rfl) (by kernel_rfl) (by kernel_rfl) (fun _ _ _ h => h) (Or.inl ⟨by rfl, by intro w hSw; go_simp⟩) hHeld ?_
      try simp only [Act.put, List.setIfInBounds_toArray, List.set_cons_zero, List.set_cons_succ]
      refine wpAnyH_done (by kernel_rfl) ?_ _
      clear hHeld
      go_wp2
      go_ret
      exact ⟨rfl, H9.out⟩
  · obtain ⟨i, rfl⟩ : ∃ i : Nat, a1 = i := ⟨a1.toNat, by omega⟩
    obtain ⟨a', sl, hsl⟩ := slice_first w0 i (by omega)
    obtain ⟨O, HO, HSO, _, _⟩ := dig_row' (root (z0.take i)) (root_length sumD_length _ (w0.2.1.take i))
    have RO : Hid (∀ W, Below w.heap.size w W → Calls Tryd.prog 20 #[.slice a' i cap0] W fun e w' => e = .returned (.agg O) ∧ Below W.heap.size W w') := fun W hb => root_any i a' i cap0 (z0.take i) W rfl (hsl W (w0.keep hb)) (hK.keep hb).sha O HO
    obtain ⟨nq, Hnq⟩ : ∃ n, Hid (n = (goesW z0 i).length) := ⟨_, (rfl : _ = _)⟩
    have CO : Hid (∀ W, Below w.heap.size w W → Calls Tryd.prog 19 #[.slice a0 len0 cap0, .int .i64 i] W fun e w' => ∃ x cx, e = .returned (.tuple #[.slice x nq cx, .int .i64 0]) ∧ LReads w' x nq cx (goesW z0 i) ∧ Below W.heap.size W w') := fun W hb => by
      rw [Hnq.out]; exact goes_call a0 len0 cap0 z0 i W (w0.keep hb) (by omega) (by omega) (hK.keep hb).sha
    have CN : Hid (∀ W x cx, Below w.heap.size w W → LReads W x nq cx (goesW z0 i) → Calls Tryd.prog 14 #[.int .i64 i, .agg O, .int .i64 len0, .agg R, .slice x nq cx] W fun e w' => e = .returned (.int .i64 0) ∧ Below W.heap.size W w') := fun W x cx hb hx => by
      have := ck.consistent i (root (z0.take i)) len0 (root z0) (goesW z0 i) x nq cx W O R HO HR (root_length sumD_length _ (w0.2.1.take i)) (root_length sumD_length z0 w0.2.1) (by omega) (by omega) hx (hK.keep hb)
      have e := con_finds z0 i (by omega) (by omega)
      rw [hlen] at e
      rwa [e] at this
    by_cases hlt : i < len0
    · obtain ⟨g, o, rfl, hg⟩ := w0.at (by omega)
      have hil : i < z0.length := by omega
      obtain ⟨X, HX, HSX, _, H32X⟩ := dig_row' z0[i] (w0.2.1 _ (List.getElem_mem hil))
      obtain ⟨L, hL⟩ : ∃ L : List Value, X = L.toArray := ⟨X.toList, by simp⟩
      have EL : L = cellsOf z0[i] := List.toArray_inj (by rw [← hL]; exact HX.out)
      have zL : (Tryd.prog.info? 23).map (·.size) = some L.length := by rw [size23, EL, cellsOf_length, w0.2.1 _ (List.getElem_mem hil)]
      have HRG : Hid (∀ W, Below w.heap.size w W → W.rangeAt g (o + 32 * i) L) := fun W hb => by rw [EL]; exact (w0.keep hb).range i hil
      have ix := fun W => index_list W g o len0 cap0 i .i64 hlt
      obtain ⟨np, Hnp⟩ : ∃ n, Hid (n = (incl z0 i).length) := ⟨_, (rfl : _ = _)⟩
      have IN : Hid (∀ W, Below w.heap.size w W → Calls Tryd.prog 18 #[.slice (some ⟨g, o, none⟩) len0 cap0, .int .i64 i] W fun e w' => ∃ x cx, e = .returned (.tuple #[.slice x np cx, .int .i64 0]) ∧ LReads w' x np cx (incl z0 i) ∧ Below W.heap.size W w') := fun W hb => by
        rw [Hnp.out]; exact incl_call _ len0 cap0 z0 i W (w0.keep hb) hlt (by omega) (hK.keep hb).sha
      have NC : Hid (∀ W x cx, Below w.heap.size w W → LReads W x np cx (incl z0 i) → Calls Tryd.prog 10 #[.agg R, .int .i64 len0, .int .i64 i, .agg L.toArray, .slice x np cx] W fun e w' => e = .returned (.int .i64 0) ∧ Below W.heap.size W w') := fun W x cx hb hx => by
        rw [hL] at HX
        have := ck.included (root z0) len0 i z0[i] (incl z0 i) x np cx W R L.toArray HR HX (root_length sumD_length z0 w0.2.1) (w0.2.1 _ (List.getElem_mem hil)) (by omega) (by omega) hx (hK.keep hb)
        have e := inc_finds z0 i hil (by omega)
        rw [hlen] at e
        rwa [e] at this
      have k1 : decide ((0 : Int) ≤ (i : Int)) = true := by rw [decide_eq_true_eq]; omega
      have k2 : decide ((i : Int) < (len0 : Int)) = true := by rw [decide_eq_true_eq]; omega
      have k3 : decide ((i : Int) ≤ (len0 : Int)) = true := by rw [decide_eq_true_eq]; omega
      have k4 : i ≤ len0 := by omega
      have hi9 : i ≤ 9223372036854775807 := by omega
      clear hK w0 ck HR hout hlong HO hsl hL EL HX hil Hnp Hnq
      go_enter Tryd.func6, Tryd.ntmps6
      go_wp2_with fail
      refine (IN.out _ (Below.refl _ _)).mono ?_
      rintro e w1 ⟨xp, cp, rfl, hp1, hb1⟩
      have H1w : Hid (Below w.heap.size w w1 ∧ LReads w1 xp np cp (incl z0 i)) := ⟨hb1, hp1⟩
      clear hb1 hp1 IN
      go_wp2_with fail
      refine (CO.out _ H1w.out.1).mono ?_
      rintro e w2 ⟨xq, cq, rfl, hq2, hb2⟩
      have H2 : Hid (Below w.heap.size w w2 ∧ LReads w2 xp np cp (incl z0 i) ∧ LReads w2 xq nq cq (goesW z0 i)) := ⟨H1w.out.1.trans (hb2.mono H1w.out.1.size), H1w.out.2.keep hb2, hq2⟩
      clear hb2 hq2 CO H1w
      go_wp2_with fail
      refine (RT.out _ H2.out.1).mono ?_
      rintro e w3 ⟨rfl, hb3⟩
      have H3 : Hid (Below w.heap.size w w3 ∧ LReads w3 xp np cp (incl z0 i) ∧ LReads w3 xq nq cq (goesW z0 i)) := ⟨H2.out.1.trans (hb3.mono H2.out.1.size), H2.out.2.1.keep hb3, H2.out.2.2.keep hb3⟩
      clear hb3 RT H2
      go_wp2_with (first
        | (show wpList _ _ _ ({ dst := some 9, op := _, type := _, pos := _, after := _, guard := _ } :: _) _ _; refine wpList_new_row rfl rfl 23 rfl (.tmp 9) (.tmp 26) rfl Z R HA.out (fun _ => by simp [Act.put, Act.eval]) (fun _ => by simp [Act.put, Act.eval]) HSR.out HZR.out H1R.out ?_; intro gR w5 F5; try simp only [Act.put, List.setIfInBounds_toArray, List.set_cons_zero, List.set_cons_succ])
        | fail)
      have H5 : Hid (Below w.heap.size w w5 ∧ w5.heap[gR]? = some (.cells R 23 (0, 0)) ∧ LReads w5 xp np cp (incl z0 i) ∧ LReads w5 xq nq cq (goesW z0 i)) := ⟨H3.out.1.trans (F5.out.2.2.mono H3.out.1.size), F5.out.2.1, H3.out.2.1.keep F5.out.2.2, H3.out.2.2.keep F5.out.2.2⟩
      clear F5 H3
      refine wp_region_held_drew (S := (fun W => W.heap[gR]? = some (.cells R 23 (0, 0)) ∧ W.rangeAt g (o + 32 * i) L)) (by kernel_rfl) (show _ ∧ _ from ⟨H5.out.2.1, range_keep (Below.refl _ _).drew (HRG.out _ H5.out.1)⟩) (fun hHeld => ?_)
      refine wpAnyH_take (i := 0) (oi := { dst := some 51, op := Op.move (Operand.tmp 6), type := 26, pos := "law.go:69", after := #[], guard := none }) (v := .int .i64 0) rfl (by kernel_rfl) (by kernel_rfl) (by kernel_rfl) (fun _ _ _ h => h) (Or.inl ⟨by rfl, by intro w hSw; go_simp⟩) hHeld ?_
      try simp only [Act.put, List.setIfInBounds_toArray, List.set_cons_zero, List.set_cons_succ]
      refine wpAnyH_take (i := 1) (oi := { dst := some 52, op := Op.binOp BinOp.eql 26 (Operand.tmp 51) (Operand.const (Value.int IntKind.i64 0)) 26, type := 4, pos := "law.go:69", after := #[{ on := 0, ground := Ground.data }], guard := none }) (v := .bool true) rfl (by kernel_rfl) (by kernel_rfl) (by kernel_rfl) (fun _ _ _ h => h) (Or.inl ⟨by rfl, by intro w hSw; go_simp⟩) hHeld ?_
      try simp only [Act.put, List.setIfInBounds_toArray, List.set_cons_zero, List.set_cons_succ]
      refine wpAnyH_take (i := 2) (oi := { dst := some 53, op := Op.move (Operand.tmp 52), type := 4, pos := "law.go:69", after := #[{ on := 1, ground := Ground.data }], guard := none }) (v := .bool true) rfl (by kernel_rfl) (by kernel_rfl) (by kernel_rfl) (fun _ _ _ h => h) (Or.inl ⟨by rfl, by intro w hSw; go_simp⟩) hHeld ?_
      try simp only [Act.put, List.setIfInBounds_toArray, List.set_cons_zero, List.set_cons_succ]
      refine wpAnyH_take (i := 3) (oi := { dst := some 54, op := Op.load 23 (Operand.tmp 9), type := 23, pos := "law.go:69", after := #[{ on := 2, ground := Ground.guard }], guard := some (2, true) }) (v := .agg R) rfl (by kernel_rfl) (by kernel_rfl) (by kernel_rfl) (fun _ _ _ h => h) (yieldsIf_row (by rfl) 23 (.tmp 9) rfl gR rfl 23 R (0, 0) _ (fun _ h => h.1) Tryd.underlying23 rfl HSR.out) hHeld ?_
      try simp only [Act.put, List.setIfInBounds_toArray, List.set_cons_zero, List.set_cons_succ]
      refine wpAnyH_take (i := 4) (oi := { dst := some 55, op := Op.move (Operand.tmp 0), type := 24, pos := "law.go:69", after := #[{ on := 2, ground := Ground.guard }], guard := some (2, true) }) (v := .slice (some ⟨g, o, none⟩) len0 cap0) rfl (by kernel_rfl) (by kernel_rfl) (by kernel_rfl) (fun _ _ _ h => h) (Or.inl ⟨by rfl, by intro w hSw; go_simp⟩) hHeld ?_
      try simp only [Act.put, List.setIfInBounds_toArray, List.set_cons_zero, List.set_cons_succ]
      refine wpAnyH_take (i := 5) (oi := { dst := some 56, op := Op.call { callee := Callee.builtin Builtin.len, args := #[Operand.tmp 55], argTypes := #[24] }, type := 3, pos := "law.go:69", after := #[{ on := 4, ground := Ground.data }, { on := 2, ground := Ground.guard }], guard := some (2, true) }) (v := .int .i64 len0) rfl (by kernel_rfl) (by kernel_rfl) (by kernel_rfl) (fun _ _ _ h => h) (Or.inl ⟨by rfl, by intro w hSw; go_simp⟩) hHeld ?_
      try simp only [Act.put, List.setIfInBounds_toArray, List.set_cons_zero, List.set_cons_succ]
      refine wpAnyH_take (i := 6) (oi := { dst := some 57, op := Op.move (Operand.tmp 1), type := 3, pos := "law.go:69", after := #[{ on := 2, ground := Ground.guard }], guard := some (2, true) }) (v := .int .i64 i) rfl (by kernel_rfl) (by kernel_rfl) (by kernel_rfl) (fun _ _ _ h => h) (Or.inl ⟨by rfl, by intro w hSw; go_simp⟩) hHeld ?_
      try simp only [Act.put, List.setIfInBounds_toArray, List.set_cons_zero, List.set_cons_succ]
      refine wpAnyH_take (i := 7) (oi := { dst := some 58, op := Op.move (Operand.tmp 0), type := 24, pos := "law.go:69", after := #[{ on := 2, ground := Ground.guard }], guard := some (2, true) }) (v := .slice (some ⟨g, o, none⟩) len0 cap0) rfl (by kernel_rfl) (by kernel_rfl) (by kernel_rfl) (fun _ _ _ h => h) (Or.inl ⟨by rfl, by intro w hSw; go_simp⟩) hHeld ?_
      try simp only [Act.put, List.setIfInBounds_toArray, List.set_cons_zero, List.set_cons_succ]
      refine wpAnyH_take (i := 8) (oi := { dst := some 59, op := Op.move (Operand.tmp 1), type := 3, pos := "law.go:69", after := #[{ on := 2, ground := Ground.guard }], guard := some (2, true) }) (v := .int .i64 i) rfl (by kernel_rfl) (by kernel_rfl) (by kernel_rfl) (fun _ _ _ h => h) (Or.inl ⟨by rfl, by intro w hSw; go_simp⟩) hHeld ?_
      try simp only [Act.put, List.setIfInBounds_toArray, List.set_cons_zero, List.set_cons_succ]
      refine wpAnyH_take (i := 9) (oi := { dst := some 60, op := Op.indexAddr 24 (Operand.tmp 58) (Operand.tmp 59), type := 0, pos := "law.go:69", after := #[{ on := 7, ground := Ground.data }, { on := 8, ground := Ground.data }, { on := 2, ground := Ground.guard }], guard := some (2, true) }) (v := .pointer (some ⟨g, o + 32 * i, none⟩)) rfl (by kernel_rfl) (by kernel_rfl) (by kernel_rfl) (fun _ _ _ h => h) (Or.inl ⟨by rfl, by intro W hSw; have := ix W; go_simp⟩) hHeld ?_
      try simp only [Act.put, List.setIfInBounds_toArray, List.set_cons_zero, List.set_cons_succ]
      refine wpAnyH_take (i := 10) (oi := { dst := some 61, op := Op.load 23 (Operand.tmp 60), type := 23, pos := "law.go:69", after := #[{ on := 9, ground := Ground.data }, { on := 2, ground := Ground.guard }], guard := some (2, true) }) (v := .agg L.toArray) rfl (by kernel_rfl) (by kernel_rfl) (by kernel_rfl) (fun _ _ _ h => h) (yieldsIf_load_mid (by rfl) 23 (.tmp 60) rfl _ _ rfl L _ (fun _ h => h.2) Tryd.underlying23 rfl zL) hHeld ?_
      try simp only [Act.put, List.setIfInBounds_toArray, List.set_cons_zero, List.set_cons_succ]
      refine wpAnyH_take (i := 11) (oi := { dst := some 62, op := Op.move (Operand.tmp 5), type := 24, pos := "law.go:69", after := #[{ on := 2, ground := Ground.guard }], guard := some (2, true) }) (v := .slice xp np cp) rfl (by kernel_rfl) (by kernel_rfl) (by kernel_rfl) (fun _ _ _ h => h) (Or.inl ⟨by rfl, by intro w hSw; go_simp⟩) hHeld ?_
      try simp only [Act.put, List.setIfInBounds_toArray, List.set_cons_zero, List.set_cons_succ]
      refine wpAnyH_ready (rs := [12]) (by kernel_rfl) (by simp) ?_
      refine AllReadyH.cons (o := { dst := some 63, op := Op.call { callee := Callee.value (Operand.func 10), args := #[Operand.tmp 54, Operand.tmp 56, Operand.tmp 57, Operand.tmp 61, Operand.tmp 62], argTypes := #[23, 3, 3, 23, 24] }, type := 26, pos := "law.go:69", after := #[{ on := 3, ground := Ground.data }, { on := 5, ground := Ground.data }, { on := 6, ground := Ground.data }, { on := 10, ground := Ground.data }, { on := 11, ground := Ground.data }, { on := 2, ground := Ground.chain }, { on := 2, ground := Ground.guard }], guard := some (2, true) }) rfl (fun K hK => ?_) AllReadyH.nil
      go_simp
      refine (NC.out _ _ _ H5.out.1.drew (H5.out.2.2.1.keep (Below.refl _ _).drew)).mono ?_
      rintro e w8 ⟨rfl, hb8⟩
      have H8 : Hid (Below w.heap.size w w8 ∧ w8.heap[gR]? = some (.cells R 23 (0, 0)) ∧ LReads w8 xq nq cq (goesW z0 i)) := ⟨H5.out.1.drew.trans (hb8.mono H5.out.1.size), (hb8.block _ (heap_lt hHeld.1)).trans hHeld.1, (H5.out.2.2.2.keep (Below.refl _ _).drew).keep hb8⟩
      go_wp2_with fail
      refine hK.out _ _ ⟨(hb8.block _ (heap_lt hHeld.1)).trans hHeld.1, range_keep hb8 hHeld.2⟩ (fun hHeld => ?_)
      clear hK K
      try simp only [Act.put, List.setIfInBounds_toArray, List.set_cons_zero, List.set_cons_succ]
      refine wpAnyH_take (i := 13) (oi := { dst := some 64, op := Op.binOp BinOp.neq 26 (Operand.tmp 63) (Operand.const (Value.int IntKind.i64 0)) 26, type := 4, pos := "law.go:69", after := #[{ on := 12, ground := Ground.data }, { on := 2, ground := Ground.guard }], guard := some (2, true) }) (v := .bool false) rfl (by kernel_rfl) (by kernel_rfl) (by kernel_rfl) (fun _ _ _ h => h) (Or.inl ⟨by rfl, by intro w hSw; go_simp⟩) hHeld ?_
      try simp only [Act.put, List.setIfInBounds_toArray, List.set_cons_zero, List.set_cons_succ]
      refine wpAnyH_take (i := 14) (oi := { dst := some 65, op := Op.pick (Operand.tmp 53) (Operand.tmp 64) (Operand.const (Value.bool false)), type := 4, pos := "law.go:69", after := #[{ on := 2, ground := Ground.data }, { on := 13, ground := Ground.data }], guard := none }) (v := .bool false) rfl (by kernel_rfl) (by kernel_rfl) (by kernel_rfl) (fun _ _ _ h => h) (Or.inl ⟨by rfl, by intro w hSw; go_simp⟩) hHeld ?_
      try simp only [Act.put, List.setIfInBounds_toArray, List.set_cons_zero, List.set_cons_succ]
      refine wpAnyH_done (by kernel_rfl) ?_ _
      clear hHeld H5 hb8
      go_wp2
      refine wp_region_held_drew (S := (fun W => W.heap[gR]? = some (.cells R 23 (0, 0)))) (by kernel_rfl) (show w8.drew.heap[gR]? = _ from H8.out.2.1) (fun hHeld => ?_)
      refine wpAnyH_ready (rs := [0]) (by kernel_rfl) (by simp) ?_
      refine AllReadyH.cons (o := { dst := some 66, op := Op.call { callee := Callee.value (Operand.func 11), args := #[], argTypes := #[] }, type := 4, pos := "law.go:72", after := #[], guard := none }) rfl (fun K hK => ?_) AllReadyH.nil
      go_simp
      refine (TH.out _ H8.out.1.drew).mono ?_
      rintro e w9 ⟨rfl, hb9⟩
      have H9 : Hid (Below w.heap.size w w9 ∧ LReads w9 xq nq cq (goesW z0 i)) := ⟨H8.out.1.drew.trans (hb9.mono H8.out.1.size), (H8.out.2.2.keep (Below.refl _ _).drew).keep hb9⟩
      go_wp2_with fail
      refine hK.out _ _ ((hb9.block _ (heap_lt hHeld)).trans hHeld) (fun hHeld => ?_)
      clear hK K
      try simp only [Act.put, List.setIfInBounds_toArray, List.set_cons_zero, List.set_cons_succ]
      refine wpAnyH_take (i := 1) (oi := { dst := some 67, op := Op.move (Operand.tmp 66), type := 4, pos := "law.go:72", after := #[{ on := 0, ground := Ground.data }, { on := 0, ground := Ground.chain }], guard := none }) (v := .bool true) rfl (by kernel_rfl) (by kernel_rfl) (by kernel_rfl) (fun _ _ _ h => h) (Or.inl ⟨by rfl, by intro w hSw; go_simp⟩) hHeld ?_
      try simp only [Act.put, List.setIfInBounds_toArray, List.set_cons_zero, List.set_cons_succ]
      refine wpAnyH_take (i := 2) (oi := { dst := some 68, op := Op.move (Operand.tmp 8), type := 26, pos := "law.go:72", after := #[{ on := 1, ground := Ground.guard }], guard := some (1, true) }) (v := .int .i64 0) rfl (by kernel_rfl) (by kernel_rfl) (by kernel_rfl) (fun _ _ _ h => h) (Or.inl ⟨by rfl, by intro w hSw; go_simp⟩) hHeld ?_
      try simp only [Act.put, List.setIfInBounds_toArray, List.set_cons_zero, List.set_cons_succ]
      refine wpAnyH_take (i := 3) (oi := { dst := some 69, op := Op.binOp BinOp.neq 26 (Operand.tmp 68) (Operand.const (Value.int IntKind.i64 0)) 26, type := 4, pos := "law.go:72", after := #[{ on := 2, ground := Ground.data }, { on := 1, ground := Ground.guard }], guard := some (1, true) }) (v := .bool false) rfl (by kernel_rfl) (by kernel_rfl) (by kernel_rfl) (fun _ _ _ h => h) (Or.inl ⟨by rfl, by intro w hSw; go_simp⟩) hHeld ?_
      try simp only [Act.put, List.setIfInBounds_toArray, List.set_cons_zero, List.set_cons_succ]
      refine wpAnyH_take (i := 4) (oi := { dst := some 70, op := Op.move (Operand.tmp 69), type := 4, pos := "law.go:72", after := #[{ on := 3, ground := Ground.data }, { on := 1, ground := Ground.chain }, { on := 1, ground := Ground.guard }], guard := some (1, true) }) (v := .bool false) rfl (by kernel_rfl) (by kernel_rfl) (by kernel_rfl) (fun _ _ _ h => h) (Or.inl ⟨by rfl, by intro w hSw; go_simp⟩) hHeld ?_
      try simp only [Act.put, List.setIfInBounds_toArray, List.set_cons_zero, List.set_cons_succ]
      refine wpAnyH_take (i := 5) (oi := { dst := some 71, op := Op.move (Operand.tmp 1), type := 3, pos := "law.go:72", after := #[{ on := 4, ground := Ground.guard }], guard := some (4, false) }) (v := .int .i64 i) rfl (by kernel_rfl) (by kernel_rfl) (by kernel_rfl) (fun _ _ _ h => h) (Or.inl ⟨by rfl, by intro w hSw; go_simp⟩) hHeld ?_
      try simp only [Act.put, List.setIfInBounds_toArray, List.set_cons_zero, List.set_cons_succ]
      refine wpAnyH_take (i := 6) (oi := { dst := some 72, op := Op.move (Operand.tmp 0), type := 24, pos := "law.go:72", after := #[{ on := 4, ground := Ground.guard }], guard := some (4, false) }) (v := .slice (some ⟨g, o, none⟩) len0 cap0) rfl (by kernel_rfl) (by kernel_rfl) (by kernel_rfl) (fun _ _ _ h => h) (Or.inl ⟨by rfl, by intro w hSw; go_simp⟩) hHeld ?_
      try simp only [Act.put, List.setIfInBounds_toArray, List.set_cons_zero, List.set_cons_succ]
      refine wpAnyH_take (i := 7) (oi := { dst := some 73, op := Op.move (Operand.tmp 1), type := 3, pos := "law.go:72", after := #[{ on := 4, ground := Ground.guard }], guard := some (4, false) }) (v := .int .i64 i) rfl (by kernel_rfl) (by kernel_rfl) (by kernel_rfl) (fun _ _ _ h => h) (Or.inl ⟨by rfl, by intro w hSw; go_simp⟩) hHeld ?_
      try simp only [Act.put, List.setIfInBounds_toArray, List.set_cons_zero, List.set_cons_succ]
      refine wpAnyH_take (i := 8) (oi := { dst := some 74, op := Op.slice 24 (Operand.tmp 72) none (some (Operand.tmp 73)) none, type := 24, pos := "law.go:72", after := #[{ on := 6, ground := Ground.data }, { on := 7, ground := Ground.data }, { on := 4, ground := Ground.guard }], guard := some (4, false) }) (v := .slice a' i cap0) rfl (by kernel_rfl) (by kernel_rfl) (by kernel_rfl) (fun _ _ _ h => h) (Or.inl ⟨by rfl, by intro W hSw; have := sl W; go_simp⟩) hHeld ?_
      try simp only [Act.put, List.setIfInBounds_toArray, List.set_cons_zero, List.set_cons_succ]
      refine wpAnyH_take (i := 10) (oi := { dst := some 76, op := Op.move (Operand.tmp 0), type := 24, pos := "law.go:72", after := #[{ on := 4, ground := Ground.guard }], guard := some (4, false) }) (v := .slice (some ⟨g, o, none⟩) len0 cap0) rfl (by kernel_rfl) (by kernel_rfl) (by kernel_rfl) (fun _ _ _ h => h) (Or.inl ⟨by rfl, by intro w hSw; go_simp⟩) hHeld ?_
      try simp only [Act.put, List.setIfInBounds_toArray, List.set_cons_zero, List.set_cons_succ]
      refine wpAnyH_take (i := 11) (oi := { dst := some 77, op := Op.call { callee := Callee.builtin Builtin.len, args := #[Operand.tmp 76], argTypes := #[24] }, type := 3, pos := "law.go:72", after := #[{ on := 10, ground := Ground.data }, { on := 4, ground := Ground.guard }], guard := some (4, false) }) (v := .int .i64 len0) rfl (by kernel_rfl) (by kernel_rfl) (by kernel_rfl) (fun _ _ _ h => h) (Or.inl ⟨by rfl, by intro w hSw; go_simp⟩) hHeld ?_
      try simp only [Act.put, List.setIfInBounds_toArray, List.set_cons_zero, List.set_cons_succ]
      refine wpAnyH_take (i := 12) (oi := { dst := some 78, op := Op.load 23 (Operand.tmp 9), type := 23, pos := "law.go:72", after := #[{ on := 4, ground := Ground.guard }], guard := some (4, false) }) (v := .agg R) rfl (by kernel_rfl) (by kernel_rfl) (by kernel_rfl) (fun _ _ _ h => h) (yieldsIf_row (by rfl) 23 (.tmp 9) rfl gR rfl 23 R (0, 0) _ (fun _ h => h) Tryd.underlying23 rfl HSR.out) hHeld ?_
      try simp only [Act.put, List.setIfInBounds_toArray, List.set_cons_zero, List.set_cons_succ]
      refine wpAnyH_take (i := 13) (oi := { dst := some 79, op := Op.move (Operand.tmp 7), type := 24, pos := "law.go:72", after := #[{ on := 4, ground := Ground.guard }], guard := some (4, false) }) (v := .slice xq nq cq) rfl (by kernel_rfl) (by kernel_rfl) (by kernel_rfl) (fun _ _ _ h => h) (Or.inl ⟨by rfl, by intro w hSw; go_simp⟩) hHeld ?_
      try simp only [Act.put, List.setIfInBounds_toArray, List.set_cons_zero, List.set_cons_succ]
      refine wpAnyH_ready (rs := [9]) (by kernel_rfl) (by simp) ?_
      refine AllReadyH.cons (o := { dst := some 75, op := Op.call { callee := Callee.value (Operand.func 20), args := #[Operand.tmp 74], argTypes := #[24] }, type := 23, pos := "law.go:72", after := #[{ on := 8, ground := Ground.data }, { on := 4, ground := Ground.chain }, { on := 4, ground := Ground.guard }], guard := some (4, false) }) rfl (fun K hK => ?_) AllReadyH.nil
      go_simp
      refine (RO.out _ H9.out.1).mono ?_
      rintro e w10 ⟨rfl, hb10⟩
      have H10 : Hid (Below w.heap.size w w10 ∧ LReads w10 xq nq cq (goesW z0 i)) := ⟨H9.out.1.trans (hb10.mono H9.out.1.size), H9.out.2.keep hb10⟩
      go_wp2_with fail
      refine hK.out _ _ ((hb10.block _ (heap_lt hHeld)).trans hHeld) (fun hHeld => ?_)
      clear hK K
      try simp only [Act.put, List.setIfInBounds_toArray, List.set_cons_zero, List.set_cons_succ]
      refine wpAnyH_ready (rs := [14]) (by kernel_rfl) (by simp) ?_
      refine AllReadyH.cons (o := { dst := some 80, op := Op.call { callee := Callee.value (Operand.func 14), args := #[Operand.tmp 71, Operand.tmp 75, Operand.tmp 77, Operand.tmp 78, Operand.tmp 79], argTypes := #[3, 23, 3, 23, 24] }, type := 26, pos := "law.go:72", after := #[{ on := 5, ground := Ground.data }, { on := 9, ground := Ground.data }, { on := 11, ground := Ground.data }, { on := 12, ground := Ground.data }, { on := 13, ground := Ground.data }, { on := 9, ground := Ground.chain }, { on := 4, ground := Ground.guard }], guard := some (4, false) }) rfl (fun K hK => ?_) AllReadyH.nil
      go_simp
      refine (CN.out _ _ _ H10.out.1 H10.out.2).mono ?_
      rintro e w11 ⟨rfl, hb11⟩
      have H11 : Hid (Below w.heap.size w w11) := H10.out.1.trans (hb11.mono H10.out.1.size)
      go_wp2_with fail
      refine hK.out _ _ ((hb11.block _ (heap_lt hHeld)).trans hHeld) (fun hHeld => ?_)
      clear hK K
      try simp only [Act.put, List.setIfInBounds_toArray, List.set_cons_zero, List.set_cons_succ]
      refine wpAnyH_take (i := 15) (oi := { dst := some 81, op := Op.binOp BinOp.eql 26 (Operand.tmp 80) (Operand.const (Value.int IntKind.i64 0)) 26, type := 4, pos := "law.go:72", after := #[{ on := 14, ground := Ground.data }, { on := 4, ground := Ground.guard }], guard := some (4, false) }) (v := .bool true) rfl (by kernel_rfl) (by kernel_rfl) (by kernel_rfl) (fun _ _ _ h => h) (Or.inl ⟨by rfl, by intro w hSw; go_simp⟩) hHeld ?_
      try simp only [Act.put, List.setIfInBounds_toArray, List.set_cons_zero, List.set_cons_succ]
      refine wpAnyH_take (i := 16) (oi := { dst := some 82, op := Op.pick (Operand.tmp 70) (Operand.const (Value.bool true)) (Operand.tmp 81), type := 4, pos := "law.go:72", after := #[{ on := 4, ground := Ground.data }, { on := 15, ground := Ground.data }, { on := 1, ground := Ground.guard }], guard := some (1, true) }) (v := .bool true) rfl (by kernel_rfl) (by kernel_rfl) (by kernel_rfl) (fun _ _ _ h => h) (Or.inl ⟨by rfl, by intro w hSw; go_simp⟩) hHeld ?_
      try simp only [Act.put, List.setIfInBounds_toArray, List.set_cons_zero, List.set_cons_succ]
      refine wpAnyH_take (i := 17) (oi := { dst := some 83, op := Op.pick (Operand.tmp 67) (Operand.tmp 82) (Operand.const (Value.bool false)), type := 4, pos := "law.go:72", after := #[{ on := 1, ground := Ground.data }, { on := 16, ground := Ground.data }], guard := none }) (v := .bool true) rfl (by kernel_rfl) (by kernel_rfl) (by kernel_rfl) (fun _ _ _ h => h) (Or.inl ⟨by rfl, by intro w hSw; go_simp⟩) hHeld ?_
      try simp only [Act.put, List.setIfInBounds_toArray, List.set_cons_zero, List.set_cons_succ]
      refine wpAnyH_take (i := 18) (oi := { dst := some 4, op := Op.assign (Operand.tmp 83), type := 4, pos := "law.go:72", after := #[{ on := 17, ground := Ground.data }, { on := 14, ground := Ground.chain }, { on := 0, ground := Ground.phase }, { on := 1, ground := Ground.phase }, { on := 2, ground := Ground.phase }, { on := 3, ground := Ground.phase }, { on := 4, ground := Ground.phase }, { on := 5, ground := Ground.phase }, { on := 6, ground := Ground.phase }, { on := 7, ground := Ground.phase }, { on := 8, ground := Ground.phase }, { on := 9, ground := Ground.phase }, { on := 10, ground := Ground.phase }, { on := 11, ground := Ground.phase }, { on := 12, ground := Ground.phase }, { on := 13, ground := Ground.phase }, { on := 14, ground := Ground.phase }, { on := 15, ground := Ground.phase }, { on := 16, ground := Ground.phase }, { on := 17, ground := Ground.phase }], guard := none }) (v := .bool true) rfl (by kernel_rfl) (by kernel_rfl) (by kernel_rfl) (fun _ _ _ h => h) (Or.inl ⟨by rfl, by intro w hSw; go_simp⟩) hHeld ?_
      try simp only [Act.put, List.setIfInBounds_toArray, List.set_cons_zero, List.set_cons_succ]
      refine wpAnyH_done (by kernel_rfl) ?_ _
      clear hHeld
      go_wp2
      go_ret
      exact ⟨rfl, H11.out⟩
    · obtain rfl : i = len0 := by omega
      have IN : Hid (∀ W, Calls Tryd.prog 18 #[.slice a0 i cap0, .int .i64 i] W fun e w' => e = .returned (.tuple #[.slice none 0 0, .int .i64 20]) ∧ Below W.heap.size W w') := fun W => inclusion_out a0 i cap0 i W w0.2.2.2.1 (by omega)
      have k1 : decide ((0 : Int) ≤ (i : Int)) = true := by rw [decide_eq_true_eq]; omega
      have k2 : decide ((i : Int) < (i : Int)) = false := by rw [decide_eq_false_iff_not]; omega
      have k3 : decide ((i : Int) ≤ (i : Int)) = true := by rw [decide_eq_true_eq]; omega
      have hi9 : i ≤ 9223372036854775807 := by omega
      clear hK w0 ck HR hout hlong HO hsl Hnq
      go_enter Tryd.func6, Tryd.ntmps6
      go_wp2_with fail
      refine (IN.out _).mono ?_
      rintro e w1 ⟨rfl, hb1⟩
      have H1w : Hid (Below w.heap.size w w1 ∧ True) := ⟨hb1, trivial⟩
      clear hb1 IN
      go_wp2_with fail
      refine (CO.out _ H1w.out.1).mono ?_
      rintro e w2 ⟨xq, cq, rfl, hq2, hb2⟩
      have H2 : Hid (Below w.heap.size w w2 ∧ LReads w2 xq nq cq (goesW z0 i)) := ⟨H1w.out.1.trans (hb2.mono H1w.out.1.size), hq2⟩
      clear hb2 hq2 CO H1w
      go_wp2_with fail
      refine (RT.out _ H2.out.1).mono ?_
      rintro e w3 ⟨rfl, hb3⟩
      have H3 : Hid (Below w.heap.size w w3 ∧ LReads w3 xq nq cq (goesW z0 i)) := ⟨H2.out.1.trans (hb3.mono H2.out.1.size), H2.out.2.keep hb3⟩
      clear hb3 RT H2
      go_wp2_with (first
        | (show wpList _ _ _ ({ dst := some 9, op := _, type := _, pos := _, after := _, guard := _ } :: _) _ _; refine wpList_new_row rfl rfl 23 rfl (.tmp 9) (.tmp 26) rfl Z R HA.out (fun _ => by simp [Act.put, Act.eval]) (fun _ => by simp [Act.put, Act.eval]) HSR.out HZR.out H1R.out ?_; intro gR w5 F5; try simp only [Act.put, List.setIfInBounds_toArray, List.set_cons_zero, List.set_cons_succ])
        | fail)
      have H5 : Hid (Below w.heap.size w w5 ∧ w5.heap[gR]? = some (.cells R 23 (0, 0)) ∧ LReads w5 xq nq cq (goesW z0 i)) := ⟨H3.out.1.trans (F5.out.2.2.mono H3.out.1.size), F5.out.2.1, H3.out.2.keep F5.out.2.2⟩
      clear F5 H3
      refine wp_region_held_drew (S := (fun W => W.heap[gR]? = some (.cells R 23 (0, 0)))) (by kernel_rfl) (show w5.drew.heap[gR]? = _ from H5.out.2.1) (fun hHeld => ?_)
      refine wpAnyH_take (i := 0) (oi := { dst := some 51, op := Op.move (Operand.tmp 6), type := 26, pos := "law.go:69", after := #[], guard := none }) (v := .int .i64 20) rfl (by kernel_rfl) (by kernel_rfl) (by kernel_rfl) (fun _ _ _ h => h) (Or.inl ⟨by rfl, by intro w hSw; go_simp⟩) hHeld ?_
      try simp only [Act.put, List.setIfInBounds_toArray, List.set_cons_zero, List.set_cons_succ]
      refine wpAnyH_take (i := 1) (oi := { dst := some 52, op := Op.binOp BinOp.eql 26 (Operand.tmp 51) (Operand.const (Value.int IntKind.i64 0)) 26, type := 4, pos := "law.go:69", after := #[{ on := 0, ground := Ground.data }], guard := none }) (v := .bool false) rfl (by kernel_rfl) (by kernel_rfl) (by kernel_rfl) (fun _ _ _ h => h) (Or.inl ⟨by rfl, by intro w hSw; go_simp⟩) hHeld ?_
      try simp only [Act.put, List.setIfInBounds_toArray, List.set_cons_zero, List.set_cons_succ]
      refine wpAnyH_take (i := 2) (oi := { dst := some 53, op := Op.move (Operand.tmp 52), type := 4, pos := "law.go:69", after := #[{ on := 1, ground := Ground.data }], guard := none }) (v := .bool false) rfl (by kernel_rfl) (by kernel_rfl) (by kernel_rfl) (fun _ _ _ h => h) (Or.inl ⟨by rfl, by intro w hSw; go_simp⟩) hHeld ?_
      try simp only [Act.put, List.setIfInBounds_toArray, List.set_cons_zero, List.set_cons_succ]
      refine wpAnyH_take (i := 3) (oi := { dst := some 54, op := Op.load 23 (Operand.tmp 9), type := 23, pos := "law.go:69", after := #[{ on := 2, ground := Ground.guard }], guard := some (2, true) }) (v := undef) rfl (by kernel_rfl) (by kernel_rfl) (by kernel_rfl) (fun _ _ _ h => h) (Or.inr ⟨by rfl, rfl⟩) hHeld ?_
      try simp only [Act.put, List.setIfInBounds_toArray, List.set_cons_zero, List.set_cons_succ]
      refine wpAnyH_take (i := 4) (oi := { dst := some 55, op := Op.move (Operand.tmp 0), type := 24, pos := "law.go:69", after := #[{ on := 2, ground := Ground.guard }], guard := some (2, true) }) (v := undef) rfl (by kernel_rfl) (by kernel_rfl) (by kernel_rfl) (fun _ _ _ h => h) (Or.inr ⟨by rfl, rfl⟩) hHeld ?_
      try simp only [Act.put, List.setIfInBounds_toArray, List.set_cons_zero, List.set_cons_succ]
      refine wpAnyH_take (i := 5) (oi := { dst := some 56, op := Op.call { callee := Callee.builtin Builtin.len, args := #[Operand.tmp 55], argTypes := #[24] }, type := 3, pos := "law.go:69", after := #[{ on := 4, ground := Ground.data }, { on := 2, ground := Ground.guard }], guard := some (2, true) }) (v := undef) rfl (by kernel_rfl) (by kernel_rfl) (by kernel_rfl) (fun _ _ _ h => h) (Or.inr ⟨by rfl, rfl⟩) hHeld ?_
      try simp only [Act.put, List.setIfInBounds_toArray, List.set_cons_zero, List.set_cons_succ]
      refine wpAnyH_take (i := 6) (oi := { dst := some 57, op := Op.move (Operand.tmp 1), type := 3, pos := "law.go:69", after := #[{ on := 2, ground := Ground.guard }], guard := some (2, true) }) (v := undef) rfl (by kernel_rfl) (by kernel_rfl) (by kernel_rfl) (fun _ _ _ h => h) (Or.inr ⟨by rfl, rfl⟩) hHeld ?_
      try simp only [Act.put, List.setIfInBounds_toArray, List.set_cons_zero, List.set_cons_succ]
      refine wpAnyH_take (i := 7) (oi := { dst := some 58, op := Op.move (Operand.tmp 0), type := 24, pos := "law.go:69", after := #[{ on := 2, ground := Ground.guard }], guard := some (2, true) }) (v := undef) rfl (by kernel_rfl) (by kernel_rfl) (by kernel_rfl) (fun _ _ _ h => h) (Or.inr ⟨by rfl, rfl⟩) hHeld ?_
      try simp only [Act.put, List.setIfInBounds_toArray, List.set_cons_zero, List.set_cons_succ]
      refine wpAnyH_take (i := 8) (oi := { dst := some 59, op := Op.move (Operand.tmp 1), type := 3, pos := "law.go:69", after := #[{ on := 2, ground := Ground.guard }], guard := some (2, true) }) (v := undef) rfl (by kernel_rfl) (by kernel_rfl) (by kernel_rfl) (fun _ _ _ h => h) (Or.inr ⟨by rfl, rfl⟩) hHeld ?_
      try simp only [Act.put, List.setIfInBounds_toArray, List.set_cons_zero, List.set_cons_succ]
      refine wpAnyH_take (i := 9) (oi := { dst := some 60, op := Op.indexAddr 24 (Operand.tmp 58) (Operand.tmp 59), type := 0, pos := "law.go:69", after := #[{ on := 7, ground := Ground.data }, { on := 8, ground := Ground.data }, { on := 2, ground := Ground.guard }], guard := some (2, true) }) (v := undef) rfl (by kernel_rfl) (by kernel_rfl) (by kernel_rfl) (fun _ _ _ h => h) (Or.inr ⟨by rfl, rfl⟩) hHeld ?_
      try simp only [Act.put, List.setIfInBounds_toArray, List.set_cons_zero, List.set_cons_succ]
      refine wpAnyH_take (i := 10) (oi := { dst := some 61, op := Op.load 23 (Operand.tmp 60), type := 23, pos := "law.go:69", after := #[{ on := 9, ground := Ground.data }, { on := 2, ground := Ground.guard }], guard := some (2, true) }) (v := undef) rfl (by kernel_rfl) (by kernel_rfl) (by kernel_rfl) (fun _ _ _ h => h) (Or.inr ⟨by rfl, rfl⟩) hHeld ?_
      try simp only [Act.put, List.setIfInBounds_toArray, List.set_cons_zero, List.set_cons_succ]
      refine wpAnyH_take (i := 11) (oi := { dst := some 62, op := Op.move (Operand.tmp 5), type := 24, pos := "law.go:69", after := #[{ on := 2, ground := Ground.guard }], guard := some (2, true) }) (v := undef) rfl (by kernel_rfl) (by kernel_rfl) (by kernel_rfl) (fun _ _ _ h => h) (Or.inr ⟨by rfl, rfl⟩) hHeld ?_
      try simp only [Act.put, List.setIfInBounds_toArray, List.set_cons_zero, List.set_cons_succ]
      refine wpAnyH_take (i := 12) (oi := { dst := some 63, op := Op.call { callee := Callee.value (Operand.func 10), args := #[Operand.tmp 54, Operand.tmp 56, Operand.tmp 57, Operand.tmp 61, Operand.tmp 62], argTypes := #[23, 3, 3, 23, 24] }, type := 26, pos := "law.go:69", after := #[{ on := 3, ground := Ground.data }, { on := 5, ground := Ground.data }, { on := 6, ground := Ground.data }, { on := 10, ground := Ground.data }, { on := 11, ground := Ground.data }, { on := 2, ground := Ground.chain }, { on := 2, ground := Ground.guard }], guard := some (2, true) }) (v := undef) rfl (by kernel_rfl) (by kernel_rfl) (by kernel_rfl) (fun _ _ _ h => h) (Or.inr ⟨by rfl, rfl⟩) hHeld ?_
      try simp only [Act.put, List.setIfInBounds_toArray, List.set_cons_zero, List.set_cons_succ]
      refine wpAnyH_take (i := 13) (oi := { dst := some 64, op := Op.binOp BinOp.neq 26 (Operand.tmp 63) (Operand.const (Value.int IntKind.i64 0)) 26, type := 4, pos := "law.go:69", after := #[{ on := 12, ground := Ground.data }, { on := 2, ground := Ground.guard }], guard := some (2, true) }) (v := undef) rfl (by kernel_rfl) (by kernel_rfl) (by kernel_rfl) (fun _ _ _ h => h) (Or.inr ⟨by rfl, rfl⟩) hHeld ?_
      try simp only [Act.put, List.setIfInBounds_toArray, List.set_cons_zero, List.set_cons_succ]
      refine wpAnyH_take (i := 14) (oi := { dst := some 65, op := Op.pick (Operand.tmp 53) (Operand.tmp 64) (Operand.const (Value.bool false)), type := 4, pos := "law.go:69", after := #[{ on := 2, ground := Ground.data }, { on := 13, ground := Ground.data }], guard := none }) (v := .bool false) rfl (by kernel_rfl) (by kernel_rfl) (by kernel_rfl) (fun _ _ _ h => h) (Or.inl ⟨by rfl, by intro w hSw; go_simp⟩) hHeld ?_
      try simp only [Act.put, List.setIfInBounds_toArray, List.set_cons_zero, List.set_cons_succ]
      refine wpAnyH_done (by kernel_rfl) ?_ _
      have H8 := hidk ((show Below w.heap.size w w5.drew ∧ w5.drew.heap[gR]? = some (.cells R 23 (0, 0)) ∧ LReads w5.drew xq nq cq (goesW z0 i) from ⟨H5.out.1.drew, H5.out.2.1, H5.out.2.2.keep (Below.refl _ _).drew⟩))
      clear hHeld H5
      go_wp2
      refine wp_region_held_drew (S := (fun W => W.heap[gR]? = some (.cells R 23 (0, 0)))) (by kernel_rfl) (show w5.drew.drew.heap[gR]? = _ from H8.out.2.1) (fun hHeld => ?_)
      refine wpAnyH_ready (rs := [0]) (by kernel_rfl) (by simp) ?_
      refine AllReadyH.cons (o := { dst := some 66, op := Op.call { callee := Callee.value (Operand.func 11), args := #[], argTypes := #[] }, type := 4, pos := "law.go:72", after := #[], guard := none }) rfl (fun K hK => ?_) AllReadyH.nil
      go_simp
      refine (TH.out _ H8.out.1.drew).mono ?_
      rintro e w9 ⟨rfl, hb9⟩
      have H9 : Hid (Below w.heap.size w w9 ∧ LReads w9 xq nq cq (goesW z0 i)) := ⟨H8.out.1.drew.trans (hb9.mono H8.out.1.size), (H8.out.2.2.keep (Below.refl _ _).drew).keep hb9⟩
      go_wp2_with fail
      refine hK.out _ _ ((hb9.block _ (heap_lt hHeld)).trans hHeld) (fun hHeld => ?_)
      clear hK K
      try simp only [Act.put, List.setIfInBounds_toArray, List.set_cons_zero, List.set_cons_succ]
      refine wpAnyH_take (i := 1) (oi := { dst := some 67, op := Op.move (Operand.tmp 66), type := 4, pos := "law.go:72", after := #[{ on := 0, ground := Ground.data }, { on := 0, ground := Ground.chain }], guard := none }) (v := .bool true) rfl (by kernel_rfl) (by kernel_rfl) (by kernel_rfl) (fun _ _ _ h => h) (Or.inl ⟨by rfl, by intro w hSw; go_simp⟩) hHeld ?_
      try simp only [Act.put, List.setIfInBounds_toArray, List.set_cons_zero, List.set_cons_succ]
      refine wpAnyH_take (i := 2) (oi := { dst := some 68, op := Op.move (Operand.tmp 8), type := 26, pos := "law.go:72", after := #[{ on := 1, ground := Ground.guard }], guard := some (1, true) }) (v := .int .i64 0) rfl (by kernel_rfl) (by kernel_rfl) (by kernel_rfl) (fun _ _ _ h => h) (Or.inl ⟨by rfl, by intro w hSw; go_simp⟩) hHeld ?_
      try simp only [Act.put, List.setIfInBounds_toArray, List.set_cons_zero, List.set_cons_succ]
      refine wpAnyH_take (i := 3) (oi := { dst := some 69, op := Op.binOp BinOp.neq 26 (Operand.tmp 68) (Operand.const (Value.int IntKind.i64 0)) 26, type := 4, pos := "law.go:72", after := #[{ on := 2, ground := Ground.data }, { on := 1, ground := Ground.guard }], guard := some (1, true) }) (v := .bool false) rfl (by kernel_rfl) (by kernel_rfl) (by kernel_rfl) (fun _ _ _ h => h) (Or.inl ⟨by rfl, by intro w hSw; go_simp⟩) hHeld ?_
      try simp only [Act.put, List.setIfInBounds_toArray, List.set_cons_zero, List.set_cons_succ]
      refine wpAnyH_take (i := 4) (oi := { dst := some 70, op := Op.move (Operand.tmp 69), type := 4, pos := "law.go:72", after := #[{ on := 3, ground := Ground.data }, { on := 1, ground := Ground.chain }, { on := 1, ground := Ground.guard }], guard := some (1, true) }) (v := .bool false) rfl (by kernel_rfl) (by kernel_rfl) (by kernel_rfl) (fun _ _ _ h => h) (Or.inl ⟨by rfl, by intro w hSw; go_simp⟩) hHeld ?_
      try simp only [Act.put, List.setIfInBounds_toArray, List.set_cons_zero, List.set_cons_succ]
      refine wpAnyH_take (i := 5) (oi := { dst := some 71, op := Op.move (Operand.tmp 1), type := 3, pos := "law.go:72", after := #[{ on := 4, ground := Ground.guard }], guard := some (4, false) }) (v := .int .i64 i) rfl (by kernel_rfl) (by kernel_rfl) (by kernel_rfl) (fun _ _ _ h => h) (Or.inl ⟨by rfl, by intro w hSw; go_simp⟩) hHeld ?_
      try simp only [Act.put, List.setIfInBounds_toArray, List.set_cons_zero, List.set_cons_succ]
      refine wpAnyH_take (i := 6) (oi := { dst := some 72, op := Op.move (Operand.tmp 0), type := 24, pos := "law.go:72", after := #[{ on := 4, ground := Ground.guard }], guard := some (4, false) }) (v := .slice a0 i cap0) rfl (by kernel_rfl) (by kernel_rfl) (by kernel_rfl) (fun _ _ _ h => h) (Or.inl ⟨by rfl, by intro w hSw; go_simp⟩) hHeld ?_
      try simp only [Act.put, List.setIfInBounds_toArray, List.set_cons_zero, List.set_cons_succ]
      refine wpAnyH_take (i := 7) (oi := { dst := some 73, op := Op.move (Operand.tmp 1), type := 3, pos := "law.go:72", after := #[{ on := 4, ground := Ground.guard }], guard := some (4, false) }) (v := .int .i64 i) rfl (by kernel_rfl) (by kernel_rfl) (by kernel_rfl) (fun _ _ _ h => h) (Or.inl ⟨by rfl, by intro w hSw; go_simp⟩) hHeld ?_
      try simp only [Act.put, List.setIfInBounds_toArray, List.set_cons_zero, List.set_cons_succ]
      refine wpAnyH_take (i := 8) (oi := { dst := some 74, op := Op.slice 24 (Operand.tmp 72) none (some (Operand.tmp 73)) none, type := 24, pos := "law.go:72", after := #[{ on := 6, ground := Ground.data }, { on := 7, ground := Ground.data }, { on := 4, ground := Ground.guard }], guard := some (4, false) }) (v := .slice a' i cap0) rfl (by kernel_rfl) (by kernel_rfl) (by kernel_rfl) (fun _ _ _ h => h) (Or.inl ⟨by rfl, by intro W hSw; have := sl W; go_simp⟩) hHeld ?_
      try simp only [Act.put, List.setIfInBounds_toArray, List.set_cons_zero, List.set_cons_succ]
      refine wpAnyH_take (i := 10) (oi := { dst := some 76, op := Op.move (Operand.tmp 0), type := 24, pos := "law.go:72", after := #[{ on := 4, ground := Ground.guard }], guard := some (4, false) }) (v := .slice a0 i cap0) rfl (by kernel_rfl) (by kernel_rfl) (by kernel_rfl) (fun _ _ _ h => h) (Or.inl ⟨by rfl, by intro w hSw; go_simp⟩) hHeld ?_
      try simp only [Act.put, List.setIfInBounds_toArray, List.set_cons_zero, List.set_cons_succ]
      refine wpAnyH_take (i := 11) (oi := { dst := some 77, op := Op.call { callee := Callee.builtin Builtin.len, args := #[Operand.tmp 76], argTypes := #[24] }, type := 3, pos := "law.go:72", after := #[{ on := 10, ground := Ground.data }, { on := 4, ground := Ground.guard }], guard := some (4, false) }) (v := .int .i64 i) rfl (by kernel_rfl) (by kernel_rfl) (by kernel_rfl) (fun _ _ _ h => h) (Or.inl ⟨by rfl, by intro w hSw; go_simp⟩) hHeld ?_
      try simp only [Act.put, List.setIfInBounds_toArray, List.set_cons_zero, List.set_cons_succ]
      refine wpAnyH_take (i := 12) (oi := { dst := some 78, op := Op.load 23 (Operand.tmp 9), type := 23, pos := "law.go:72", after := #[{ on := 4, ground := Ground.guard }], guard := some (4, false) }) (v := .agg R) rfl (by kernel_rfl) (by kernel_rfl) (by kernel_rfl) (fun _ _ _ h => h) (yieldsIf_row (by rfl) 23 (.tmp 9) rfl gR rfl 23 R (0, 0) _ (fun _ h => h) Tryd.underlying23 rfl HSR.out) hHeld ?_
      try simp only [Act.put, List.setIfInBounds_toArray, List.set_cons_zero, List.set_cons_succ]
      refine wpAnyH_take (i := 13) (oi := { dst := some 79, op := Op.move (Operand.tmp 7), type := 24, pos := "law.go:72", after := #[{ on := 4, ground := Ground.guard }], guard := some (4, false) }) (v := .slice xq nq cq) rfl (by kernel_rfl) (by kernel_rfl) (by kernel_rfl) (fun _ _ _ h => h) (Or.inl ⟨by rfl, by intro w hSw; go_simp⟩) hHeld ?_
      try simp only [Act.put, List.setIfInBounds_toArray, List.set_cons_zero, List.set_cons_succ]
      refine wpAnyH_ready (rs := [9]) (by kernel_rfl) (by simp) ?_
      refine AllReadyH.cons (o := { dst := some 75, op := Op.call { callee := Callee.value (Operand.func 20), args := #[Operand.tmp 74], argTypes := #[24] }, type := 23, pos := "law.go:72", after := #[{ on := 8, ground := Ground.data }, { on := 4, ground := Ground.chain }, { on := 4, ground := Ground.guard }], guard := some (4, false) }) rfl (fun K hK => ?_) AllReadyH.nil
      go_simp
      refine (RO.out _ H9.out.1).mono ?_
      rintro e w10 ⟨rfl, hb10⟩
      have H10 : Hid (Below w.heap.size w w10 ∧ LReads w10 xq nq cq (goesW z0 i)) := ⟨H9.out.1.trans (hb10.mono H9.out.1.size), H9.out.2.keep hb10⟩
      go_wp2_with fail
      refine hK.out _ _ ((hb10.block _ (heap_lt hHeld)).trans hHeld) (fun hHeld => ?_)
      clear hK K
      try simp only [Act.put, List.setIfInBounds_toArray, List.set_cons_zero, List.set_cons_succ]
      refine wpAnyH_ready (rs := [14]) (by kernel_rfl) (by simp) ?_
      refine AllReadyH.cons (o := { dst := some 80, op := Op.call { callee := Callee.value (Operand.func 14), args := #[Operand.tmp 71, Operand.tmp 75, Operand.tmp 77, Operand.tmp 78, Operand.tmp 79], argTypes := #[3, 23, 3, 23, 24] }, type := 26, pos := "law.go:72", after := #[{ on := 5, ground := Ground.data }, { on := 9, ground := Ground.data }, { on := 11, ground := Ground.data }, { on := 12, ground := Ground.data }, { on := 13, ground := Ground.data }, { on := 9, ground := Ground.chain }, { on := 4, ground := Ground.guard }], guard := some (4, false) }) rfl (fun K hK => ?_) AllReadyH.nil
      go_simp
      refine (CN.out _ _ _ H10.out.1 H10.out.2).mono ?_
      rintro e w11 ⟨rfl, hb11⟩
      have H11 : Hid (Below w.heap.size w w11) := H10.out.1.trans (hb11.mono H10.out.1.size)
      go_wp2_with fail
      refine hK.out _ _ ((hb11.block _ (heap_lt hHeld)).trans hHeld) (fun hHeld => ?_)
      clear hK K
      try simp only [Act.put, List.setIfInBounds_toArray, List.set_cons_zero, List.set_cons_succ]
      refine wpAnyH_take (i := 15) (oi := { dst := some 81, op := Op.binOp BinOp.eql 26 (Operand.tmp 80) (Operand.const (Value.int IntKind.i64 0)) 26, type := 4, pos := "law.go:72", after := #[{ on := 14, ground := Ground.data }, { on := 4, ground := Ground.guard }], guard := some (4, false) }) (v := .bool true) rfl (by kernel_rfl) (by kernel_rfl) (by kernel_rfl) (fun _ _ _ h => h) (Or.inl ⟨by rfl, by intro w hSw; go_simp⟩) hHeld ?_
      try simp only [Act.put, List.setIfInBounds_toArray, List.set_cons_zero, List.set_cons_succ]
      refine wpAnyH_take (i := 16) (oi := { dst := some 82, op := Op.pick (Operand.tmp 70) (Operand.const (Value.bool true)) (Operand.tmp 81), type := 4, pos := "law.go:72", after := #[{ on := 4, ground := Ground.data }, { on := 15, ground := Ground.data }, { on := 1, ground := Ground.guard }], guard := some (1, true) }) (v := .bool true) rfl (by kernel_rfl) (by kernel_rfl) (by kernel_rfl) (fun _ _ _ h => h) (Or.inl ⟨by rfl, by intro w hSw; go_simp⟩) hHeld ?_
      try simp only [Act.put, List.setIfInBounds_toArray, List.set_cons_zero, List.set_cons_succ]
      refine wpAnyH_take (i := 17) (oi := { dst := some 83, op := Op.pick (Operand.tmp 67) (Operand.tmp 82) (Operand.const (Value.bool false)), type := 4, pos := "law.go:72", after := #[{ on := 1, ground := Ground.data }, { on := 16, ground := Ground.data }], guard := none }) (v := .bool true) rfl (by kernel_rfl) (by kernel_rfl) (by kernel_rfl) (fun _ _ _ h => h) (Or.inl ⟨by rfl, by intro w hSw; go_simp⟩) hHeld ?_
      try simp only [Act.put, List.setIfInBounds_toArray, List.set_cons_zero, List.set_cons_succ]
      refine wpAnyH_take (i := 18) (oi := { dst := some 4, op := Op.assign (Operand.tmp 83), type := 4, pos := "law.go:72", after := #[{ on := 17, ground := Ground.data }, { on := 14, ground := Ground.chain }, { on := 0, ground := Ground.phase }, { on := 1, ground := Ground.phase }, { on := 2, ground := Ground.phase }, { on := 3, ground := Ground.phase }, { on := 4, ground := Ground.phase }, { on := 5, ground := Ground.phase }, { on := 6, ground := Ground.phase }, { on := 7, ground := Ground.phase }, { on := 8, ground := Ground.phase }, { on := 9, ground := Ground.phase }, { on := 10, ground := Ground.phase }, { on := 11, ground := Ground.phase }, { on := 12, ground := Ground.phase }, { on := 13, ground := Ground.phase }, { on := 14, ground := Ground.phase }, { on := 15, ground := Ground.phase }, { on := 16, ground := Ground.phase }, { on := 17, ground := Ground.phase }], guard := none }) (v := .bool true) rfl (by kernel_rfl) (by kernel_rfl) (by kernel_rfl) (fun _ _ _ h => h) (Or.inl ⟨by rfl, by intro w hSw; go_simp⟩) hHeld ?_
      try simp only [Act.put, List.setIfInBounds_toArray, List.set_cons_zero, List.set_cons_succ]
      refine wpAnyH_done (by kernel_rfl) ?_ _
      clear hHeld
      go_wp2
      go_ret
      exact ⟨rfl, H11.out⟩
end Go.Proofs.YtehfoeedlchphaaDoor
