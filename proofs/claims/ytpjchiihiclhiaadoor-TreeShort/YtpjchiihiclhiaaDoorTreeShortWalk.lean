/- TreeShort answers true at every list and place. -/
import Derived.Test.YtpjchiihiclhiaaDoorThree
namespace Go.Proofs.YtpjchiihiclhiaaDoor
open Go.RowKit Sums
set_option linter.unusedVariables false
set_option linter.unusedSimpArgs false

set_option maxHeartbeats 4000000 in
theorem treeShort_0_0 (a0 : Option Addr) (len0 cap0 : Nat) (z0 : List (List UInt8)) (a1 : Int) (w : World) (w0 : LReads w a0 len0 cap0 z0) (hlong : len0 ≤ 200) (m1 m2 : Nat)
    (IC : Hid (∀ W, Below w.heap.size w W → Calls Tryd.prog 16 #[.slice a0 len0 cap0, .int .i64 a1] W fun e w' => ∃ y cy, e = .returned (.tuple #[.slice y m1 cy, .int .i64 0]) ∧ Below W.heap.size W w'))
    (CC : Hid (∀ W, Below w.heap.size w W → Calls Tryd.prog 18 #[.slice a0 len0 cap0, .int .i64 a1] W fun e w' => ∃ y cy, e = .returned (.tuple #[.slice y m2 cy, .int .i64 0]) ∧ Below W.heap.size W w'))
    (hm1 : ∀ j, len0 ≤ 2 ^ j → m1 ≤ j) (hm2 : ∀ j, len0 ≤ 2 ^ j → m2 ≤ j + 1) (hK : Table 1 w) :
    Calls Tryd.prog 6 #[.slice a0 len0 cap0, .int .i64 a1] w fun e w' => e = .returned (.bool true) ∧ Below w.heap.size w w' := by
  have hd : decide ((200 : Int) < (len0 : Int)) = false := by rw [decide_eq_false_iff_not]; omega
  have T : Hid (∀ W, Below w.heap.size w W → Calls Tryd.prog 10 #[] W fun e w' => e = .returned (.bool true) ∧ Below W.heap.size W w') := fun W hb => three_true W (hK.keep hb)
  by_cases h2 : len0 < 2
  · have S : Hid (∀ W, Calls Tryd.prog 13 #[.int .i64 len0] W fun e w' => e = .returned (.int .i64 0) ∧ W = w') := fun W => by
      have := split_any (len0 : Int) W (by omega)
      rw [Int.toNat_natCast, split_small len0 h2] at this
      exact this
    clear hK w0
    go_enter Tryd.func6, Tryd.ntmps6
    go_wp2
    go_loopw [5, 6] (fun u v wr => ∃ j n : Nat, u = .int .i64 j ∧ v = .int .i64 n ∧ Hid (n = 2 ^ j) ∧ j ≤ n ∧ n < 401 ∧ 1 ≤ n ∧ w = wr) (fun _ v _ => 401 - (intOf v).toNat)
    case atStart => exact ⟨0, 1, rfl, rfl, rfl, by omega, by omega, by omega, rfl⟩
    case round =>
      obtain ⟨j, n, rfl, rfl, HN, hjn, hn4, hn1, rfl⟩ := hrel
      by_cases hlt : n < len0
      · have hdi : decide ((n : Int) < (len0 : Int)) = true := by rw [decide_eq_true_eq]; omega
        have e1 := wrap_int ((j : Int) + 1) (by omega) (by omega)
        have e2 := wrap_int (2 * (n : Int)) (by omega) (by omega)
        go_wp2
        go_roundw
        case rel =>
          refine ⟨j + 1, 2 * n, by go_num, by go_num, ?_, by omega, by omega, by omega, by trivial⟩
          show _ = _
          rw [HN.out, Nat.pow_succ, Nat.mul_comm]
        case measure => simp [intOf]; omega
      · have hdi : decide ((n : Int) < (len0 : Int)) = false := by rw [decide_eq_false_iff_not]; omega
        have hq1 := hm1 j (by rw [← HN.out]; omega)
        have hq2 := hm2 j (by rw [← HN.out]; omega)
        have e1 := wrap_int ((j : Int) + 1) (by omega) (by omega)
        have d1 : decide ((j : Int) < (m1 : Int)) = false := by rw [decide_eq_false_iff_not]; omega
        have d2 : decide ((j : Int) + 1 < (m2 : Int)) = false := by rw [decide_eq_false_iff_not]; omega
        have d3 : decide (j < m1) = false := by rw [decide_eq_false_iff_not]; omega
        have d4 : decide (j + 1 < m2) = false := by rw [decide_eq_false_iff_not]; omega
        clear hm1 hm2 HN
        go_wp2_with fail
        refine (IC.out _ (Below.refl _ _)).mono ?_
        rintro e w1 ⟨y, cy, rfl, hb1⟩
        go_wp2_with fail
        refine (CC.out _ hb1).mono ?_
        rintro e w2 ⟨z, cz, rfl, hb2⟩
        have H2 : Hid (Below w.heap.size w w2) := hb1.trans (hb2.mono hb1.size)
        clear hb1 hb2 IC CC
        go_wp2_with fail
        refine (S.out _).mono ?_
        rintro e w3 ⟨rfl, rfl⟩
        go_wp2_with fail
        refine (T.out _ H2.out).mono ?_
        rintro e w3 ⟨rfl, hb3⟩
        have H3 : Hid (Below w.heap.size w w3) := H2.out.trans (hb3.mono H2.out.size)
        clear hb3
        go_wp2
        go_ret
        exact ⟨rfl, H3.out⟩
  · obtain ⟨g, o, rfl, hg⟩ := w0.at (by omega)
    have hlen := w0.1
    have hcl := w0.2.2.1
    obtain ⟨k, hk⟩ : ∃ k, k = split len0 := ⟨_, rfl⟩
    have hkl := split_lt len0 (by omega)
    have hkp := split_pos len0 (by omega)
    have hkd := split_dbl len0 (by omega)
    rw [← hk] at hkl hkp hkd
    have S : Hid (∀ W, Calls Tryd.prog 13 #[.int .i64 len0] W fun e w' => e = .returned (.int .i64 k) ∧ W = w') := fun W => by
      have := split_any (len0 : Int) W (by omega)
      rw [Int.toNat_natCast, ← hk] at this
      exact this
    have sl := fun W => slice_left W g o len0 cap0 k (by omega)
    have sr := fun W => slice_right W g o len0 cap0 k (by omega) hcl (by omega)
    obtain ⟨D, HD⟩ : ∃ D, Hid (D = (cellsOf (root z0)).toArray) := ⟨_, (rfl : (cellsOf (root z0)).toArray = _)⟩
    obtain ⟨D1, HD1⟩ : ∃ D1, Hid (D1 = (cellsOf (root (z0.take k))).toArray) := ⟨_, (rfl : (cellsOf (root (z0.take k))).toArray = _)⟩
    obtain ⟨D2, HD2⟩ : ∃ D2, Hid (D2 = (cellsOf (root (z0.drop k))).toArray) := ⟨_, (rfl : (cellsOf (root (z0.drop k))).toArray = _)⟩
    have eD := eqSelf D (root z0) (root_length sumD_length _ w0.2.1) HD
    have R0 : Hid (∀ W, Below w.heap.size w W → Calls Tryd.prog 11 #[.slice (some ⟨g, o, none⟩) len0 cap0] W fun e w' => e = .returned (.agg D) ∧ Below W.heap.size W w') := fun W hb =>
      root_any _ _ len0 cap0 z0 W rfl (w0.keep hb) (hK.keep hb) D HD
    have R1 : Hid (∀ W, Below w.heap.size w W → Calls Tryd.prog 11 #[.slice (some ⟨g, o, none⟩) k cap0] W fun e w' => e = .returned (.agg D1) ∧ Below W.heap.size W w') := fun W hb =>
      root_any _ _ k cap0 (z0.take k) W rfl ((w0.keep hb).take k (by omega)) (hK.keep hb) D1 HD1
    have R2 : Hid (∀ W, Below w.heap.size w W → Calls Tryd.prog 11 #[.slice (some ⟨g, o + 32 * k, none⟩) (len0 - k) (cap0 - k)] W fun e w' => e = .returned (.agg D2) ∧ Below W.heap.size W w') := fun W hb =>
      root_any _ _ (len0 - k) (cap0 - k) (z0.drop k) W rfl ((w0.keep hb).drop k (by omega)) (hK.keep hb) D2 HD2
    have KK : Hid (∀ W, Below w.heap.size w W → Calls Tryd.prog 20 #[.agg D1, .agg D2] W fun e w' => e = .returned (.agg D) ∧ Below W.heap.size W w') := fun W hb => by
      rw [HD1.out, HD2.out]
      refine knot_any _ _ (root_length sumD_length _ (w0.2.1.take k)) (root_length sumD_length _ (w0.2.1.drop k)) W (hK.keep hb) D ?_
      show _ = _
      rw [HD.out, root_more z0 (by omega), hlen, ← hk]
      rfl
    have c1 : decide ((k : Int) < (len0 : Int)) = true := by rw [decide_eq_true_eq]; omega
    have c2 : decide ((len0 : Int) ≤ 2 * (k : Int)) = true := by rw [decide_eq_true_eq]; omega
    have c3 := wrap_int (2 * (k : Int)) (by omega) (by omega)
    have c4 : ((k : Int) == 0) = false := by rw [beq_eq_false_iff_ne]; omega
    have c5 : decide ((k : Int) = 0) = false := by rw [decide_eq_false_iff_not]; omega
    have c6 : ¬ k = 0 := by omega
    clear hK w0 hk hlen HD HD1 HD2
    go_enter Tryd.func6, Tryd.ntmps6
    go_wp2
    go_loopw [5, 6] (fun u v wr => ∃ j n : Nat, u = .int .i64 j ∧ v = .int .i64 n ∧ Hid (n = 2 ^ j) ∧ j ≤ n ∧ n < 401 ∧ 1 ≤ n ∧ w = wr) (fun _ v _ => 401 - (intOf v).toNat)
    case atStart => exact ⟨0, 1, rfl, rfl, rfl, by omega, by omega, by omega, rfl⟩
    case round =>
      obtain ⟨j, n, rfl, rfl, HN, hjn, hn4, hn1, rfl⟩ := hrel
      by_cases hlt : n < len0
      · have hdi : decide ((n : Int) < (len0 : Int)) = true := by rw [decide_eq_true_eq]; omega
        have e1 := wrap_int ((j : Int) + 1) (by omega) (by omega)
        have e2 := wrap_int (2 * (n : Int)) (by omega) (by omega)
        go_wp2
        go_roundw
        case rel =>
          refine ⟨j + 1, 2 * n, by go_num, by go_num, ?_, by omega, by omega, by omega, by trivial⟩
          show _ = _
          rw [HN.out, Nat.pow_succ, Nat.mul_comm]
        case measure => simp [intOf]; omega
      · have hdi : decide ((n : Int) < (len0 : Int)) = false := by rw [decide_eq_false_iff_not]; omega
        have hq1 := hm1 j (by rw [← HN.out]; omega)
        have hq2 := hm2 j (by rw [← HN.out]; omega)
        have e1 := wrap_int ((j : Int) + 1) (by omega) (by omega)
        have d1 : decide ((j : Int) < (m1 : Int)) = false := by rw [decide_eq_false_iff_not]; omega
        have d2 : decide ((j : Int) + 1 < (m2 : Int)) = false := by rw [decide_eq_false_iff_not]; omega
        have d3 : decide (j < m1) = false := by rw [decide_eq_false_iff_not]; omega
        have d4 : decide (j + 1 < m2) = false := by rw [decide_eq_false_iff_not]; omega
        clear hm1 hm2 HN
        go_wp2_with fail
        refine (IC.out _ (Below.refl _ _)).mono ?_
        rintro e w1 ⟨y, cy, rfl, hb1⟩
        go_wp2_with fail
        refine (CC.out _ hb1).mono ?_
        rintro e w2 ⟨z, cz, rfl, hb2⟩
        have H2 : Hid (Below w.heap.size w w2) := hb1.trans (hb2.mono hb1.size)
        clear hb1 hb2 IC CC
        go_wp2_with fail
        refine (S.out _).mono ?_
        rintro e w3 ⟨rfl, rfl⟩
        clear S
        go_wp2
        refine wp_region_held_drew (S := (fun _ => True)) (by kernel_rfl) trivial (fun hHeld => ?_)
        refine wpAnyH_ready (rs := [0]) (by kernel_rfl) (by simp) ?_
        refine AllReadyH.cons (o := { dst := some 60, op := Op.call { callee := Callee.value (Operand.func 10), args := #[], argTypes := #[] }, type := 4, pos := "law.go:91", after := #[], guard := none }) rfl (fun K hK => ?_) AllReadyH.nil
        go_simp
        refine (T.out _ H2.out.drew).mono ?_
        rintro e w3 ⟨rfl, hb3⟩
        have H3 : Hid (Below w.heap.size w w3) := H2.out.drew.trans (hb3.mono H2.out.size)
        clear hb3
        go_wp2_with fail
        refine hK.out _ _ trivial (fun hHeld => ?_)
        clear hK K
        try simp only [Act.put, List.setIfInBounds_toArray, List.set_cons_zero, List.set_cons_succ]
        refine wpAnyH_take (i := 1) (oi := { dst := some 61, op := Op.move (Operand.tmp 60), type := 4, pos := "law.go:91", after := #[{ on := 0, ground := Ground.data }, { on := 0, ground := Ground.chain }], guard := none }) (v := .bool true) rfl (by kernel_rfl) (by kernel_rfl) (by kernel_rfl) (fun _ _ _ h => h) (Or.inl ⟨by rfl, by intro w hSw; go_simp⟩) hHeld ?_
        try simp only [Act.put, List.setIfInBounds_toArray, List.set_cons_zero, List.set_cons_succ]
        refine wpAnyH_take (i := 2) (oi := { dst := some 62, op := Op.move (Operand.tmp 11), type := 3, pos := "law.go:91", after := #[{ on := 1, ground := Ground.guard }], guard := some (1, true) }) (v := .int .i64 k) rfl (by kernel_rfl) (by kernel_rfl) (by kernel_rfl) (fun _ _ _ h => h) (Or.inl ⟨by rfl, by intro w hSw; go_simp⟩) hHeld ?_
        try simp only [Act.put, List.setIfInBounds_toArray, List.set_cons_zero, List.set_cons_succ]
        refine wpAnyH_take (i := 3) (oi := { dst := some 63, op := Op.move (Operand.tmp 0), type := 22, pos := "law.go:91", after := #[{ on := 1, ground := Ground.guard }], guard := some (1, true) }) (v := .slice (some ⟨g, o, none⟩) len0 cap0) rfl (by kernel_rfl) (by kernel_rfl) (by kernel_rfl) (fun _ _ _ h => h) (Or.inl ⟨by rfl, by intro w hSw; go_simp⟩) hHeld ?_
        try simp only [Act.put, List.setIfInBounds_toArray, List.set_cons_zero, List.set_cons_succ]
        refine wpAnyH_take (i := 4) (oi := { dst := some 64, op := Op.call { callee := Callee.builtin Builtin.len, args := #[Operand.tmp 63], argTypes := #[22] }, type := 3, pos := "law.go:91", after := #[{ on := 3, ground := Ground.data }, { on := 1, ground := Ground.guard }], guard := some (1, true) }) (v := .int .i64 len0) rfl (by kernel_rfl) (by kernel_rfl) (by kernel_rfl) (fun _ _ _ h => h) (Or.inl ⟨by rfl, by intro w hSw; go_simp⟩) hHeld ?_
        try simp only [Act.put, List.setIfInBounds_toArray, List.set_cons_zero, List.set_cons_succ]
        refine wpAnyH_take (i := 5) (oi := { dst := some 65, op := Op.binOp BinOp.lss 3 (Operand.tmp 62) (Operand.tmp 64) 3, type := 4, pos := "law.go:91", after := #[{ on := 2, ground := Ground.data }, { on := 4, ground := Ground.data }, { on := 1, ground := Ground.guard }], guard := some (1, true) }) (v := .bool true) rfl (by kernel_rfl) (by kernel_rfl) (by kernel_rfl) (fun _ _ _ h => h) (Or.inl ⟨by rfl, by intro w hSw; go_simp⟩) hHeld ?_
        try simp only [Act.put, List.setIfInBounds_toArray, List.set_cons_zero, List.set_cons_succ]
        refine wpAnyH_take (i := 6) (oi := { dst := some 66, op := Op.pick (Operand.tmp 61) (Operand.tmp 65) (Operand.const (Value.bool false)), type := 4, pos := "law.go:91", after := #[{ on := 1, ground := Ground.data }, { on := 5, ground := Ground.data }], guard := none }) (v := .bool true) rfl (by kernel_rfl) (by kernel_rfl) (by kernel_rfl) (fun _ _ _ h => h) (Or.inl ⟨by rfl, by intro w hSw; go_simp⟩) hHeld ?_
        try simp only [Act.put, List.setIfInBounds_toArray, List.set_cons_zero, List.set_cons_succ]
        refine wpAnyH_take (i := 7) (oi := { dst := some 67, op := Op.move (Operand.tmp 66), type := 4, pos := "law.go:91", after := #[{ on := 6, ground := Ground.data }, { on := 1, ground := Ground.chain }], guard := none }) (v := .bool true) rfl (by kernel_rfl) (by kernel_rfl) (by kernel_rfl) (fun _ _ _ h => h) (Or.inl ⟨by rfl, by intro w hSw; go_simp⟩) hHeld ?_
        try simp only [Act.put, List.setIfInBounds_toArray, List.set_cons_zero, List.set_cons_succ]
        refine wpAnyH_take (i := 8) (oi := { dst := some 68, op := Op.move (Operand.tmp 0), type := 22, pos := "law.go:91", after := #[{ on := 7, ground := Ground.guard }], guard := some (7, true) }) (v := .slice (some ⟨g, o, none⟩) len0 cap0) rfl (by kernel_rfl) (by kernel_rfl) (by kernel_rfl) (fun _ _ _ h => h) (Or.inl ⟨by rfl, by intro w hSw; go_simp⟩) hHeld ?_
        try simp only [Act.put, List.setIfInBounds_toArray, List.set_cons_zero, List.set_cons_succ]
        refine wpAnyH_take (i := 9) (oi := { dst := some 69, op := Op.call { callee := Callee.builtin Builtin.len, args := #[Operand.tmp 68], argTypes := #[22] }, type := 3, pos := "law.go:91", after := #[{ on := 8, ground := Ground.data }, { on := 7, ground := Ground.guard }], guard := some (7, true) }) (v := .int .i64 len0) rfl (by kernel_rfl) (by kernel_rfl) (by kernel_rfl) (fun _ _ _ h => h) (Or.inl ⟨by rfl, by intro w hSw; go_simp⟩) hHeld ?_
        try simp only [Act.put, List.setIfInBounds_toArray, List.set_cons_zero, List.set_cons_succ]
        refine wpAnyH_take (i := 10) (oi := { dst := some 70, op := Op.move (Operand.tmp 11), type := 3, pos := "law.go:91", after := #[{ on := 7, ground := Ground.guard }], guard := some (7, true) }) (v := .int .i64 k) rfl (by kernel_rfl) (by kernel_rfl) (by kernel_rfl) (fun _ _ _ h => h) (Or.inl ⟨by rfl, by intro w hSw; go_simp⟩) hHeld ?_
        try simp only [Act.put, List.setIfInBounds_toArray, List.set_cons_zero, List.set_cons_succ]
        refine wpAnyH_take (i := 11) (oi := { dst := some 71, op := Op.binOp BinOp.mul 3 (Operand.const (Value.int IntKind.i64 2)) (Operand.tmp 70) 3, type := 3, pos := "law.go:91", after := #[{ on := 10, ground := Ground.data }, { on := 7, ground := Ground.guard }], guard := some (7, true) }) (v := .int .i64 (2 * (k : Int))) rfl (by kernel_rfl) (by kernel_rfl) (by kernel_rfl) (fun _ _ _ h => h) (Or.inl ⟨by rfl, by intro w hSw; go_simp⟩) hHeld ?_
        try simp only [Act.put, List.setIfInBounds_toArray, List.set_cons_zero, List.set_cons_succ]
        refine wpAnyH_take (i := 12) (oi := { dst := some 72, op := Op.binOp BinOp.leq 3 (Operand.tmp 69) (Operand.tmp 71) 3, type := 4, pos := "law.go:91", after := #[{ on := 9, ground := Ground.data }, { on := 11, ground := Ground.data }, { on := 7, ground := Ground.guard }], guard := some (7, true) }) (v := .bool true) rfl (by kernel_rfl) (by kernel_rfl) (by kernel_rfl) (fun _ _ _ h => h) (Or.inl ⟨by rfl, by intro w hSw; go_simp⟩) hHeld ?_
        try simp only [Act.put, List.setIfInBounds_toArray, List.set_cons_zero, List.set_cons_succ]
        refine wpAnyH_take (i := 13) (oi := { dst := some 73, op := Op.pick (Operand.tmp 67) (Operand.tmp 72) (Operand.const (Value.bool false)), type := 4, pos := "law.go:91", after := #[{ on := 7, ground := Ground.data }, { on := 12, ground := Ground.data }], guard := none }) (v := .bool true) rfl (by kernel_rfl) (by kernel_rfl) (by kernel_rfl) (fun _ _ _ h => h) (Or.inl ⟨by rfl, by intro w hSw; go_simp⟩) hHeld ?_
        try simp only [Act.put, List.setIfInBounds_toArray, List.set_cons_zero, List.set_cons_succ]
        refine wpAnyH_take (i := 14) (oi := { dst := some 74, op := Op.move (Operand.tmp 73), type := 4, pos := "law.go:91", after := #[{ on := 13, ground := Ground.data }, { on := 7, ground := Ground.chain }], guard := none }) (v := .bool true) rfl (by kernel_rfl) (by kernel_rfl) (by kernel_rfl) (fun _ _ _ h => h) (Or.inl ⟨by rfl, by intro w hSw; go_simp⟩) hHeld ?_
        try simp only [Act.put, List.setIfInBounds_toArray, List.set_cons_zero, List.set_cons_succ]
        refine wpAnyH_take (i := 15) (oi := { dst := some 75, op := Op.move (Operand.tmp 0), type := 22, pos := "law.go:91", after := #[{ on := 14, ground := Ground.guard }], guard := some (14, true) }) (v := .slice (some ⟨g, o, none⟩) len0 cap0) rfl (by kernel_rfl) (by kernel_rfl) (by kernel_rfl) (fun _ _ _ h => h) (Or.inl ⟨by rfl, by intro w hSw; go_simp⟩) hHeld ?_
        try simp only [Act.put, List.setIfInBounds_toArray, List.set_cons_zero, List.set_cons_succ]
        refine wpAnyH_take (i := 17) (oi := { dst := some 77, op := Op.move (Operand.tmp 0), type := 22, pos := "law.go:91", after := #[{ on := 14, ground := Ground.guard }], guard := some (14, true) }) (v := .slice (some ⟨g, o, none⟩) len0 cap0) rfl (by kernel_rfl) (by kernel_rfl) (by kernel_rfl) (fun _ _ _ h => h) (Or.inl ⟨by rfl, by intro w hSw; go_simp⟩) hHeld ?_
        try simp only [Act.put, List.setIfInBounds_toArray, List.set_cons_zero, List.set_cons_succ]
        refine wpAnyH_take (i := 18) (oi := { dst := some 78, op := Op.move (Operand.tmp 11), type := 3, pos := "law.go:91", after := #[{ on := 14, ground := Ground.guard }], guard := some (14, true) }) (v := .int .i64 k) rfl (by kernel_rfl) (by kernel_rfl) (by kernel_rfl) (fun _ _ _ h => h) (Or.inl ⟨by rfl, by intro w hSw; go_simp⟩) hHeld ?_
        try simp only [Act.put, List.setIfInBounds_toArray, List.set_cons_zero, List.set_cons_succ]
        refine wpAnyH_take (i := 19) (oi := { dst := some 79, op := Op.slice 22 (Operand.tmp 77) none (some (Operand.tmp 78)) none, type := 22, pos := "law.go:91", after := #[{ on := 17, ground := Ground.data }, { on := 18, ground := Ground.data }, { on := 14, ground := Ground.guard }], guard := some (14, true) }) (v := .slice (some ⟨g, o, none⟩) k cap0) rfl (by kernel_rfl) (by kernel_rfl) (by kernel_rfl) (fun _ _ _ h => h) (Or.inl ⟨by rfl, by intro W hSw; have := sl W; go_simp⟩) hHeld ?_
        try simp only [Act.put, List.setIfInBounds_toArray, List.set_cons_zero, List.set_cons_succ]
        refine wpAnyH_take (i := 21) (oi := { dst := some 81, op := Op.move (Operand.tmp 0), type := 22, pos := "law.go:91", after := #[{ on := 14, ground := Ground.guard }], guard := some (14, true) }) (v := .slice (some ⟨g, o, none⟩) len0 cap0) rfl (by kernel_rfl) (by kernel_rfl) (by kernel_rfl) (fun _ _ _ h => h) (Or.inl ⟨by rfl, by intro w hSw; go_simp⟩) hHeld ?_
        try simp only [Act.put, List.setIfInBounds_toArray, List.set_cons_zero, List.set_cons_succ]
        refine wpAnyH_take (i := 22) (oi := { dst := some 82, op := Op.move (Operand.tmp 11), type := 3, pos := "law.go:91", after := #[{ on := 14, ground := Ground.guard }], guard := some (14, true) }) (v := .int .i64 k) rfl (by kernel_rfl) (by kernel_rfl) (by kernel_rfl) (fun _ _ _ h => h) (Or.inl ⟨by rfl, by intro w hSw; go_simp⟩) hHeld ?_
        try simp only [Act.put, List.setIfInBounds_toArray, List.set_cons_zero, List.set_cons_succ]
        refine wpAnyH_take (i := 23) (oi := { dst := some 83, op := Op.slice 22 (Operand.tmp 81) (some (Operand.tmp 82)) none none, type := 22, pos := "law.go:91", after := #[{ on := 21, ground := Ground.data }, { on := 22, ground := Ground.data }, { on := 14, ground := Ground.guard }], guard := some (14, true) }) (v := .slice (some ⟨g, o + 32 * k, none⟩) (len0 - k) (cap0 - k)) rfl (by kernel_rfl) (by kernel_rfl) (by kernel_rfl) (fun _ _ _ h => h) (Or.inl ⟨by rfl, by intro W hSw; have := sr W; go_simp⟩) hHeld ?_
        try simp only [Act.put, List.setIfInBounds_toArray, List.set_cons_zero, List.set_cons_succ]
        refine wpAnyH_ready (rs := [16]) (by kernel_rfl) (by simp) ?_
        refine AllReadyH.cons (o := { dst := some 76, op := Op.call { callee := Callee.value (Operand.func 11), args := #[Operand.tmp 75], argTypes := #[22] }, type := 26, pos := "law.go:91", after := #[{ on := 15, ground := Ground.data }, { on := 14, ground := Ground.chain }, { on := 14, ground := Ground.guard }], guard := some (14, true) }) rfl (fun K hK => ?_) AllReadyH.nil
        go_simp
        refine (R0.out _ H3.out).mono ?_
        rintro e w4 ⟨rfl, hb4⟩
        have H4 : Hid (Below w.heap.size w w4) := H3.out.trans (hb4.mono H3.out.size)
        clear hb4
        go_wp2_with fail
        refine hK.out _ _ trivial (fun hHeld => ?_)
        clear hK K
        try simp only [Act.put, List.setIfInBounds_toArray, List.set_cons_zero, List.set_cons_succ]
        refine wpAnyH_ready (rs := [20]) (by kernel_rfl) (by simp) ?_
        refine AllReadyH.cons (o := { dst := some 80, op := Op.call { callee := Callee.value (Operand.func 11), args := #[Operand.tmp 79], argTypes := #[22] }, type := 26, pos := "law.go:91", after := #[{ on := 19, ground := Ground.data }, { on := 16, ground := Ground.chain }, { on := 14, ground := Ground.guard }], guard := some (14, true) }) rfl (fun K hK => ?_) AllReadyH.nil
        go_simp
        refine (R1.out _ H4.out).mono ?_
        rintro e w5 ⟨rfl, hb5⟩
        have H5 : Hid (Below w.heap.size w w5) := H4.out.trans (hb5.mono H4.out.size)
        clear hb5
        go_wp2_with fail
        refine hK.out _ _ trivial (fun hHeld => ?_)
        clear hK K
        try simp only [Act.put, List.setIfInBounds_toArray, List.set_cons_zero, List.set_cons_succ]
        refine wpAnyH_ready (rs := [24]) (by kernel_rfl) (by simp) ?_
        refine AllReadyH.cons (o := { dst := some 84, op := Op.call { callee := Callee.value (Operand.func 11), args := #[Operand.tmp 83], argTypes := #[22] }, type := 26, pos := "law.go:91", after := #[{ on := 23, ground := Ground.data }, { on := 20, ground := Ground.chain }, { on := 14, ground := Ground.guard }], guard := some (14, true) }) rfl (fun K hK => ?_) AllReadyH.nil
        go_simp
        refine (R2.out _ H5.out).mono ?_
        rintro e w6 ⟨rfl, hb6⟩
        have H6 : Hid (Below w.heap.size w w6) := H5.out.trans (hb6.mono H5.out.size)
        clear hb6
        go_wp2_with fail
        refine hK.out _ _ trivial (fun hHeld => ?_)
        clear hK K
        try simp only [Act.put, List.setIfInBounds_toArray, List.set_cons_zero, List.set_cons_succ]
        refine wpAnyH_ready (rs := [25]) (by kernel_rfl) (by simp) ?_
        refine AllReadyH.cons (o := { dst := some 85, op := Op.call { callee := Callee.value (Operand.func 20), args := #[Operand.tmp 80, Operand.tmp 84], argTypes := #[26, 26] }, type := 26, pos := "law.go:91", after := #[{ on := 20, ground := Ground.data }, { on := 24, ground := Ground.data }, { on := 24, ground := Ground.chain }, { on := 14, ground := Ground.guard }], guard := some (14, true) }) rfl (fun K hK => ?_) AllReadyH.nil
        go_simp
        refine (KK.out _ H6.out).mono ?_
        rintro e w7 ⟨rfl, hb7⟩
        have H7 : Hid (Below w.heap.size w w7) := H6.out.trans (hb7.mono H6.out.size)
        clear hb7
        go_wp2_with fail
        refine hK.out _ _ trivial (fun hHeld => ?_)
        clear hK K
        try simp only [Act.put, List.setIfInBounds_toArray, List.set_cons_zero, List.set_cons_succ]
        refine wpAnyH_take (i := 26) (oi := { dst := some 86, op := Op.binOp BinOp.eql 26 (Operand.tmp 76) (Operand.tmp 85) 26, type := 4, pos := "law.go:91", after := #[{ on := 16, ground := Ground.data }, { on := 25, ground := Ground.data }, { on := 14, ground := Ground.guard }], guard := some (14, true) }) (v := .bool true) rfl (by kernel_rfl) (by kernel_rfl) (by kernel_rfl) (fun _ _ _ h => h) (Or.inl ⟨by rfl, by intro W hSw; have := eD W; go_simp⟩) hHeld ?_
        try simp only [Act.put, List.setIfInBounds_toArray, List.set_cons_zero, List.set_cons_succ]
        refine wpAnyH_take (i := 27) (oi := { dst := some 87, op := Op.pick (Operand.tmp 74) (Operand.tmp 86) (Operand.const (Value.bool false)), type := 4, pos := "law.go:91", after := #[{ on := 14, ground := Ground.data }, { on := 26, ground := Ground.data }], guard := none }) (v := .bool true) rfl (by kernel_rfl) (by kernel_rfl) (by kernel_rfl) (fun _ _ _ h => h) (Or.inl ⟨by rfl, by intro w hSw; go_simp⟩) hHeld ?_
        try simp only [Act.put, List.setIfInBounds_toArray, List.set_cons_zero, List.set_cons_succ]
        refine wpAnyH_take (i := 28) (oi := { dst := some 4, op := Op.assign (Operand.tmp 87), type := 4, pos := "law.go:91", after := #[{ on := 27, ground := Ground.data }, { on := 25, ground := Ground.chain }, { on := 0, ground := Ground.phase }, { on := 1, ground := Ground.phase }, { on := 2, ground := Ground.phase }, { on := 3, ground := Ground.phase }, { on := 4, ground := Ground.phase }, { on := 5, ground := Ground.phase }, { on := 6, ground := Ground.phase }, { on := 7, ground := Ground.phase }, { on := 8, ground := Ground.phase }, { on := 9, ground := Ground.phase }, { on := 10, ground := Ground.phase }, { on := 11, ground := Ground.phase }, { on := 12, ground := Ground.phase }, { on := 13, ground := Ground.phase }, { on := 14, ground := Ground.phase }, { on := 15, ground := Ground.phase }, { on := 16, ground := Ground.phase }, { on := 17, ground := Ground.phase }, { on := 18, ground := Ground.phase }, { on := 19, ground := Ground.phase }, { on := 20, ground := Ground.phase }, { on := 21, ground := Ground.phase }, { on := 22, ground := Ground.phase }, { on := 23, ground := Ground.phase }, { on := 24, ground := Ground.phase }, { on := 25, ground := Ground.phase }, { on := 26, ground := Ground.phase }, { on := 27, ground := Ground.phase }], guard := none }) (v := .bool true) rfl (by kernel_rfl) (by kernel_rfl) (by kernel_rfl) (fun _ _ _ h => h) (Or.inl ⟨by rfl, by intro w hSw; go_simp⟩) hHeld ?_
        try simp only [Act.put, List.setIfInBounds_toArray, List.set_cons_zero, List.set_cons_succ]
        refine wpAnyH_done (by kernel_rfl) ?_ _
        go_wp2
        go_ret
        exact ⟨rfl, H7.out⟩

set_option maxHeartbeats 4000000 in
theorem treeShort_20_0 (a0 : Option Addr) (len0 cap0 : Nat) (z0 : List (List UInt8)) (a1 : Int) (w : World) (w0 : LReads w a0 len0 cap0 z0) (hlong : len0 ≤ 200) (m1 m2 : Nat)
    (IC : Hid (∀ W, Below w.heap.size w W → Calls Tryd.prog 16 #[.slice a0 len0 cap0, .int .i64 a1] W fun e w' => ∃ y cy, e = .returned (.tuple #[.slice y m1 cy, .int .i64 20]) ∧ Below W.heap.size W w'))
    (CC : Hid (∀ W, Below w.heap.size w W → Calls Tryd.prog 18 #[.slice a0 len0 cap0, .int .i64 a1] W fun e w' => ∃ y cy, e = .returned (.tuple #[.slice y m2 cy, .int .i64 0]) ∧ Below W.heap.size W w'))
    (hm1 : ∀ j, len0 ≤ 2 ^ j → m1 ≤ j) (hm2 : ∀ j, len0 ≤ 2 ^ j → m2 ≤ j + 1) (hK : Table 1 w) :
    Calls Tryd.prog 6 #[.slice a0 len0 cap0, .int .i64 a1] w fun e w' => e = .returned (.bool true) ∧ Below w.heap.size w w' := by
  have hd : decide ((200 : Int) < (len0 : Int)) = false := by rw [decide_eq_false_iff_not]; omega
  have T : Hid (∀ W, Below w.heap.size w W → Calls Tryd.prog 10 #[] W fun e w' => e = .returned (.bool true) ∧ Below W.heap.size W w') := fun W hb => three_true W (hK.keep hb)
  by_cases h2 : len0 < 2
  · have S : Hid (∀ W, Calls Tryd.prog 13 #[.int .i64 len0] W fun e w' => e = .returned (.int .i64 0) ∧ W = w') := fun W => by
      have := split_any (len0 : Int) W (by omega)
      rw [Int.toNat_natCast, split_small len0 h2] at this
      exact this
    clear hK w0
    go_enter Tryd.func6, Tryd.ntmps6
    go_wp2
    go_loopw [5, 6] (fun u v wr => ∃ j n : Nat, u = .int .i64 j ∧ v = .int .i64 n ∧ Hid (n = 2 ^ j) ∧ j ≤ n ∧ n < 401 ∧ 1 ≤ n ∧ w = wr) (fun _ v _ => 401 - (intOf v).toNat)
    case atStart => exact ⟨0, 1, rfl, rfl, rfl, by omega, by omega, by omega, rfl⟩
    case round =>
      obtain ⟨j, n, rfl, rfl, HN, hjn, hn4, hn1, rfl⟩ := hrel
      by_cases hlt : n < len0
      · have hdi : decide ((n : Int) < (len0 : Int)) = true := by rw [decide_eq_true_eq]; omega
        have e1 := wrap_int ((j : Int) + 1) (by omega) (by omega)
        have e2 := wrap_int (2 * (n : Int)) (by omega) (by omega)
        go_wp2
        go_roundw
        case rel =>
          refine ⟨j + 1, 2 * n, by go_num, by go_num, ?_, by omega, by omega, by omega, by trivial⟩
          show _ = _
          rw [HN.out, Nat.pow_succ, Nat.mul_comm]
        case measure => simp [intOf]; omega
      · have hdi : decide ((n : Int) < (len0 : Int)) = false := by rw [decide_eq_false_iff_not]; omega
        have hq1 := hm1 j (by rw [← HN.out]; omega)
        have hq2 := hm2 j (by rw [← HN.out]; omega)
        have e1 := wrap_int ((j : Int) + 1) (by omega) (by omega)
        have d1 : decide ((j : Int) < (m1 : Int)) = false := by rw [decide_eq_false_iff_not]; omega
        have d2 : decide ((j : Int) + 1 < (m2 : Int)) = false := by rw [decide_eq_false_iff_not]; omega
        have d3 : decide (j < m1) = false := by rw [decide_eq_false_iff_not]; omega
        have d4 : decide (j + 1 < m2) = false := by rw [decide_eq_false_iff_not]; omega
        clear hm1 hm2 HN
        go_wp2_with fail
        refine (IC.out _ (Below.refl _ _)).mono ?_
        rintro e w1 ⟨y, cy, rfl, hb1⟩
        go_wp2_with fail
        refine (CC.out _ hb1).mono ?_
        rintro e w2 ⟨z, cz, rfl, hb2⟩
        have H2 : Hid (Below w.heap.size w w2) := hb1.trans (hb2.mono hb1.size)
        clear hb1 hb2 IC CC
        go_wp2_with fail
        refine (S.out _).mono ?_
        rintro e w3 ⟨rfl, rfl⟩
        go_wp2_with fail
        refine (T.out _ H2.out).mono ?_
        rintro e w3 ⟨rfl, hb3⟩
        have H3 : Hid (Below w.heap.size w w3) := H2.out.trans (hb3.mono H2.out.size)
        clear hb3
        go_wp2
        go_ret
        exact ⟨rfl, H3.out⟩
  · obtain ⟨g, o, rfl, hg⟩ := w0.at (by omega)
    have hlen := w0.1
    have hcl := w0.2.2.1
    obtain ⟨k, hk⟩ : ∃ k, k = split len0 := ⟨_, rfl⟩
    have hkl := split_lt len0 (by omega)
    have hkp := split_pos len0 (by omega)
    have hkd := split_dbl len0 (by omega)
    rw [← hk] at hkl hkp hkd
    have S : Hid (∀ W, Calls Tryd.prog 13 #[.int .i64 len0] W fun e w' => e = .returned (.int .i64 k) ∧ W = w') := fun W => by
      have := split_any (len0 : Int) W (by omega)
      rw [Int.toNat_natCast, ← hk] at this
      exact this
    have sl := fun W => slice_left W g o len0 cap0 k (by omega)
    have sr := fun W => slice_right W g o len0 cap0 k (by omega) hcl (by omega)
    obtain ⟨D, HD⟩ : ∃ D, Hid (D = (cellsOf (root z0)).toArray) := ⟨_, (rfl : (cellsOf (root z0)).toArray = _)⟩
    obtain ⟨D1, HD1⟩ : ∃ D1, Hid (D1 = (cellsOf (root (z0.take k))).toArray) := ⟨_, (rfl : (cellsOf (root (z0.take k))).toArray = _)⟩
    obtain ⟨D2, HD2⟩ : ∃ D2, Hid (D2 = (cellsOf (root (z0.drop k))).toArray) := ⟨_, (rfl : (cellsOf (root (z0.drop k))).toArray = _)⟩
    have eD := eqSelf D (root z0) (root_length sumD_length _ w0.2.1) HD
    have R0 : Hid (∀ W, Below w.heap.size w W → Calls Tryd.prog 11 #[.slice (some ⟨g, o, none⟩) len0 cap0] W fun e w' => e = .returned (.agg D) ∧ Below W.heap.size W w') := fun W hb =>
      root_any _ _ len0 cap0 z0 W rfl (w0.keep hb) (hK.keep hb) D HD
    have R1 : Hid (∀ W, Below w.heap.size w W → Calls Tryd.prog 11 #[.slice (some ⟨g, o, none⟩) k cap0] W fun e w' => e = .returned (.agg D1) ∧ Below W.heap.size W w') := fun W hb =>
      root_any _ _ k cap0 (z0.take k) W rfl ((w0.keep hb).take k (by omega)) (hK.keep hb) D1 HD1
    have R2 : Hid (∀ W, Below w.heap.size w W → Calls Tryd.prog 11 #[.slice (some ⟨g, o + 32 * k, none⟩) (len0 - k) (cap0 - k)] W fun e w' => e = .returned (.agg D2) ∧ Below W.heap.size W w') := fun W hb =>
      root_any _ _ (len0 - k) (cap0 - k) (z0.drop k) W rfl ((w0.keep hb).drop k (by omega)) (hK.keep hb) D2 HD2
    have KK : Hid (∀ W, Below w.heap.size w W → Calls Tryd.prog 20 #[.agg D1, .agg D2] W fun e w' => e = .returned (.agg D) ∧ Below W.heap.size W w') := fun W hb => by
      rw [HD1.out, HD2.out]
      refine knot_any _ _ (root_length sumD_length _ (w0.2.1.take k)) (root_length sumD_length _ (w0.2.1.drop k)) W (hK.keep hb) D ?_
      show _ = _
      rw [HD.out, root_more z0 (by omega), hlen, ← hk]
      rfl
    have c1 : decide ((k : Int) < (len0 : Int)) = true := by rw [decide_eq_true_eq]; omega
    have c2 : decide ((len0 : Int) ≤ 2 * (k : Int)) = true := by rw [decide_eq_true_eq]; omega
    have c3 := wrap_int (2 * (k : Int)) (by omega) (by omega)
    have c4 : ((k : Int) == 0) = false := by rw [beq_eq_false_iff_ne]; omega
    have c5 : decide ((k : Int) = 0) = false := by rw [decide_eq_false_iff_not]; omega
    have c6 : ¬ k = 0 := by omega
    clear hK w0 hk hlen HD HD1 HD2
    go_enter Tryd.func6, Tryd.ntmps6
    go_wp2
    go_loopw [5, 6] (fun u v wr => ∃ j n : Nat, u = .int .i64 j ∧ v = .int .i64 n ∧ Hid (n = 2 ^ j) ∧ j ≤ n ∧ n < 401 ∧ 1 ≤ n ∧ w = wr) (fun _ v _ => 401 - (intOf v).toNat)
    case atStart => exact ⟨0, 1, rfl, rfl, rfl, by omega, by omega, by omega, rfl⟩
    case round =>
      obtain ⟨j, n, rfl, rfl, HN, hjn, hn4, hn1, rfl⟩ := hrel
      by_cases hlt : n < len0
      · have hdi : decide ((n : Int) < (len0 : Int)) = true := by rw [decide_eq_true_eq]; omega
        have e1 := wrap_int ((j : Int) + 1) (by omega) (by omega)
        have e2 := wrap_int (2 * (n : Int)) (by omega) (by omega)
        go_wp2
        go_roundw
        case rel =>
          refine ⟨j + 1, 2 * n, by go_num, by go_num, ?_, by omega, by omega, by omega, by trivial⟩
          show _ = _
          rw [HN.out, Nat.pow_succ, Nat.mul_comm]
        case measure => simp [intOf]; omega
      · have hdi : decide ((n : Int) < (len0 : Int)) = false := by rw [decide_eq_false_iff_not]; omega
        have hq1 := hm1 j (by rw [← HN.out]; omega)
        have hq2 := hm2 j (by rw [← HN.out]; omega)
        have e1 := wrap_int ((j : Int) + 1) (by omega) (by omega)
        have d1 : decide ((j : Int) < (m1 : Int)) = false := by rw [decide_eq_false_iff_not]; omega
        have d2 : decide ((j : Int) + 1 < (m2 : Int)) = false := by rw [decide_eq_false_iff_not]; omega
        have d3 : decide (j < m1) = false := by rw [decide_eq_false_iff_not]; omega
        have d4 : decide (j + 1 < m2) = false := by rw [decide_eq_false_iff_not]; omega
        clear hm1 hm2 HN
        go_wp2_with fail
        refine (IC.out _ (Below.refl _ _)).mono ?_
        rintro e w1 ⟨y, cy, rfl, hb1⟩
        go_wp2_with fail
        refine (CC.out _ hb1).mono ?_
        rintro e w2 ⟨z, cz, rfl, hb2⟩
        have H2 : Hid (Below w.heap.size w w2) := hb1.trans (hb2.mono hb1.size)
        clear hb1 hb2 IC CC
        go_wp2_with fail
        refine (S.out _).mono ?_
        rintro e w3 ⟨rfl, rfl⟩
        clear S
        go_wp2
        refine wp_region_held_drew (S := (fun _ => True)) (by kernel_rfl) trivial (fun hHeld => ?_)
        refine wpAnyH_ready (rs := [0]) (by kernel_rfl) (by simp) ?_
        refine AllReadyH.cons (o := { dst := some 60, op := Op.call { callee := Callee.value (Operand.func 10), args := #[], argTypes := #[] }, type := 4, pos := "law.go:91", after := #[], guard := none }) rfl (fun K hK => ?_) AllReadyH.nil
        go_simp
        refine (T.out _ H2.out.drew).mono ?_
        rintro e w3 ⟨rfl, hb3⟩
        have H3 : Hid (Below w.heap.size w w3) := H2.out.drew.trans (hb3.mono H2.out.size)
        clear hb3
        go_wp2_with fail
        refine hK.out _ _ trivial (fun hHeld => ?_)
        clear hK K
        try simp only [Act.put, List.setIfInBounds_toArray, List.set_cons_zero, List.set_cons_succ]
        refine wpAnyH_take (i := 1) (oi := { dst := some 61, op := Op.move (Operand.tmp 60), type := 4, pos := "law.go:91", after := #[{ on := 0, ground := Ground.data }, { on := 0, ground := Ground.chain }], guard := none }) (v := .bool true) rfl (by kernel_rfl) (by kernel_rfl) (by kernel_rfl) (fun _ _ _ h => h) (Or.inl ⟨by rfl, by intro w hSw; go_simp⟩) hHeld ?_
        try simp only [Act.put, List.setIfInBounds_toArray, List.set_cons_zero, List.set_cons_succ]
        refine wpAnyH_take (i := 2) (oi := { dst := some 62, op := Op.move (Operand.tmp 11), type := 3, pos := "law.go:91", after := #[{ on := 1, ground := Ground.guard }], guard := some (1, true) }) (v := .int .i64 k) rfl (by kernel_rfl) (by kernel_rfl) (by kernel_rfl) (fun _ _ _ h => h) (Or.inl ⟨by rfl, by intro w hSw; go_simp⟩) hHeld ?_
        try simp only [Act.put, List.setIfInBounds_toArray, List.set_cons_zero, List.set_cons_succ]
        refine wpAnyH_take (i := 3) (oi := { dst := some 63, op := Op.move (Operand.tmp 0), type := 22, pos := "law.go:91", after := #[{ on := 1, ground := Ground.guard }], guard := some (1, true) }) (v := .slice (some ⟨g, o, none⟩) len0 cap0) rfl (by kernel_rfl) (by kernel_rfl) (by kernel_rfl) (fun _ _ _ h => h) (Or.inl ⟨by rfl, by intro w hSw; go_simp⟩) hHeld ?_
        try simp only [Act.put, List.setIfInBounds_toArray, List.set_cons_zero, List.set_cons_succ]
        refine wpAnyH_take (i := 4) (oi := { dst := some 64, op := Op.call { callee := Callee.builtin Builtin.len, args := #[Operand.tmp 63], argTypes := #[22] }, type := 3, pos := "law.go:91", after := #[{ on := 3, ground := Ground.data }, { on := 1, ground := Ground.guard }], guard := some (1, true) }) (v := .int .i64 len0) rfl (by kernel_rfl) (by kernel_rfl) (by kernel_rfl) (fun _ _ _ h => h) (Or.inl ⟨by rfl, by intro w hSw; go_simp⟩) hHeld ?_
        try simp only [Act.put, List.setIfInBounds_toArray, List.set_cons_zero, List.set_cons_succ]
        refine wpAnyH_take (i := 5) (oi := { dst := some 65, op := Op.binOp BinOp.lss 3 (Operand.tmp 62) (Operand.tmp 64) 3, type := 4, pos := "law.go:91", after := #[{ on := 2, ground := Ground.data }, { on := 4, ground := Ground.data }, { on := 1, ground := Ground.guard }], guard := some (1, true) }) (v := .bool true) rfl (by kernel_rfl) (by kernel_rfl) (by kernel_rfl) (fun _ _ _ h => h) (Or.inl ⟨by rfl, by intro w hSw; go_simp⟩) hHeld ?_
        try simp only [Act.put, List.setIfInBounds_toArray, List.set_cons_zero, List.set_cons_succ]
        refine wpAnyH_take (i := 6) (oi := { dst := some 66, op := Op.pick (Operand.tmp 61) (Operand.tmp 65) (Operand.const (Value.bool false)), type := 4, pos := "law.go:91", after := #[{ on := 1, ground := Ground.data }, { on := 5, ground := Ground.data }], guard := none }) (v := .bool true) rfl (by kernel_rfl) (by kernel_rfl) (by kernel_rfl) (fun _ _ _ h => h) (Or.inl ⟨by rfl, by intro w hSw; go_simp⟩) hHeld ?_
        try simp only [Act.put, List.setIfInBounds_toArray, List.set_cons_zero, List.set_cons_succ]
        refine wpAnyH_take (i := 7) (oi := { dst := some 67, op := Op.move (Operand.tmp 66), type := 4, pos := "law.go:91", after := #[{ on := 6, ground := Ground.data }, { on := 1, ground := Ground.chain }], guard := none }) (v := .bool true) rfl (by kernel_rfl) (by kernel_rfl) (by kernel_rfl) (fun _ _ _ h => h) (Or.inl ⟨by rfl, by intro w hSw; go_simp⟩) hHeld ?_
        try simp only [Act.put, List.setIfInBounds_toArray, List.set_cons_zero, List.set_cons_succ]
        refine wpAnyH_take (i := 8) (oi := { dst := some 68, op := Op.move (Operand.tmp 0), type := 22, pos := "law.go:91", after := #[{ on := 7, ground := Ground.guard }], guard := some (7, true) }) (v := .slice (some ⟨g, o, none⟩) len0 cap0) rfl (by kernel_rfl) (by kernel_rfl) (by kernel_rfl) (fun _ _ _ h => h) (Or.inl ⟨by rfl, by intro w hSw; go_simp⟩) hHeld ?_
        try simp only [Act.put, List.setIfInBounds_toArray, List.set_cons_zero, List.set_cons_succ]
        refine wpAnyH_take (i := 9) (oi := { dst := some 69, op := Op.call { callee := Callee.builtin Builtin.len, args := #[Operand.tmp 68], argTypes := #[22] }, type := 3, pos := "law.go:91", after := #[{ on := 8, ground := Ground.data }, { on := 7, ground := Ground.guard }], guard := some (7, true) }) (v := .int .i64 len0) rfl (by kernel_rfl) (by kernel_rfl) (by kernel_rfl) (fun _ _ _ h => h) (Or.inl ⟨by rfl, by intro w hSw; go_simp⟩) hHeld ?_
        try simp only [Act.put, List.setIfInBounds_toArray, List.set_cons_zero, List.set_cons_succ]
        refine wpAnyH_take (i := 10) (oi := { dst := some 70, op := Op.move (Operand.tmp 11), type := 3, pos := "law.go:91", after := #[{ on := 7, ground := Ground.guard }], guard := some (7, true) }) (v := .int .i64 k) rfl (by kernel_rfl) (by kernel_rfl) (by kernel_rfl) (fun _ _ _ h => h) (Or.inl ⟨by rfl, by intro w hSw; go_simp⟩) hHeld ?_
        try simp only [Act.put, List.setIfInBounds_toArray, List.set_cons_zero, List.set_cons_succ]
        refine wpAnyH_take (i := 11) (oi := { dst := some 71, op := Op.binOp BinOp.mul 3 (Operand.const (Value.int IntKind.i64 2)) (Operand.tmp 70) 3, type := 3, pos := "law.go:91", after := #[{ on := 10, ground := Ground.data }, { on := 7, ground := Ground.guard }], guard := some (7, true) }) (v := .int .i64 (2 * (k : Int))) rfl (by kernel_rfl) (by kernel_rfl) (by kernel_rfl) (fun _ _ _ h => h) (Or.inl ⟨by rfl, by intro w hSw; go_simp⟩) hHeld ?_
        try simp only [Act.put, List.setIfInBounds_toArray, List.set_cons_zero, List.set_cons_succ]
        refine wpAnyH_take (i := 12) (oi := { dst := some 72, op := Op.binOp BinOp.leq 3 (Operand.tmp 69) (Operand.tmp 71) 3, type := 4, pos := "law.go:91", after := #[{ on := 9, ground := Ground.data }, { on := 11, ground := Ground.data }, { on := 7, ground := Ground.guard }], guard := some (7, true) }) (v := .bool true) rfl (by kernel_rfl) (by kernel_rfl) (by kernel_rfl) (fun _ _ _ h => h) (Or.inl ⟨by rfl, by intro w hSw; go_simp⟩) hHeld ?_
        try simp only [Act.put, List.setIfInBounds_toArray, List.set_cons_zero, List.set_cons_succ]
        refine wpAnyH_take (i := 13) (oi := { dst := some 73, op := Op.pick (Operand.tmp 67) (Operand.tmp 72) (Operand.const (Value.bool false)), type := 4, pos := "law.go:91", after := #[{ on := 7, ground := Ground.data }, { on := 12, ground := Ground.data }], guard := none }) (v := .bool true) rfl (by kernel_rfl) (by kernel_rfl) (by kernel_rfl) (fun _ _ _ h => h) (Or.inl ⟨by rfl, by intro w hSw; go_simp⟩) hHeld ?_
        try simp only [Act.put, List.setIfInBounds_toArray, List.set_cons_zero, List.set_cons_succ]
        refine wpAnyH_take (i := 14) (oi := { dst := some 74, op := Op.move (Operand.tmp 73), type := 4, pos := "law.go:91", after := #[{ on := 13, ground := Ground.data }, { on := 7, ground := Ground.chain }], guard := none }) (v := .bool true) rfl (by kernel_rfl) (by kernel_rfl) (by kernel_rfl) (fun _ _ _ h => h) (Or.inl ⟨by rfl, by intro w hSw; go_simp⟩) hHeld ?_
        try simp only [Act.put, List.setIfInBounds_toArray, List.set_cons_zero, List.set_cons_succ]
        refine wpAnyH_take (i := 15) (oi := { dst := some 75, op := Op.move (Operand.tmp 0), type := 22, pos := "law.go:91", after := #[{ on := 14, ground := Ground.guard }], guard := some (14, true) }) (v := .slice (some ⟨g, o, none⟩) len0 cap0) rfl (by kernel_rfl) (by kernel_rfl) (by kernel_rfl) (fun _ _ _ h => h) (Or.inl ⟨by rfl, by intro w hSw; go_simp⟩) hHeld ?_
        try simp only [Act.put, List.setIfInBounds_toArray, List.set_cons_zero, List.set_cons_succ]
        refine wpAnyH_take (i := 17) (oi := { dst := some 77, op := Op.move (Operand.tmp 0), type := 22, pos := "law.go:91", after := #[{ on := 14, ground := Ground.guard }], guard := some (14, true) }) (v := .slice (some ⟨g, o, none⟩) len0 cap0) rfl (by kernel_rfl) (by kernel_rfl) (by kernel_rfl) (fun _ _ _ h => h) (Or.inl ⟨by rfl, by intro w hSw; go_simp⟩) hHeld ?_
        try simp only [Act.put, List.setIfInBounds_toArray, List.set_cons_zero, List.set_cons_succ]
        refine wpAnyH_take (i := 18) (oi := { dst := some 78, op := Op.move (Operand.tmp 11), type := 3, pos := "law.go:91", after := #[{ on := 14, ground := Ground.guard }], guard := some (14, true) }) (v := .int .i64 k) rfl (by kernel_rfl) (by kernel_rfl) (by kernel_rfl) (fun _ _ _ h => h) (Or.inl ⟨by rfl, by intro w hSw; go_simp⟩) hHeld ?_
        try simp only [Act.put, List.setIfInBounds_toArray, List.set_cons_zero, List.set_cons_succ]
        refine wpAnyH_take (i := 19) (oi := { dst := some 79, op := Op.slice 22 (Operand.tmp 77) none (some (Operand.tmp 78)) none, type := 22, pos := "law.go:91", after := #[{ on := 17, ground := Ground.data }, { on := 18, ground := Ground.data }, { on := 14, ground := Ground.guard }], guard := some (14, true) }) (v := .slice (some ⟨g, o, none⟩) k cap0) rfl (by kernel_rfl) (by kernel_rfl) (by kernel_rfl) (fun _ _ _ h => h) (Or.inl ⟨by rfl, by intro W hSw; have := sl W; go_simp⟩) hHeld ?_
        try simp only [Act.put, List.setIfInBounds_toArray, List.set_cons_zero, List.set_cons_succ]
        refine wpAnyH_take (i := 21) (oi := { dst := some 81, op := Op.move (Operand.tmp 0), type := 22, pos := "law.go:91", after := #[{ on := 14, ground := Ground.guard }], guard := some (14, true) }) (v := .slice (some ⟨g, o, none⟩) len0 cap0) rfl (by kernel_rfl) (by kernel_rfl) (by kernel_rfl) (fun _ _ _ h => h) (Or.inl ⟨by rfl, by intro w hSw; go_simp⟩) hHeld ?_
        try simp only [Act.put, List.setIfInBounds_toArray, List.set_cons_zero, List.set_cons_succ]
        refine wpAnyH_take (i := 22) (oi := { dst := some 82, op := Op.move (Operand.tmp 11), type := 3, pos := "law.go:91", after := #[{ on := 14, ground := Ground.guard }], guard := some (14, true) }) (v := .int .i64 k) rfl (by kernel_rfl) (by kernel_rfl) (by kernel_rfl) (fun _ _ _ h => h) (Or.inl ⟨by rfl, by intro w hSw; go_simp⟩) hHeld ?_
        try simp only [Act.put, List.setIfInBounds_toArray, List.set_cons_zero, List.set_cons_succ]
        refine wpAnyH_take (i := 23) (oi := { dst := some 83, op := Op.slice 22 (Operand.tmp 81) (some (Operand.tmp 82)) none none, type := 22, pos := "law.go:91", after := #[{ on := 21, ground := Ground.data }, { on := 22, ground := Ground.data }, { on := 14, ground := Ground.guard }], guard := some (14, true) }) (v := .slice (some ⟨g, o + 32 * k, none⟩) (len0 - k) (cap0 - k)) rfl (by kernel_rfl) (by kernel_rfl) (by kernel_rfl) (fun _ _ _ h => h) (Or.inl ⟨by rfl, by intro W hSw; have := sr W; go_simp⟩) hHeld ?_
        try simp only [Act.put, List.setIfInBounds_toArray, List.set_cons_zero, List.set_cons_succ]
        refine wpAnyH_ready (rs := [16]) (by kernel_rfl) (by simp) ?_
        refine AllReadyH.cons (o := { dst := some 76, op := Op.call { callee := Callee.value (Operand.func 11), args := #[Operand.tmp 75], argTypes := #[22] }, type := 26, pos := "law.go:91", after := #[{ on := 15, ground := Ground.data }, { on := 14, ground := Ground.chain }, { on := 14, ground := Ground.guard }], guard := some (14, true) }) rfl (fun K hK => ?_) AllReadyH.nil
        go_simp
        refine (R0.out _ H3.out).mono ?_
        rintro e w4 ⟨rfl, hb4⟩
        have H4 : Hid (Below w.heap.size w w4) := H3.out.trans (hb4.mono H3.out.size)
        clear hb4
        go_wp2_with fail
        refine hK.out _ _ trivial (fun hHeld => ?_)
        clear hK K
        try simp only [Act.put, List.setIfInBounds_toArray, List.set_cons_zero, List.set_cons_succ]
        refine wpAnyH_ready (rs := [20]) (by kernel_rfl) (by simp) ?_
        refine AllReadyH.cons (o := { dst := some 80, op := Op.call { callee := Callee.value (Operand.func 11), args := #[Operand.tmp 79], argTypes := #[22] }, type := 26, pos := "law.go:91", after := #[{ on := 19, ground := Ground.data }, { on := 16, ground := Ground.chain }, { on := 14, ground := Ground.guard }], guard := some (14, true) }) rfl (fun K hK => ?_) AllReadyH.nil
        go_simp
        refine (R1.out _ H4.out).mono ?_
        rintro e w5 ⟨rfl, hb5⟩
        have H5 : Hid (Below w.heap.size w w5) := H4.out.trans (hb5.mono H4.out.size)
        clear hb5
        go_wp2_with fail
        refine hK.out _ _ trivial (fun hHeld => ?_)
        clear hK K
        try simp only [Act.put, List.setIfInBounds_toArray, List.set_cons_zero, List.set_cons_succ]
        refine wpAnyH_ready (rs := [24]) (by kernel_rfl) (by simp) ?_
        refine AllReadyH.cons (o := { dst := some 84, op := Op.call { callee := Callee.value (Operand.func 11), args := #[Operand.tmp 83], argTypes := #[22] }, type := 26, pos := "law.go:91", after := #[{ on := 23, ground := Ground.data }, { on := 20, ground := Ground.chain }, { on := 14, ground := Ground.guard }], guard := some (14, true) }) rfl (fun K hK => ?_) AllReadyH.nil
        go_simp
        refine (R2.out _ H5.out).mono ?_
        rintro e w6 ⟨rfl, hb6⟩
        have H6 : Hid (Below w.heap.size w w6) := H5.out.trans (hb6.mono H5.out.size)
        clear hb6
        go_wp2_with fail
        refine hK.out _ _ trivial (fun hHeld => ?_)
        clear hK K
        try simp only [Act.put, List.setIfInBounds_toArray, List.set_cons_zero, List.set_cons_succ]
        refine wpAnyH_ready (rs := [25]) (by kernel_rfl) (by simp) ?_
        refine AllReadyH.cons (o := { dst := some 85, op := Op.call { callee := Callee.value (Operand.func 20), args := #[Operand.tmp 80, Operand.tmp 84], argTypes := #[26, 26] }, type := 26, pos := "law.go:91", after := #[{ on := 20, ground := Ground.data }, { on := 24, ground := Ground.data }, { on := 24, ground := Ground.chain }, { on := 14, ground := Ground.guard }], guard := some (14, true) }) rfl (fun K hK => ?_) AllReadyH.nil
        go_simp
        refine (KK.out _ H6.out).mono ?_
        rintro e w7 ⟨rfl, hb7⟩
        have H7 : Hid (Below w.heap.size w w7) := H6.out.trans (hb7.mono H6.out.size)
        clear hb7
        go_wp2_with fail
        refine hK.out _ _ trivial (fun hHeld => ?_)
        clear hK K
        try simp only [Act.put, List.setIfInBounds_toArray, List.set_cons_zero, List.set_cons_succ]
        refine wpAnyH_take (i := 26) (oi := { dst := some 86, op := Op.binOp BinOp.eql 26 (Operand.tmp 76) (Operand.tmp 85) 26, type := 4, pos := "law.go:91", after := #[{ on := 16, ground := Ground.data }, { on := 25, ground := Ground.data }, { on := 14, ground := Ground.guard }], guard := some (14, true) }) (v := .bool true) rfl (by kernel_rfl) (by kernel_rfl) (by kernel_rfl) (fun _ _ _ h => h) (Or.inl ⟨by rfl, by intro W hSw; have := eD W; go_simp⟩) hHeld ?_
        try simp only [Act.put, List.setIfInBounds_toArray, List.set_cons_zero, List.set_cons_succ]
        refine wpAnyH_take (i := 27) (oi := { dst := some 87, op := Op.pick (Operand.tmp 74) (Operand.tmp 86) (Operand.const (Value.bool false)), type := 4, pos := "law.go:91", after := #[{ on := 14, ground := Ground.data }, { on := 26, ground := Ground.data }], guard := none }) (v := .bool true) rfl (by kernel_rfl) (by kernel_rfl) (by kernel_rfl) (fun _ _ _ h => h) (Or.inl ⟨by rfl, by intro w hSw; go_simp⟩) hHeld ?_
        try simp only [Act.put, List.setIfInBounds_toArray, List.set_cons_zero, List.set_cons_succ]
        refine wpAnyH_take (i := 28) (oi := { dst := some 4, op := Op.assign (Operand.tmp 87), type := 4, pos := "law.go:91", after := #[{ on := 27, ground := Ground.data }, { on := 25, ground := Ground.chain }, { on := 0, ground := Ground.phase }, { on := 1, ground := Ground.phase }, { on := 2, ground := Ground.phase }, { on := 3, ground := Ground.phase }, { on := 4, ground := Ground.phase }, { on := 5, ground := Ground.phase }, { on := 6, ground := Ground.phase }, { on := 7, ground := Ground.phase }, { on := 8, ground := Ground.phase }, { on := 9, ground := Ground.phase }, { on := 10, ground := Ground.phase }, { on := 11, ground := Ground.phase }, { on := 12, ground := Ground.phase }, { on := 13, ground := Ground.phase }, { on := 14, ground := Ground.phase }, { on := 15, ground := Ground.phase }, { on := 16, ground := Ground.phase }, { on := 17, ground := Ground.phase }, { on := 18, ground := Ground.phase }, { on := 19, ground := Ground.phase }, { on := 20, ground := Ground.phase }, { on := 21, ground := Ground.phase }, { on := 22, ground := Ground.phase }, { on := 23, ground := Ground.phase }, { on := 24, ground := Ground.phase }, { on := 25, ground := Ground.phase }, { on := 26, ground := Ground.phase }, { on := 27, ground := Ground.phase }], guard := none }) (v := .bool true) rfl (by kernel_rfl) (by kernel_rfl) (by kernel_rfl) (fun _ _ _ h => h) (Or.inl ⟨by rfl, by intro w hSw; go_simp⟩) hHeld ?_
        try simp only [Act.put, List.setIfInBounds_toArray, List.set_cons_zero, List.set_cons_succ]
        refine wpAnyH_done (by kernel_rfl) ?_ _
        go_wp2
        go_ret
        exact ⟨rfl, H7.out⟩

set_option maxHeartbeats 4000000 in
theorem treeShort_20_21 (a0 : Option Addr) (len0 cap0 : Nat) (z0 : List (List UInt8)) (a1 : Int) (w : World) (w0 : LReads w a0 len0 cap0 z0) (hlong : len0 ≤ 200) (m1 m2 : Nat)
    (IC : Hid (∀ W, Below w.heap.size w W → Calls Tryd.prog 16 #[.slice a0 len0 cap0, .int .i64 a1] W fun e w' => ∃ y cy, e = .returned (.tuple #[.slice y m1 cy, .int .i64 20]) ∧ Below W.heap.size W w'))
    (CC : Hid (∀ W, Below w.heap.size w W → Calls Tryd.prog 18 #[.slice a0 len0 cap0, .int .i64 a1] W fun e w' => ∃ y cy, e = .returned (.tuple #[.slice y m2 cy, .int .i64 21]) ∧ Below W.heap.size W w'))
    (hm1 : ∀ j, len0 ≤ 2 ^ j → m1 ≤ j) (hm2 : ∀ j, len0 ≤ 2 ^ j → m2 ≤ j + 1) (hK : Table 1 w) :
    Calls Tryd.prog 6 #[.slice a0 len0 cap0, .int .i64 a1] w fun e w' => e = .returned (.bool true) ∧ Below w.heap.size w w' := by
  have hd : decide ((200 : Int) < (len0 : Int)) = false := by rw [decide_eq_false_iff_not]; omega
  have T : Hid (∀ W, Below w.heap.size w W → Calls Tryd.prog 10 #[] W fun e w' => e = .returned (.bool true) ∧ Below W.heap.size W w') := fun W hb => three_true W (hK.keep hb)
  by_cases h2 : len0 < 2
  · have S : Hid (∀ W, Calls Tryd.prog 13 #[.int .i64 len0] W fun e w' => e = .returned (.int .i64 0) ∧ W = w') := fun W => by
      have := split_any (len0 : Int) W (by omega)
      rw [Int.toNat_natCast, split_small len0 h2] at this
      exact this
    clear hK w0
    go_enter Tryd.func6, Tryd.ntmps6
    go_wp2
    go_loopw [5, 6] (fun u v wr => ∃ j n : Nat, u = .int .i64 j ∧ v = .int .i64 n ∧ Hid (n = 2 ^ j) ∧ j ≤ n ∧ n < 401 ∧ 1 ≤ n ∧ w = wr) (fun _ v _ => 401 - (intOf v).toNat)
    case atStart => exact ⟨0, 1, rfl, rfl, rfl, by omega, by omega, by omega, rfl⟩
    case round =>
      obtain ⟨j, n, rfl, rfl, HN, hjn, hn4, hn1, rfl⟩ := hrel
      by_cases hlt : n < len0
      · have hdi : decide ((n : Int) < (len0 : Int)) = true := by rw [decide_eq_true_eq]; omega
        have e1 := wrap_int ((j : Int) + 1) (by omega) (by omega)
        have e2 := wrap_int (2 * (n : Int)) (by omega) (by omega)
        go_wp2
        go_roundw
        case rel =>
          refine ⟨j + 1, 2 * n, by go_num, by go_num, ?_, by omega, by omega, by omega, by trivial⟩
          show _ = _
          rw [HN.out, Nat.pow_succ, Nat.mul_comm]
        case measure => simp [intOf]; omega
      · have hdi : decide ((n : Int) < (len0 : Int)) = false := by rw [decide_eq_false_iff_not]; omega
        have hq1 := hm1 j (by rw [← HN.out]; omega)
        have hq2 := hm2 j (by rw [← HN.out]; omega)
        have e1 := wrap_int ((j : Int) + 1) (by omega) (by omega)
        have d1 : decide ((j : Int) < (m1 : Int)) = false := by rw [decide_eq_false_iff_not]; omega
        have d2 : decide ((j : Int) + 1 < (m2 : Int)) = false := by rw [decide_eq_false_iff_not]; omega
        have d3 : decide (j < m1) = false := by rw [decide_eq_false_iff_not]; omega
        have d4 : decide (j + 1 < m2) = false := by rw [decide_eq_false_iff_not]; omega
        clear hm1 hm2 HN
        go_wp2_with fail
        refine (IC.out _ (Below.refl _ _)).mono ?_
        rintro e w1 ⟨y, cy, rfl, hb1⟩
        go_wp2_with fail
        refine (CC.out _ hb1).mono ?_
        rintro e w2 ⟨z, cz, rfl, hb2⟩
        have H2 : Hid (Below w.heap.size w w2) := hb1.trans (hb2.mono hb1.size)
        clear hb1 hb2 IC CC
        go_wp2_with fail
        refine (S.out _).mono ?_
        rintro e w3 ⟨rfl, rfl⟩
        go_wp2_with fail
        refine (T.out _ H2.out).mono ?_
        rintro e w3 ⟨rfl, hb3⟩
        have H3 : Hid (Below w.heap.size w w3) := H2.out.trans (hb3.mono H2.out.size)
        clear hb3
        go_wp2
        go_ret
        exact ⟨rfl, H3.out⟩
  · obtain ⟨g, o, rfl, hg⟩ := w0.at (by omega)
    have hlen := w0.1
    have hcl := w0.2.2.1
    obtain ⟨k, hk⟩ : ∃ k, k = split len0 := ⟨_, rfl⟩
    have hkl := split_lt len0 (by omega)
    have hkp := split_pos len0 (by omega)
    have hkd := split_dbl len0 (by omega)
    rw [← hk] at hkl hkp hkd
    have S : Hid (∀ W, Calls Tryd.prog 13 #[.int .i64 len0] W fun e w' => e = .returned (.int .i64 k) ∧ W = w') := fun W => by
      have := split_any (len0 : Int) W (by omega)
      rw [Int.toNat_natCast, ← hk] at this
      exact this
    have sl := fun W => slice_left W g o len0 cap0 k (by omega)
    have sr := fun W => slice_right W g o len0 cap0 k (by omega) hcl (by omega)
    obtain ⟨D, HD⟩ : ∃ D, Hid (D = (cellsOf (root z0)).toArray) := ⟨_, (rfl : (cellsOf (root z0)).toArray = _)⟩
    obtain ⟨D1, HD1⟩ : ∃ D1, Hid (D1 = (cellsOf (root (z0.take k))).toArray) := ⟨_, (rfl : (cellsOf (root (z0.take k))).toArray = _)⟩
    obtain ⟨D2, HD2⟩ : ∃ D2, Hid (D2 = (cellsOf (root (z0.drop k))).toArray) := ⟨_, (rfl : (cellsOf (root (z0.drop k))).toArray = _)⟩
    have eD := eqSelf D (root z0) (root_length sumD_length _ w0.2.1) HD
    have R0 : Hid (∀ W, Below w.heap.size w W → Calls Tryd.prog 11 #[.slice (some ⟨g, o, none⟩) len0 cap0] W fun e w' => e = .returned (.agg D) ∧ Below W.heap.size W w') := fun W hb =>
      root_any _ _ len0 cap0 z0 W rfl (w0.keep hb) (hK.keep hb) D HD
    have R1 : Hid (∀ W, Below w.heap.size w W → Calls Tryd.prog 11 #[.slice (some ⟨g, o, none⟩) k cap0] W fun e w' => e = .returned (.agg D1) ∧ Below W.heap.size W w') := fun W hb =>
      root_any _ _ k cap0 (z0.take k) W rfl ((w0.keep hb).take k (by omega)) (hK.keep hb) D1 HD1
    have R2 : Hid (∀ W, Below w.heap.size w W → Calls Tryd.prog 11 #[.slice (some ⟨g, o + 32 * k, none⟩) (len0 - k) (cap0 - k)] W fun e w' => e = .returned (.agg D2) ∧ Below W.heap.size W w') := fun W hb =>
      root_any _ _ (len0 - k) (cap0 - k) (z0.drop k) W rfl ((w0.keep hb).drop k (by omega)) (hK.keep hb) D2 HD2
    have KK : Hid (∀ W, Below w.heap.size w W → Calls Tryd.prog 20 #[.agg D1, .agg D2] W fun e w' => e = .returned (.agg D) ∧ Below W.heap.size W w') := fun W hb => by
      rw [HD1.out, HD2.out]
      refine knot_any _ _ (root_length sumD_length _ (w0.2.1.take k)) (root_length sumD_length _ (w0.2.1.drop k)) W (hK.keep hb) D ?_
      show _ = _
      rw [HD.out, root_more z0 (by omega), hlen, ← hk]
      rfl
    have c1 : decide ((k : Int) < (len0 : Int)) = true := by rw [decide_eq_true_eq]; omega
    have c2 : decide ((len0 : Int) ≤ 2 * (k : Int)) = true := by rw [decide_eq_true_eq]; omega
    have c3 := wrap_int (2 * (k : Int)) (by omega) (by omega)
    have c4 : ((k : Int) == 0) = false := by rw [beq_eq_false_iff_ne]; omega
    have c5 : decide ((k : Int) = 0) = false := by rw [decide_eq_false_iff_not]; omega
    have c6 : ¬ k = 0 := by omega
    clear hK w0 hk hlen HD HD1 HD2
    go_enter Tryd.func6, Tryd.ntmps6
    go_wp2
    go_loopw [5, 6] (fun u v wr => ∃ j n : Nat, u = .int .i64 j ∧ v = .int .i64 n ∧ Hid (n = 2 ^ j) ∧ j ≤ n ∧ n < 401 ∧ 1 ≤ n ∧ w = wr) (fun _ v _ => 401 - (intOf v).toNat)
    case atStart => exact ⟨0, 1, rfl, rfl, rfl, by omega, by omega, by omega, rfl⟩
    case round =>
      obtain ⟨j, n, rfl, rfl, HN, hjn, hn4, hn1, rfl⟩ := hrel
      by_cases hlt : n < len0
      · have hdi : decide ((n : Int) < (len0 : Int)) = true := by rw [decide_eq_true_eq]; omega
        have e1 := wrap_int ((j : Int) + 1) (by omega) (by omega)
        have e2 := wrap_int (2 * (n : Int)) (by omega) (by omega)
        go_wp2
        go_roundw
        case rel =>
          refine ⟨j + 1, 2 * n, by go_num, by go_num, ?_, by omega, by omega, by omega, by trivial⟩
          show _ = _
          rw [HN.out, Nat.pow_succ, Nat.mul_comm]
        case measure => simp [intOf]; omega
      · have hdi : decide ((n : Int) < (len0 : Int)) = false := by rw [decide_eq_false_iff_not]; omega
        have hq1 := hm1 j (by rw [← HN.out]; omega)
        have hq2 := hm2 j (by rw [← HN.out]; omega)
        have e1 := wrap_int ((j : Int) + 1) (by omega) (by omega)
        have d1 : decide ((j : Int) < (m1 : Int)) = false := by rw [decide_eq_false_iff_not]; omega
        have d2 : decide ((j : Int) + 1 < (m2 : Int)) = false := by rw [decide_eq_false_iff_not]; omega
        have d3 : decide (j < m1) = false := by rw [decide_eq_false_iff_not]; omega
        have d4 : decide (j + 1 < m2) = false := by rw [decide_eq_false_iff_not]; omega
        clear hm1 hm2 HN
        go_wp2_with fail
        refine (IC.out _ (Below.refl _ _)).mono ?_
        rintro e w1 ⟨y, cy, rfl, hb1⟩
        go_wp2_with fail
        refine (CC.out _ hb1).mono ?_
        rintro e w2 ⟨z, cz, rfl, hb2⟩
        have H2 : Hid (Below w.heap.size w w2) := hb1.trans (hb2.mono hb1.size)
        clear hb1 hb2 IC CC
        go_wp2_with fail
        refine (S.out _).mono ?_
        rintro e w3 ⟨rfl, rfl⟩
        clear S
        go_wp2
        refine wp_region_held_drew (S := (fun _ => True)) (by kernel_rfl) trivial (fun hHeld => ?_)
        refine wpAnyH_ready (rs := [0]) (by kernel_rfl) (by simp) ?_
        refine AllReadyH.cons (o := { dst := some 60, op := Op.call { callee := Callee.value (Operand.func 10), args := #[], argTypes := #[] }, type := 4, pos := "law.go:91", after := #[], guard := none }) rfl (fun K hK => ?_) AllReadyH.nil
        go_simp
        refine (T.out _ H2.out.drew).mono ?_
        rintro e w3 ⟨rfl, hb3⟩
        have H3 : Hid (Below w.heap.size w w3) := H2.out.drew.trans (hb3.mono H2.out.size)
        clear hb3
        go_wp2_with fail
        refine hK.out _ _ trivial (fun hHeld => ?_)
        clear hK K
        try simp only [Act.put, List.setIfInBounds_toArray, List.set_cons_zero, List.set_cons_succ]
        refine wpAnyH_take (i := 1) (oi := { dst := some 61, op := Op.move (Operand.tmp 60), type := 4, pos := "law.go:91", after := #[{ on := 0, ground := Ground.data }, { on := 0, ground := Ground.chain }], guard := none }) (v := .bool true) rfl (by kernel_rfl) (by kernel_rfl) (by kernel_rfl) (fun _ _ _ h => h) (Or.inl ⟨by rfl, by intro w hSw; go_simp⟩) hHeld ?_
        try simp only [Act.put, List.setIfInBounds_toArray, List.set_cons_zero, List.set_cons_succ]
        refine wpAnyH_take (i := 2) (oi := { dst := some 62, op := Op.move (Operand.tmp 11), type := 3, pos := "law.go:91", after := #[{ on := 1, ground := Ground.guard }], guard := some (1, true) }) (v := .int .i64 k) rfl (by kernel_rfl) (by kernel_rfl) (by kernel_rfl) (fun _ _ _ h => h) (Or.inl ⟨by rfl, by intro w hSw; go_simp⟩) hHeld ?_
        try simp only [Act.put, List.setIfInBounds_toArray, List.set_cons_zero, List.set_cons_succ]
        refine wpAnyH_take (i := 3) (oi := { dst := some 63, op := Op.move (Operand.tmp 0), type := 22, pos := "law.go:91", after := #[{ on := 1, ground := Ground.guard }], guard := some (1, true) }) (v := .slice (some ⟨g, o, none⟩) len0 cap0) rfl (by kernel_rfl) (by kernel_rfl) (by kernel_rfl) (fun _ _ _ h => h) (Or.inl ⟨by rfl, by intro w hSw; go_simp⟩) hHeld ?_
        try simp only [Act.put, List.setIfInBounds_toArray, List.set_cons_zero, List.set_cons_succ]
        refine wpAnyH_take (i := 4) (oi := { dst := some 64, op := Op.call { callee := Callee.builtin Builtin.len, args := #[Operand.tmp 63], argTypes := #[22] }, type := 3, pos := "law.go:91", after := #[{ on := 3, ground := Ground.data }, { on := 1, ground := Ground.guard }], guard := some (1, true) }) (v := .int .i64 len0) rfl (by kernel_rfl) (by kernel_rfl) (by kernel_rfl) (fun _ _ _ h => h) (Or.inl ⟨by rfl, by intro w hSw; go_simp⟩) hHeld ?_
        try simp only [Act.put, List.setIfInBounds_toArray, List.set_cons_zero, List.set_cons_succ]
        refine wpAnyH_take (i := 5) (oi := { dst := some 65, op := Op.binOp BinOp.lss 3 (Operand.tmp 62) (Operand.tmp 64) 3, type := 4, pos := "law.go:91", after := #[{ on := 2, ground := Ground.data }, { on := 4, ground := Ground.data }, { on := 1, ground := Ground.guard }], guard := some (1, true) }) (v := .bool true) rfl (by kernel_rfl) (by kernel_rfl) (by kernel_rfl) (fun _ _ _ h => h) (Or.inl ⟨by rfl, by intro w hSw; go_simp⟩) hHeld ?_
        try simp only [Act.put, List.setIfInBounds_toArray, List.set_cons_zero, List.set_cons_succ]
        refine wpAnyH_take (i := 6) (oi := { dst := some 66, op := Op.pick (Operand.tmp 61) (Operand.tmp 65) (Operand.const (Value.bool false)), type := 4, pos := "law.go:91", after := #[{ on := 1, ground := Ground.data }, { on := 5, ground := Ground.data }], guard := none }) (v := .bool true) rfl (by kernel_rfl) (by kernel_rfl) (by kernel_rfl) (fun _ _ _ h => h) (Or.inl ⟨by rfl, by intro w hSw; go_simp⟩) hHeld ?_
        try simp only [Act.put, List.setIfInBounds_toArray, List.set_cons_zero, List.set_cons_succ]
        refine wpAnyH_take (i := 7) (oi := { dst := some 67, op := Op.move (Operand.tmp 66), type := 4, pos := "law.go:91", after := #[{ on := 6, ground := Ground.data }, { on := 1, ground := Ground.chain }], guard := none }) (v := .bool true) rfl (by kernel_rfl) (by kernel_rfl) (by kernel_rfl) (fun _ _ _ h => h) (Or.inl ⟨by rfl, by intro w hSw; go_simp⟩) hHeld ?_
        try simp only [Act.put, List.setIfInBounds_toArray, List.set_cons_zero, List.set_cons_succ]
        refine wpAnyH_take (i := 8) (oi := { dst := some 68, op := Op.move (Operand.tmp 0), type := 22, pos := "law.go:91", after := #[{ on := 7, ground := Ground.guard }], guard := some (7, true) }) (v := .slice (some ⟨g, o, none⟩) len0 cap0) rfl (by kernel_rfl) (by kernel_rfl) (by kernel_rfl) (fun _ _ _ h => h) (Or.inl ⟨by rfl, by intro w hSw; go_simp⟩) hHeld ?_
        try simp only [Act.put, List.setIfInBounds_toArray, List.set_cons_zero, List.set_cons_succ]
        refine wpAnyH_take (i := 9) (oi := { dst := some 69, op := Op.call { callee := Callee.builtin Builtin.len, args := #[Operand.tmp 68], argTypes := #[22] }, type := 3, pos := "law.go:91", after := #[{ on := 8, ground := Ground.data }, { on := 7, ground := Ground.guard }], guard := some (7, true) }) (v := .int .i64 len0) rfl (by kernel_rfl) (by kernel_rfl) (by kernel_rfl) (fun _ _ _ h => h) (Or.inl ⟨by rfl, by intro w hSw; go_simp⟩) hHeld ?_
        try simp only [Act.put, List.setIfInBounds_toArray, List.set_cons_zero, List.set_cons_succ]
        refine wpAnyH_take (i := 10) (oi := { dst := some 70, op := Op.move (Operand.tmp 11), type := 3, pos := "law.go:91", after := #[{ on := 7, ground := Ground.guard }], guard := some (7, true) }) (v := .int .i64 k) rfl (by kernel_rfl) (by kernel_rfl) (by kernel_rfl) (fun _ _ _ h => h) (Or.inl ⟨by rfl, by intro w hSw; go_simp⟩) hHeld ?_
        try simp only [Act.put, List.setIfInBounds_toArray, List.set_cons_zero, List.set_cons_succ]
        refine wpAnyH_take (i := 11) (oi := { dst := some 71, op := Op.binOp BinOp.mul 3 (Operand.const (Value.int IntKind.i64 2)) (Operand.tmp 70) 3, type := 3, pos := "law.go:91", after := #[{ on := 10, ground := Ground.data }, { on := 7, ground := Ground.guard }], guard := some (7, true) }) (v := .int .i64 (2 * (k : Int))) rfl (by kernel_rfl) (by kernel_rfl) (by kernel_rfl) (fun _ _ _ h => h) (Or.inl ⟨by rfl, by intro w hSw; go_simp⟩) hHeld ?_
        try simp only [Act.put, List.setIfInBounds_toArray, List.set_cons_zero, List.set_cons_succ]
        refine wpAnyH_take (i := 12) (oi := { dst := some 72, op := Op.binOp BinOp.leq 3 (Operand.tmp 69) (Operand.tmp 71) 3, type := 4, pos := "law.go:91", after := #[{ on := 9, ground := Ground.data }, { on := 11, ground := Ground.data }, { on := 7, ground := Ground.guard }], guard := some (7, true) }) (v := .bool true) rfl (by kernel_rfl) (by kernel_rfl) (by kernel_rfl) (fun _ _ _ h => h) (Or.inl ⟨by rfl, by intro w hSw; go_simp⟩) hHeld ?_
        try simp only [Act.put, List.setIfInBounds_toArray, List.set_cons_zero, List.set_cons_succ]
        refine wpAnyH_take (i := 13) (oi := { dst := some 73, op := Op.pick (Operand.tmp 67) (Operand.tmp 72) (Operand.const (Value.bool false)), type := 4, pos := "law.go:91", after := #[{ on := 7, ground := Ground.data }, { on := 12, ground := Ground.data }], guard := none }) (v := .bool true) rfl (by kernel_rfl) (by kernel_rfl) (by kernel_rfl) (fun _ _ _ h => h) (Or.inl ⟨by rfl, by intro w hSw; go_simp⟩) hHeld ?_
        try simp only [Act.put, List.setIfInBounds_toArray, List.set_cons_zero, List.set_cons_succ]
        refine wpAnyH_take (i := 14) (oi := { dst := some 74, op := Op.move (Operand.tmp 73), type := 4, pos := "law.go:91", after := #[{ on := 13, ground := Ground.data }, { on := 7, ground := Ground.chain }], guard := none }) (v := .bool true) rfl (by kernel_rfl) (by kernel_rfl) (by kernel_rfl) (fun _ _ _ h => h) (Or.inl ⟨by rfl, by intro w hSw; go_simp⟩) hHeld ?_
        try simp only [Act.put, List.setIfInBounds_toArray, List.set_cons_zero, List.set_cons_succ]
        refine wpAnyH_take (i := 15) (oi := { dst := some 75, op := Op.move (Operand.tmp 0), type := 22, pos := "law.go:91", after := #[{ on := 14, ground := Ground.guard }], guard := some (14, true) }) (v := .slice (some ⟨g, o, none⟩) len0 cap0) rfl (by kernel_rfl) (by kernel_rfl) (by kernel_rfl) (fun _ _ _ h => h) (Or.inl ⟨by rfl, by intro w hSw; go_simp⟩) hHeld ?_
        try simp only [Act.put, List.setIfInBounds_toArray, List.set_cons_zero, List.set_cons_succ]
        refine wpAnyH_take (i := 17) (oi := { dst := some 77, op := Op.move (Operand.tmp 0), type := 22, pos := "law.go:91", after := #[{ on := 14, ground := Ground.guard }], guard := some (14, true) }) (v := .slice (some ⟨g, o, none⟩) len0 cap0) rfl (by kernel_rfl) (by kernel_rfl) (by kernel_rfl) (fun _ _ _ h => h) (Or.inl ⟨by rfl, by intro w hSw; go_simp⟩) hHeld ?_
        try simp only [Act.put, List.setIfInBounds_toArray, List.set_cons_zero, List.set_cons_succ]
        refine wpAnyH_take (i := 18) (oi := { dst := some 78, op := Op.move (Operand.tmp 11), type := 3, pos := "law.go:91", after := #[{ on := 14, ground := Ground.guard }], guard := some (14, true) }) (v := .int .i64 k) rfl (by kernel_rfl) (by kernel_rfl) (by kernel_rfl) (fun _ _ _ h => h) (Or.inl ⟨by rfl, by intro w hSw; go_simp⟩) hHeld ?_
        try simp only [Act.put, List.setIfInBounds_toArray, List.set_cons_zero, List.set_cons_succ]
        refine wpAnyH_take (i := 19) (oi := { dst := some 79, op := Op.slice 22 (Operand.tmp 77) none (some (Operand.tmp 78)) none, type := 22, pos := "law.go:91", after := #[{ on := 17, ground := Ground.data }, { on := 18, ground := Ground.data }, { on := 14, ground := Ground.guard }], guard := some (14, true) }) (v := .slice (some ⟨g, o, none⟩) k cap0) rfl (by kernel_rfl) (by kernel_rfl) (by kernel_rfl) (fun _ _ _ h => h) (Or.inl ⟨by rfl, by intro W hSw; have := sl W; go_simp⟩) hHeld ?_
        try simp only [Act.put, List.setIfInBounds_toArray, List.set_cons_zero, List.set_cons_succ]
        refine wpAnyH_take (i := 21) (oi := { dst := some 81, op := Op.move (Operand.tmp 0), type := 22, pos := "law.go:91", after := #[{ on := 14, ground := Ground.guard }], guard := some (14, true) }) (v := .slice (some ⟨g, o, none⟩) len0 cap0) rfl (by kernel_rfl) (by kernel_rfl) (by kernel_rfl) (fun _ _ _ h => h) (Or.inl ⟨by rfl, by intro w hSw; go_simp⟩) hHeld ?_
        try simp only [Act.put, List.setIfInBounds_toArray, List.set_cons_zero, List.set_cons_succ]
        refine wpAnyH_take (i := 22) (oi := { dst := some 82, op := Op.move (Operand.tmp 11), type := 3, pos := "law.go:91", after := #[{ on := 14, ground := Ground.guard }], guard := some (14, true) }) (v := .int .i64 k) rfl (by kernel_rfl) (by kernel_rfl) (by kernel_rfl) (fun _ _ _ h => h) (Or.inl ⟨by rfl, by intro w hSw; go_simp⟩) hHeld ?_
        try simp only [Act.put, List.setIfInBounds_toArray, List.set_cons_zero, List.set_cons_succ]
        refine wpAnyH_take (i := 23) (oi := { dst := some 83, op := Op.slice 22 (Operand.tmp 81) (some (Operand.tmp 82)) none none, type := 22, pos := "law.go:91", after := #[{ on := 21, ground := Ground.data }, { on := 22, ground := Ground.data }, { on := 14, ground := Ground.guard }], guard := some (14, true) }) (v := .slice (some ⟨g, o + 32 * k, none⟩) (len0 - k) (cap0 - k)) rfl (by kernel_rfl) (by kernel_rfl) (by kernel_rfl) (fun _ _ _ h => h) (Or.inl ⟨by rfl, by intro W hSw; have := sr W; go_simp⟩) hHeld ?_
        try simp only [Act.put, List.setIfInBounds_toArray, List.set_cons_zero, List.set_cons_succ]
        refine wpAnyH_ready (rs := [16]) (by kernel_rfl) (by simp) ?_
        refine AllReadyH.cons (o := { dst := some 76, op := Op.call { callee := Callee.value (Operand.func 11), args := #[Operand.tmp 75], argTypes := #[22] }, type := 26, pos := "law.go:91", after := #[{ on := 15, ground := Ground.data }, { on := 14, ground := Ground.chain }, { on := 14, ground := Ground.guard }], guard := some (14, true) }) rfl (fun K hK => ?_) AllReadyH.nil
        go_simp
        refine (R0.out _ H3.out).mono ?_
        rintro e w4 ⟨rfl, hb4⟩
        have H4 : Hid (Below w.heap.size w w4) := H3.out.trans (hb4.mono H3.out.size)
        clear hb4
        go_wp2_with fail
        refine hK.out _ _ trivial (fun hHeld => ?_)
        clear hK K
        try simp only [Act.put, List.setIfInBounds_toArray, List.set_cons_zero, List.set_cons_succ]
        refine wpAnyH_ready (rs := [20]) (by kernel_rfl) (by simp) ?_
        refine AllReadyH.cons (o := { dst := some 80, op := Op.call { callee := Callee.value (Operand.func 11), args := #[Operand.tmp 79], argTypes := #[22] }, type := 26, pos := "law.go:91", after := #[{ on := 19, ground := Ground.data }, { on := 16, ground := Ground.chain }, { on := 14, ground := Ground.guard }], guard := some (14, true) }) rfl (fun K hK => ?_) AllReadyH.nil
        go_simp
        refine (R1.out _ H4.out).mono ?_
        rintro e w5 ⟨rfl, hb5⟩
        have H5 : Hid (Below w.heap.size w w5) := H4.out.trans (hb5.mono H4.out.size)
        clear hb5
        go_wp2_with fail
        refine hK.out _ _ trivial (fun hHeld => ?_)
        clear hK K
        try simp only [Act.put, List.setIfInBounds_toArray, List.set_cons_zero, List.set_cons_succ]
        refine wpAnyH_ready (rs := [24]) (by kernel_rfl) (by simp) ?_
        refine AllReadyH.cons (o := { dst := some 84, op := Op.call { callee := Callee.value (Operand.func 11), args := #[Operand.tmp 83], argTypes := #[22] }, type := 26, pos := "law.go:91", after := #[{ on := 23, ground := Ground.data }, { on := 20, ground := Ground.chain }, { on := 14, ground := Ground.guard }], guard := some (14, true) }) rfl (fun K hK => ?_) AllReadyH.nil
        go_simp
        refine (R2.out _ H5.out).mono ?_
        rintro e w6 ⟨rfl, hb6⟩
        have H6 : Hid (Below w.heap.size w w6) := H5.out.trans (hb6.mono H5.out.size)
        clear hb6
        go_wp2_with fail
        refine hK.out _ _ trivial (fun hHeld => ?_)
        clear hK K
        try simp only [Act.put, List.setIfInBounds_toArray, List.set_cons_zero, List.set_cons_succ]
        refine wpAnyH_ready (rs := [25]) (by kernel_rfl) (by simp) ?_
        refine AllReadyH.cons (o := { dst := some 85, op := Op.call { callee := Callee.value (Operand.func 20), args := #[Operand.tmp 80, Operand.tmp 84], argTypes := #[26, 26] }, type := 26, pos := "law.go:91", after := #[{ on := 20, ground := Ground.data }, { on := 24, ground := Ground.data }, { on := 24, ground := Ground.chain }, { on := 14, ground := Ground.guard }], guard := some (14, true) }) rfl (fun K hK => ?_) AllReadyH.nil
        go_simp
        refine (KK.out _ H6.out).mono ?_
        rintro e w7 ⟨rfl, hb7⟩
        have H7 : Hid (Below w.heap.size w w7) := H6.out.trans (hb7.mono H6.out.size)
        clear hb7
        go_wp2_with fail
        refine hK.out _ _ trivial (fun hHeld => ?_)
        clear hK K
        try simp only [Act.put, List.setIfInBounds_toArray, List.set_cons_zero, List.set_cons_succ]
        refine wpAnyH_take (i := 26) (oi := { dst := some 86, op := Op.binOp BinOp.eql 26 (Operand.tmp 76) (Operand.tmp 85) 26, type := 4, pos := "law.go:91", after := #[{ on := 16, ground := Ground.data }, { on := 25, ground := Ground.data }, { on := 14, ground := Ground.guard }], guard := some (14, true) }) (v := .bool true) rfl (by kernel_rfl) (by kernel_rfl) (by kernel_rfl) (fun _ _ _ h => h) (Or.inl ⟨by rfl, by intro W hSw; have := eD W; go_simp⟩) hHeld ?_
        try simp only [Act.put, List.setIfInBounds_toArray, List.set_cons_zero, List.set_cons_succ]
        refine wpAnyH_take (i := 27) (oi := { dst := some 87, op := Op.pick (Operand.tmp 74) (Operand.tmp 86) (Operand.const (Value.bool false)), type := 4, pos := "law.go:91", after := #[{ on := 14, ground := Ground.data }, { on := 26, ground := Ground.data }], guard := none }) (v := .bool true) rfl (by kernel_rfl) (by kernel_rfl) (by kernel_rfl) (fun _ _ _ h => h) (Or.inl ⟨by rfl, by intro w hSw; go_simp⟩) hHeld ?_
        try simp only [Act.put, List.setIfInBounds_toArray, List.set_cons_zero, List.set_cons_succ]
        refine wpAnyH_take (i := 28) (oi := { dst := some 4, op := Op.assign (Operand.tmp 87), type := 4, pos := "law.go:91", after := #[{ on := 27, ground := Ground.data }, { on := 25, ground := Ground.chain }, { on := 0, ground := Ground.phase }, { on := 1, ground := Ground.phase }, { on := 2, ground := Ground.phase }, { on := 3, ground := Ground.phase }, { on := 4, ground := Ground.phase }, { on := 5, ground := Ground.phase }, { on := 6, ground := Ground.phase }, { on := 7, ground := Ground.phase }, { on := 8, ground := Ground.phase }, { on := 9, ground := Ground.phase }, { on := 10, ground := Ground.phase }, { on := 11, ground := Ground.phase }, { on := 12, ground := Ground.phase }, { on := 13, ground := Ground.phase }, { on := 14, ground := Ground.phase }, { on := 15, ground := Ground.phase }, { on := 16, ground := Ground.phase }, { on := 17, ground := Ground.phase }, { on := 18, ground := Ground.phase }, { on := 19, ground := Ground.phase }, { on := 20, ground := Ground.phase }, { on := 21, ground := Ground.phase }, { on := 22, ground := Ground.phase }, { on := 23, ground := Ground.phase }, { on := 24, ground := Ground.phase }, { on := 25, ground := Ground.phase }, { on := 26, ground := Ground.phase }, { on := 27, ground := Ground.phase }], guard := none }) (v := .bool true) rfl (by kernel_rfl) (by kernel_rfl) (by kernel_rfl) (fun _ _ _ h => h) (Or.inl ⟨by rfl, by intro w hSw; go_simp⟩) hHeld ?_
        try simp only [Act.put, List.setIfInBounds_toArray, List.set_cons_zero, List.set_cons_succ]
        refine wpAnyH_done (by kernel_rfl) ?_ _
        go_wp2
        go_ret
        exact ⟨rfl, H7.out⟩

theorem incl_reads (a : Option Addr) (len cap : Nat) (l : List (List UInt8)) (i : Nat) (w : World) (hR : LReads w a len cap l) (hi : i < len) (hl : len ≤ 100000) (hK : Table 1 w) :
    Calls Tryd.prog 16 #[.slice a len cap, .int .i64 i] w fun e w' => ∃ y cy, e = .returned (.tuple #[.slice y (incl l i).length cy, .int .i64 0]) ∧ Below w.heap.size w w' := by
  refine (inclusion_in a len cap l i w hR hi hl hK).mono ?_
  rintro e w' ⟨v, rfl, ho, hb⟩
  obtain ⟨y, cy, rfl, _, _⟩ := LReads.own ho (incl_digs sumD_length _ l i rfl hR.2.1)
  exact ⟨y, cy, rfl, hb⟩
theorem goes_reads (a : Option Addr) (len cap : Nat) (l : List (List UInt8)) (m : Nat) (w : World) (hR : LReads w a len cap l) (hm1 : 1 ≤ m) (hm : m ≤ len) (hl : len ≤ 100000) (hK : Table 1 w) :
    Calls Tryd.prog 18 #[.slice a len cap, .int .i64 m] w fun e w' => ∃ y cy, e = .returned (.tuple #[.slice y (goes l m true).length cy, .int .i64 0]) ∧ Below w.heap.size w w' := by
  refine (consistency_in a len cap l m w hR hm1 hm hl hK).mono ?_
  rintro e w' ⟨v, rfl, ho, hb⟩
  obtain ⟨y, cy, rfl, _, _⟩ := LReads.own ho (goes_digs sumD_length _ l m true rfl hR.2.1)
  exact ⟨y, cy, rfl, hb⟩

set_option maxHeartbeats 1000000 in
theorem treeShort_walk (a0 : Option Addr) (len0 cap0 : Nat) (z0 : List (List UInt8)) (a1 : Int) (w : World) (w0 : LReads w a0 len0 cap0 z0) (w1 : (Lit.int .i64 a1).wf = true) (hK : Table 1 w) :
    Calls Tryd.prog 6 #[.slice a0 len0 cap0, .int .i64 a1] w fun e w' => e = .returned (.bool true) ∧ Below w.heap.size w w' := by
  have hb := bounds_i64 w1
  have hlen := w0.1
  have hmx : len0 ≤ 9223372036854775807 := by have := w0.2.2.2.1; unfold maxLen at this; omega
  by_cases hlong : 200 < len0
  · have hd : decide ((200 : Int) < (len0 : Int)) = true := by rw [decide_eq_true_eq]; omega
    go_enter Tryd.func6, Tryd.ntmps6
    go_wp2
    go_ret
    exact ⟨rfl, Below.refl _ _⟩
  · have out1 : a1 < 0 ∨ (len0 : Int) ≤ a1 → Hid (∀ W, Below w.heap.size w W → Calls Tryd.prog 16 #[.slice a0 len0 cap0, .int .i64 a1] W fun e w' => ∃ y cy, e = .returned (.tuple #[.slice y 0 cy, .int .i64 20]) ∧ Below W.heap.size W w') := fun ho W _ => by
      refine (inclusion_out a0 len0 cap0 a1 W w0.2.2.2.1 ho).mono ?_
      rintro e w' ⟨rfl, hb⟩
      exact ⟨none, 0, rfl, hb⟩
    by_cases h0 : a1 < 0
    · refine treeShort_20_21 a0 len0 cap0 z0 a1 w w0 (by omega) 0 0 (out1 (.inl h0)) (fun W _ => ?_) (fun _ _ => by omega) (fun _ _ => by omega) hK
      refine (consistency_out a0 len0 cap0 a1 W w0.2.2.2.1 (.inl h0)).mono ?_
      rintro e w' ⟨rfl, hb⟩
      exact ⟨none, 0, rfl, hb⟩
    by_cases h1 : (len0 : Int) < a1
    · refine treeShort_20_21 a0 len0 cap0 z0 a1 w w0 (by omega) 0 0 (out1 (.inr (by omega))) (fun W _ => ?_) (fun _ _ => by omega) (fun _ _ => by omega) hK
      refine (consistency_out a0 len0 cap0 a1 W w0.2.2.2.1 (.inr h1)).mono ?_
      rintro e w' ⟨rfl, hb⟩
      exact ⟨none, 0, rfl, hb⟩
    obtain ⟨i, hi⟩ : ∃ i : Nat, a1 = i := ⟨a1.toNat, by omega⟩
    subst hi
    obtain ⟨m2, hm2, CC⟩ : ∃ m2, (∀ j, len0 ≤ 2 ^ j → m2 ≤ j + 1) ∧ Hid (∀ W, Below w.heap.size w W → Calls Tryd.prog 18 #[.slice a0 len0 cap0, .int .i64 i] W fun e w' => ∃ y cy, e = .returned (.tuple #[.slice y m2 cy, .int .i64 0]) ∧ Below W.heap.size W w') := by
      by_cases hi0 : i = 0
      · subst hi0
        refine ⟨0, fun _ _ => by omega, fun W _ => ?_⟩
        refine (consistency_none a0 len0 cap0 W).mono ?_
        rintro e w' ⟨rfl, hb⟩
        exact ⟨none, 0, rfl, hb⟩
      · exact ⟨_, fun j hj => goes_short j z0 i true (by omega), fun W hb => goes_reads a0 len0 cap0 z0 i W (w0.keep hb) (by omega) (by omega) (by omega) (hK.keep hb)⟩
    by_cases h2 : i < len0
    · exact treeShort_0_0 a0 len0 cap0 z0 i w w0 (by omega) (incl z0 i).length m2 (fun W hb => incl_reads a0 len0 cap0 z0 i W (w0.keep hb) h2 (by omega) (hK.keep hb)) CC (fun j hj => incl_short j z0 i (by omega)) hm2 hK
    · exact treeShort_20_0 a0 len0 cap0 z0 i w w0 (by omega) 0 m2 (out1 (.inr (by omega))) CC (fun _ _ => by omega) hm2 hK
end Go.Proofs.YtpjchiihiclhiaaDoor
