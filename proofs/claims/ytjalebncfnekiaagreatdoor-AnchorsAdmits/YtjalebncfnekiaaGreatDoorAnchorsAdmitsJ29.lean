/- Texts of our own that the row of AnchorsAdmits leans on, part 29. -/
import Derived.Test.YtjalebncfnekiaaGreatDoorAnchorsAdmitsJ0
import Derived.Test.YtjalebncfnekiaaGreatDoorAnchorsAdmitsJ26
import Derived.Test.YtjalebncfnekiaaGreatDoorAnchorsAdmitsJ28
/- What the document's Consistent answers. -/
namespace Go.Proofs.YtjalebncfnekiaaGreatDoor.P5
open Go.RowKit Sums
set_option maxRecDepth 100000
set_option linter.unusedVariables false
set_option linter.unusedSimpArgs false
set_option maxHeartbeats 8000000 in
theorem refCon_any (m : Int) (old : List UInt8) (n : Int) (root : List UInt8) (proof : List (List UInt8)) (a : Option Addr) (len cap : Nat) (w : World) (O R : Array Value) (HO : Hid (O = (cellsOf old).toArray)) (HR : Hid (R = (cellsOf root).toArray)) (ho : old.length = 32) (hr : root.length = 32)
    (hm : -9223372036854775808 ≤ m ∧ m ≤ 9223372036854775807) (hn : -9223372036854775808 ≤ n ∧ n ≤ 9223372036854775807) (hR : LReads w a len cap proof) (hK : Table 0 w) :
    Calls Tryz.prog 26 #[.int .i64 m, .agg O, .int .i64 n, .agg R, .slice a len cap] w fun e w' => e = .returned (.int .i64 (conE m old n root proof)) ∧ Below w.heap.size w w' := by
  have hlen := hR.1
  have hlx : len ≤ 9223372036854775807 := by have := hR.2.2.2.1; unfold maxLen at this; omega
  have HB := hidk (came w O R)
  have bad : ((decide (n < 0) = true) ∨ (decide (n < 0) = false ∧ decide (100000 < n) = true) ∨ (decide (n < 0) = false ∧ decide (100000 < n) = false ∧ decide (m < 0) = true) ∨ (decide (n < 0) = false ∧ decide (100000 < n) = false ∧ decide (m < 0) = false ∧ decide (n < m) = true) ∨ (decide (n < 0) = false ∧ decide (100000 < n) = false ∧ decide (m < 0) = false ∧ decide (n < m) = false ∧ decide (40 < (len : Int)) = true) ∨ (decide (n < 0) = false ∧ decide (100000 < n) = false ∧ decide (m < 0) = false ∧ decide (n < m) = false ∧ decide (40 < (len : Int)) = false ∧ (m == 0) = true ∧ decide (0 < (len : Int)) = true)) →
      Calls Tryz.prog 26 #[.int .i64 m, .agg O, .int .i64 n, .agg R, .slice a len cap] w fun e w' => e = .returned (.int .i64 40) ∧ Below w.heap.size w w' := by
    intro hc
    clear hR hK HR HO hr ho hlen
    rcases hc with d1 | ⟨d1, d2⟩ | ⟨d1, d2, d3⟩ | ⟨d1, d2, d3, d4⟩ | ⟨d1, d2, d3, d4, d5⟩ | ⟨d1, d2, d3, d4, d5, d6, d7⟩
    all_goals
      try have hpos : 0 < len := (by have := of_decide_eq_true d7; omega)
      go_enter Tryz.func26, Tryz.ntmps26
      go_wp2
      go_ret
      exact ⟨rfl, HB.out.1⟩
  by_cases c1 : n < 0
  · rw [conE_out m old n root proof (by omega)]
    exact bad (.inl (by simpa using c1))
  have d1 : decide (n < 0) = false := by rw [decide_eq_false_iff_not]; exact c1
  by_cases c2 : 100000 < n
  · rw [conE_out m old n root proof (by omega)]
    exact bad (.inr (.inl ⟨d1, by simpa using c2⟩))
  have d2 : decide (100000 < n) = false := by rw [decide_eq_false_iff_not]; exact c2
  by_cases c3 : m < 0
  · rw [conE_out m old n root proof (by omega)]
    exact bad (.inr (.inr (.inl ⟨d1, d2, by simpa using c3⟩)))
  have d3 : decide (m < 0) = false := by rw [decide_eq_false_iff_not]; exact c3
  by_cases c4 : n < m
  · rw [conE_out m old n root proof (by omega)]
    exact bad (.inr (.inr (.inr (.inl ⟨d1, d2, d3, by simpa using c4⟩))))
  have d4 : decide (n < m) = false := by rw [decide_eq_false_iff_not]; exact c4
  by_cases c5 : 40 < len
  · rw [conE_long m old n root proof (by omega)]
    exact bad (.inr (.inr (.inr (.inr (.inl ⟨d1, d2, d3, d4, by rw [decide_eq_true_eq]; omega⟩)))))
  have d5 : decide (40 < (len : Int)) = false := by rw [decide_eq_false_iff_not]; omega
  obtain ⟨N, rfl⟩ : ∃ N : Nat, n = N := ⟨n.toNat, by omega⟩
  obtain ⟨M, rfl⟩ : ∃ M : Nat, m = M := ⟨m.toNat, by omega⟩
  have HSO : Hid ((Tryz.prog.info? 25).map (·.size) = some O.size) := by show _ = _; rw [size23, HO.out]; simp [cellsOf_length, ho]
  have HSR : Hid ((Tryz.prog.info? 25).map (·.size) = some R.size) := by show _ = _; rw [size23, HR.out]; simp [cellsOf_length, hr]
  by_cases h0 : M = 0
  · subst h0
    by_cases c6 : len = 0
    · have hp : proof = [] := List.eq_nil_of_length_eq_zero (by omega)
      subst hp c6
      clear bad
      show Calls Tryz.prog 26 #[.int .i64 0, .agg O, .int .i64 N, .agg R, .slice a 0 cap] w fun e w' => e = .returned (.int .i64 (conE 0 old N root [])) ∧ Below w.heap.size w w'
      rw [conE_none old N root [] (by omega), if_pos rfl]
      obtain ⟨S, HS, _, _, _⟩ := dig_row' (sumD []) (sumD_length _)
      have SM : Hid (∀ W, Below w.heap.size w W → Calls Tryz.prog 25 #[.string ⟨#[]⟩] W fun e w' => e = .returned (.agg S) ∧ Below W.heap.size W w') := fun W hb => refSum_any ⟨#[]⟩ W (by decide) (hK.keep hb) S (by show _ = _; rw [HS.out])
      have NE1 := fun v hv W => neqDigV old (sumD []) ho (sumD_length _) O S HO HS v hv W
      have NE2 := fun v hv W => neqDigV root old hr ho R O HR HO v hv W
      clear hR hK hlen HS
      by_cases h1 : old = sumD []
      · by_cases h2 : N = 0
        · subst h2
          by_cases h3 : root = old
          · rw [if_pos ⟨h1, fun _ => h3⟩]
            have n1 := fun W => NE1 false (by simp [h1]) W
            have n2 := fun W => NE2 false (by simp [h3]) W
            clear NE1 NE2 h1 h3
            go_enter Tryz.func26, Tryz.ntmps26
            go_wp2
            refine wp_region_held_drew (S := (fun W => W.heap[w.heap.size]? = some (.cells O 25 (0, 0)) ∧ W.heap[w.heap.size + 1]? = some (.cells R 25 (0, 0)))) (by kernel_rfl) (show _ ∧ _ from HB.out.2) (fun hHeld => ?_)
            refine zW 0 (.agg O) rfl (yieldsIf_row (by rfl) 25 (.tmp 6) rfl w.heap.size rfl 25 O (0, 0) _ (fun _ h => h.1) Tryz.underlying25 rfl HSO.out) hHeld ?_
            try simp only [Act.put, pS1, pS2, pS3]
            refine wpAnyH_ready (rs := [1]) (by kernel_rfl) (by simp) ?_
            refine AllReadyH.cons (o := { dst := some 46, op := .call { callee := .value (.func 25), args := #[.const (.string { data := #[] })], argTypes := #[9] }, type := 25, pos := "ref.go:69", after := #[], guard := none }) rfl (fun K hK => ?_) AllReadyH.nil
            go_simp
            refine (SM.out _ HB.out.1.drew).mono ?_
            rintro e w2 ⟨rfl, hb2⟩
            have HB3 := hidk (Below.trans HB.out.1.drew (hb2.mono HB.out.1.size))
            go_wp2_with fail
            refine hK.out _ _ ⟨(hb2.block _ (heap_lt hHeld.1)).trans hHeld.1, (hb2.block _ (heap_lt hHeld.2)).trans hHeld.2⟩ (fun hHeld => ?_)
            clear hK K
            try simp only [Act.put, pS1, pS2, pS3]
            refine zW 2 (.bool false) rfl (Or.inl ⟨by rfl, by intro W hSw; have := n1 W; go_simp⟩) hHeld ?_
            try simp only [Act.put, pS1, pS2, pS3]
            refine zW 3 (.bool false) rfl (Or.inl ⟨by rfl, by intro w hSw; go_simp⟩) hHeld ?_
            try simp only [Act.put, pS1, pS2, pS3]
            refine zW 4 (.int .i64 0) rfl (Or.inl ⟨by rfl, by intro w hSw; go_simp⟩) hHeld ?_
            try simp only [Act.put, pS1, pS2, pS3]
            refine zW 5 (.bool true) rfl (Or.inl ⟨by rfl, by intro w hSw; go_simp⟩) hHeld ?_
            try simp only [Act.put, pS1, pS2, pS3]
            refine zW 6 (.bool true) rfl (Or.inl ⟨by rfl, by intro w hSw; go_simp⟩) hHeld ?_
            try simp only [Act.put, pS1, pS2, pS3]
            refine zW 7 (.agg R) rfl (yieldsIf_row (by rfl) 25 (.tmp 8) rfl (w.heap.size + 1) rfl 25 R (0, 0) _ (fun _ h => h.2) Tryz.underlying25 rfl HSR.out) hHeld ?_
            try simp only [Act.put, pS1, pS2, pS3]
            refine zW 8 (.agg O) rfl (yieldsIf_row (by rfl) 25 (.tmp 6) rfl w.heap.size rfl 25 O (0, 0) _ (fun _ h => h.1) Tryz.underlying25 rfl HSO.out) hHeld ?_
            try simp only [Act.put, pS1, pS2, pS3]
            refine zW 9 (.bool false) rfl (Or.inl ⟨by rfl, by intro W hSw; have := n2 W; go_simp⟩) hHeld ?_
            try simp only [Act.put, pS1, pS2, pS3]
            refine zW 10 (.bool false) rfl (Or.inl ⟨by rfl, by intro w hSw; go_simp⟩) hHeld ?_
            try simp only [Act.put, pS1, pS2, pS3]
            refine zW 11 (.bool false) rfl (Or.inl ⟨by rfl, by intro w hSw; go_simp⟩) hHeld ?_
            try simp only [Act.put, pS1, pS2, pS3]
            refine wpAnyH_done (by kernel_rfl) ?_ _
            go_wp2
            go_ret
            exact ⟨rfl, HB3.out⟩
          · rw [if_neg (fun h => h3 (h.2 rfl))]
            have n1 := fun W => NE1 false (by simp [h1]) W
            have n2 := fun W => NE2 true (by simp [h3]) W
            clear NE1 NE2 h1 h3
            go_enter Tryz.func26, Tryz.ntmps26
            go_wp2
            refine wp_region_held_drew (S := (fun W => W.heap[w.heap.size]? = some (.cells O 25 (0, 0)) ∧ W.heap[w.heap.size + 1]? = some (.cells R 25 (0, 0)))) (by kernel_rfl) (show _ ∧ _ from HB.out.2) (fun hHeld => ?_)
            refine zW 0 (.agg O) rfl (yieldsIf_row (by rfl) 25 (.tmp 6) rfl w.heap.size rfl 25 O (0, 0) _ (fun _ h => h.1) Tryz.underlying25 rfl HSO.out) hHeld ?_
            try simp only [Act.put, pS1, pS2, pS3]
            refine wpAnyH_ready (rs := [1]) (by kernel_rfl) (by simp) ?_
            refine AllReadyH.cons (o := { dst := some 46, op := .call { callee := .value (.func 25), args := #[.const (.string { data := #[] })], argTypes := #[9] }, type := 25, pos := "ref.go:69", after := #[], guard := none }) rfl (fun K hK => ?_) AllReadyH.nil
            go_simp
            refine (SM.out _ HB.out.1.drew).mono ?_
            rintro e w2 ⟨rfl, hb2⟩
            have HB3 := hidk (Below.trans HB.out.1.drew (hb2.mono HB.out.1.size))
            go_wp2_with fail
            refine hK.out _ _ ⟨(hb2.block _ (heap_lt hHeld.1)).trans hHeld.1, (hb2.block _ (heap_lt hHeld.2)).trans hHeld.2⟩ (fun hHeld => ?_)
            clear hK K
            try simp only [Act.put, pS1, pS2, pS3]
            refine zW 2 (.bool false) rfl (Or.inl ⟨by rfl, by intro W hSw; have := n1 W; go_simp⟩) hHeld ?_
            try simp only [Act.put, pS1, pS2, pS3]
            refine zW 3 (.bool false) rfl (Or.inl ⟨by rfl, by intro w hSw; go_simp⟩) hHeld ?_
            try simp only [Act.put, pS1, pS2, pS3]
            refine zW 4 (.int .i64 0) rfl (Or.inl ⟨by rfl, by intro w hSw; go_simp⟩) hHeld ?_
            try simp only [Act.put, pS1, pS2, pS3]
            refine zW 5 (.bool true) rfl (Or.inl ⟨by rfl, by intro w hSw; go_simp⟩) hHeld ?_
            try simp only [Act.put, pS1, pS2, pS3]
            refine zW 6 (.bool true) rfl (Or.inl ⟨by rfl, by intro w hSw; go_simp⟩) hHeld ?_
            try simp only [Act.put, pS1, pS2, pS3]
            refine zW 7 (.agg R) rfl (yieldsIf_row (by rfl) 25 (.tmp 8) rfl (w.heap.size + 1) rfl 25 R (0, 0) _ (fun _ h => h.2) Tryz.underlying25 rfl HSR.out) hHeld ?_
            try simp only [Act.put, pS1, pS2, pS3]
            refine zW 8 (.agg O) rfl (yieldsIf_row (by rfl) 25 (.tmp 6) rfl w.heap.size rfl 25 O (0, 0) _ (fun _ h => h.1) Tryz.underlying25 rfl HSO.out) hHeld ?_
            try simp only [Act.put, pS1, pS2, pS3]
            refine zW 9 (.bool true) rfl (Or.inl ⟨by rfl, by intro W hSw; have := n2 W; go_simp⟩) hHeld ?_
            try simp only [Act.put, pS1, pS2, pS3]
            refine zW 10 (.bool true) rfl (Or.inl ⟨by rfl, by intro w hSw; go_simp⟩) hHeld ?_
            try simp only [Act.put, pS1, pS2, pS3]
            refine zW 11 (.bool true) rfl (Or.inl ⟨by rfl, by intro w hSw; go_simp⟩) hHeld ?_
            try simp only [Act.put, pS1, pS2, pS3]
            refine wpAnyH_done (by kernel_rfl) ?_ _
            go_wp2
            go_ret
            exact ⟨rfl, HB3.out⟩
        · rw [if_pos ⟨h1, fun e => absurd e (by omega)⟩]
          have n1 := fun W => NE1 false (by simp [h1]) W
          have c7 : ((N : Int) == 0) = false := by rw [beq_eq_false_iff_ne]; omega
          clear NE1 NE2 h1
          go_enter Tryz.func26, Tryz.ntmps26
          go_wp2
          refine wp_region_held_drew (S := (fun W => W.heap[w.heap.size]? = some (.cells O 25 (0, 0)) ∧ W.heap[w.heap.size + 1]? = some (.cells R 25 (0, 0)))) (by kernel_rfl) (show _ ∧ _ from HB.out.2) (fun hHeld => ?_)
          refine zW 0 (.agg O) rfl (yieldsIf_row (by rfl) 25 (.tmp 6) rfl w.heap.size rfl 25 O (0, 0) _ (fun _ h => h.1) Tryz.underlying25 rfl HSO.out) hHeld ?_
          try simp only [Act.put, pS1, pS2, pS3]
          refine wpAnyH_ready (rs := [1]) (by kernel_rfl) (by simp) ?_
          refine AllReadyH.cons (o := { dst := some 46, op := .call { callee := .value (.func 25), args := #[.const (.string { data := #[] })], argTypes := #[9] }, type := 25, pos := "ref.go:69", after := #[], guard := none }) rfl (fun K hK => ?_) AllReadyH.nil
          go_simp
          refine (SM.out _ HB.out.1.drew).mono ?_
          rintro e w2 ⟨rfl, hb2⟩
          have HB3 := hidk (Below.trans HB.out.1.drew (hb2.mono HB.out.1.size))
          go_wp2_with fail
          refine hK.out _ _ ⟨(hb2.block _ (heap_lt hHeld.1)).trans hHeld.1, (hb2.block _ (heap_lt hHeld.2)).trans hHeld.2⟩ (fun hHeld => ?_)
          clear hK K
          try simp only [Act.put, pS1, pS2, pS3]
          refine zW 2 (.bool false) rfl (Or.inl ⟨by rfl, by intro W hSw; have := n1 W; go_simp⟩) hHeld ?_
          try simp only [Act.put, pS1, pS2, pS3]
          refine zW 3 (.bool false) rfl (Or.inl ⟨by rfl, by intro w hSw; go_simp⟩) hHeld ?_
          try simp only [Act.put, pS1, pS2, pS3]
          refine zW 4 (.int .i64 N) rfl (Or.inl ⟨by rfl, by intro w hSw; go_simp⟩) hHeld ?_
          try simp only [Act.put, pS1, pS2, pS3]
          refine zW 5 (.bool false) rfl (Or.inl ⟨by rfl, by intro w hSw; go_simp⟩) hHeld ?_
          try simp only [Act.put, pS1, pS2, pS3]
          refine zW 6 (.bool false) rfl (Or.inl ⟨by rfl, by intro w hSw; go_simp⟩) hHeld ?_
          try simp only [Act.put, pS1, pS2, pS3]
          refine zW 7 (undef) rfl (Or.inr ⟨by rfl, rfl⟩) hHeld ?_
          try simp only [Act.put, pS1, pS2, pS3]
          refine zW 8 (undef) rfl (Or.inr ⟨by rfl, rfl⟩) hHeld ?_
          try simp only [Act.put, pS1, pS2, pS3]
          refine zW 9 (undef) rfl (Or.inr ⟨by rfl, rfl⟩) hHeld ?_
          try simp only [Act.put, pS1, pS2, pS3]
          refine zW 10 (.bool false) rfl (Or.inl ⟨by rfl, by intro w hSw; go_simp⟩) hHeld ?_
          try simp only [Act.put, pS1, pS2, pS3]
          refine zW 11 (.bool false) rfl (Or.inl ⟨by rfl, by intro w hSw; go_simp⟩) hHeld ?_
          try simp only [Act.put, pS1, pS2, pS3]
          refine wpAnyH_done (by kernel_rfl) ?_ _
          go_wp2
          go_ret
          exact ⟨rfl, HB3.out⟩
      · rw [if_neg (fun h => h1 h.1)]
        have n1 := fun W => NE1 true (by simp [h1]) W
        clear NE1 NE2 h1
        go_enter Tryz.func26, Tryz.ntmps26
        go_wp2
        refine wp_region_held_drew (S := (fun W => W.heap[w.heap.size]? = some (.cells O 25 (0, 0)) ∧ W.heap[w.heap.size + 1]? = some (.cells R 25 (0, 0)))) (by kernel_rfl) (show _ ∧ _ from HB.out.2) (fun hHeld => ?_)
        refine zW 0 (.agg O) rfl (yieldsIf_row (by rfl) 25 (.tmp 6) rfl w.heap.size rfl 25 O (0, 0) _ (fun _ h => h.1) Tryz.underlying25 rfl HSO.out) hHeld ?_
        try simp only [Act.put, pS1, pS2, pS3]
        refine wpAnyH_ready (rs := [1]) (by kernel_rfl) (by simp) ?_
        refine AllReadyH.cons (o := { dst := some 46, op := .call { callee := .value (.func 25), args := #[.const (.string { data := #[] })], argTypes := #[9] }, type := 25, pos := "ref.go:69", after := #[], guard := none }) rfl (fun K hK => ?_) AllReadyH.nil
        go_simp
        refine (SM.out _ HB.out.1.drew).mono ?_
        rintro e w2 ⟨rfl, hb2⟩
        have HB3 := hidk (Below.trans HB.out.1.drew (hb2.mono HB.out.1.size))
        go_wp2_with fail
        refine hK.out _ _ ⟨(hb2.block _ (heap_lt hHeld.1)).trans hHeld.1, (hb2.block _ (heap_lt hHeld.2)).trans hHeld.2⟩ (fun hHeld => ?_)
        clear hK K
        try simp only [Act.put, pS1, pS2, pS3]
        refine zW 2 (.bool true) rfl (Or.inl ⟨by rfl, by intro W hSw; have := n1 W; go_simp⟩) hHeld ?_
        try simp only [Act.put, pS1, pS2, pS3]
        refine zW 3 (.bool true) rfl (Or.inl ⟨by rfl, by intro w hSw; go_simp⟩) hHeld ?_
        try simp only [Act.put, pS1, pS2, pS3]
        refine zW 4 (undef) rfl (Or.inr ⟨by rfl, rfl⟩) hHeld ?_
        try simp only [Act.put, pS1, pS2, pS3]
        refine zW 5 (undef) rfl (Or.inr ⟨by rfl, rfl⟩) hHeld ?_
        try simp only [Act.put, pS1, pS2, pS3]
        refine zW 6 (undef) rfl (Or.inr ⟨by rfl, rfl⟩) hHeld ?_
        try simp only [Act.put, pS1, pS2, pS3]
        refine zW 7 (undef) rfl (Or.inr ⟨by rfl, rfl⟩) hHeld ?_
        try simp only [Act.put, pS1, pS2, pS3]
        refine zW 8 (undef) rfl (Or.inr ⟨by rfl, rfl⟩) hHeld ?_
        try simp only [Act.put, pS1, pS2, pS3]
        refine zW 9 (undef) rfl (Or.inr ⟨by rfl, rfl⟩) hHeld ?_
        try simp only [Act.put, pS1, pS2, pS3]
        refine zW 10 (undef) rfl (Or.inr ⟨by rfl, rfl⟩) hHeld ?_
        try simp only [Act.put, pS1, pS2, pS3]
        refine zW 11 (.bool true) rfl (Or.inl ⟨by rfl, by intro w hSw; go_simp⟩) hHeld ?_
        try simp only [Act.put, pS1, pS2, pS3]
        refine wpAnyH_done (by kernel_rfl) ?_ _
        go_wp2
        go_ret
        exact ⟨rfl, HB3.out⟩
    · have e : conE ((0 : Nat) : Int) old N root proof = 40 := by
        show conE 0 old N root proof = 40
        rw [conE_none old N root proof (by omega), if_neg]
        intro e; subst e; simp at hlen; omega
      rw [e]
      exact bad (.inr (.inr (.inr (.inr (.inr ⟨d1, d2, d3, d4, d5, rfl, by rw [decide_eq_true_eq]; omega⟩)))))
  · clear bad
    rw [conE_in M old N root proof (by omega) (by omega) (by omega)]
    have c7 : ((M : Int) == 0) = false := by rw [beq_eq_false_iff_ne]; omega
    have hdp : Digs32 proof.reverse := fun z hz => hR.2.1 z (List.mem_reverse.1 hz)
    have hbl := bothR_length sumD_length proof.reverse M N old true ho hdp
    obtain ⟨FA, HFA, HSFA, H1FA, H32A⟩ := dig_row' (bothR proof.reverse M N old true).1 hbl.1
    obtain ⟨FB, HFB, HSFB, H1FB, H32B⟩ := dig_row' (bothR proof.reverse M N old true).2.1 hbl.2
    obtain ⟨b, Hb⟩ : ∃ b, Hid (b = (bothR proof.reverse M N old true).2.2) := ⟨_, (rfl : (bothR proof.reverse M N old true).2.2 = _)⟩
    obtain ⟨Z, HZ, HA, HS, H1, H32⟩ := noughts27
    have HZA : Hid (Z.size = FA.size) := by show _ = _; rw [H32.out, H32A.out]
    have HZB : Hid (Z.size = FB.size) := by show _ = _; rw [H32.out, H32B.out]
    have BT : Hid (∀ W, Below w.heap.size w W → Calls Tryz.prog 45 #[.int .i64 M, .int .i64 N, .agg O, .bool true, .slice a len cap] W fun e w' => e = .returned (.tuple #[.agg FA, .agg FB, .bool b]) ∧ Below W.heap.size W w') := fun W hb =>
      refBoth_any len proof hlen M N old true a len cap W (by omega) (by omega) (by omega) (hR.keep hb) ho (hK.keep hb) O HO FA FB HFA HFB b Hb
    have NE1 := fun v hv W => neqDigV _ old hbl.1 ho FA O HFA HO v hv W
    have NE2 := fun v hv W => neqDigV _ root hbl.2 hr FB R HFB HR v hv W
    have HBK : Hid (∀ W, Below ((w.alloc (.cells O 25)).alloc (.cells R 25)).heap.size ((w.alloc (.cells O 25)).alloc (.cells R 25)) W → Came w W O R) := fun W hb => HB.out.keep hb
    clear hR hK HFA HFB hdp H32A H32B hlen hm hn
    generalize bothR proof.reverse M N old true = Y at *
    obtain ⟨Y1, Y2, Y3⟩ := Y
    simp only at NE1 NE2 Hb ⊢
    obtain rfl : b = Y3 := Hb.out
    clear Hb hbl
    cases b with
    | false =>
      rw [if_neg (by simp)]
      clear NE1 NE2
      go_enter Tryz.func26, Tryz.ntmps26
      go_wp2_with (first
        | (refine wpList_load_row rfl 25 (.tmp 6) rfl w.heap.size rfl 25 O (0, 0) _ HB.out.2.1 Tryz.underlying25 rfl HSO.out ?_; try simp only [Act.put, pS1, pS2, pS3])
        | fail)
      refine (BT.out _ HB.out.1).mono ?_
      rintro e w1 ⟨rfl, hb1⟩
      have HB1 := hidk (HBK.out _ hb1)
      clear hb1 HBK BT HB d1 d2 d3 d4 d5 c1 c2 c3 c4 c5 c7 h0 hlx ho hr
      go_wp2_with (first
        | (show aD 11 _ _ _ _ _ _ _ _ _ _ _; refine wpList_new_two rfl rfl rfl rfl 25 rfl rfl (.tmp 11) (.tmp 63) rfl (.tmp 12) (.tmp 64) rfl Z FA FB HA.out (fun _ _ => by simp [Act.put, Act.eval]) (fun _ _ => by simp [Act.put, Act.eval]) (fun _ _ => by simp [Act.put, Act.eval]) (fun _ _ => by simp [Act.put, Act.eval]) HSFA.out HZA.out H1FA.out HSFB.out HZB.out H1FB.out ?_; intro g1 g2 w2 F1; have HB3 := hidk (HB1.out.keep F1.out.2.2.2); clear HB1; try simp only [Act.put, pS1, pS2, pS3])
        | (show aD 68 _ _ _ _ _ _ _ _ _ _ _; refine wpList_load_row rfl 25 (.tmp 11) rfl g1 rfl 25 FA (0, 0) _ F1.out.2.1 Tryz.underlying25 rfl HSFA.out ?_; try simp only [Act.put, pS1, pS2, pS3])
        | (show aD 69 _ _ _ _ _ _ _ _ _ _ _; refine wpList_load_row rfl 25 (.tmp 6) rfl w.heap.size rfl 25 O (0, 0) _ HB3.out.2.1 Tryz.underlying25 rfl HSO.out ?_; try simp only [Act.put, pS1, pS2, pS3])
        | (show aD 72 _ _ _ _ _ _ _ _ _ _ _; refine wpList_load_row_w (by rfl) 25 (.tmp 12) rfl g2 rfl 25 FB (0, 0) _ F1.out.2.2.1 Tryz.underlying25 rfl HSFB.out ?_; try simp only [Act.put, pS1, pS2, pS3])
        | (show aD 73 _ _ _ _ _ _ _ _ _ _ _; refine wpList_load_row_w (by rfl) 25 (.tmp 8) rfl (w.heap.size + 1) rfl 25 R (0, 0) _ HB3.out.2.2 Tryz.underlying25 rfl HSR.out ?_; try simp only [Act.put, pS1, pS2, pS3])
        | fail)
      go_ret
      exact ⟨rfl, HB3.out.1⟩
    | true =>
      rw [if_pos rfl]
      by_cases h1 : Y1 = old
      · by_cases h2 : Y2 = root
        · rw [if_pos ⟨h1, h2⟩]
          have n1 := fun W => NE1 false (by simp [h1]) W
          have n2 := fun W => NE2 false (by simp [h2]) W
          clear NE1 NE2 h1 h2
          go_enter Tryz.func26, Tryz.ntmps26
          go_wp2_with (first
            | (refine wpList_load_row rfl 25 (.tmp 6) rfl w.heap.size rfl 25 O (0, 0) _ HB.out.2.1 Tryz.underlying25 rfl HSO.out ?_; try simp only [Act.put, pS1, pS2, pS3])
            | fail)
          refine (BT.out _ HB.out.1).mono ?_
          rintro e w1 ⟨rfl, hb1⟩
          have HB1 := hidk (HBK.out _ hb1)
          clear hb1 HBK BT HB d1 d2 d3 d4 d5 c1 c2 c3 c4 c5 c7 h0 hlx ho hr
          go_wp2_with (first
            | (show aD 11 _ _ _ _ _ _ _ _ _ _ _; refine wpList_new_two rfl rfl rfl rfl 25 rfl rfl (.tmp 11) (.tmp 63) rfl (.tmp 12) (.tmp 64) rfl Z FA FB HA.out (fun _ _ => by simp [Act.put, Act.eval]) (fun _ _ => by simp [Act.put, Act.eval]) (fun _ _ => by simp [Act.put, Act.eval]) (fun _ _ => by simp [Act.put, Act.eval]) HSFA.out HZA.out H1FA.out HSFB.out HZB.out H1FB.out ?_; intro g1 g2 w2 F1; have HB3 := hidk (HB1.out.keep F1.out.2.2.2); clear HB1; try simp only [Act.put, pS1, pS2, pS3])
            | (show aD 68 _ _ _ _ _ _ _ _ _ _ _; refine wpList_load_row rfl 25 (.tmp 11) rfl g1 rfl 25 FA (0, 0) _ F1.out.2.1 Tryz.underlying25 rfl HSFA.out ?_; try simp only [Act.put, pS1, pS2, pS3])
            | (show aD 69 _ _ _ _ _ _ _ _ _ _ _; refine wpList_load_row rfl 25 (.tmp 6) rfl w.heap.size rfl 25 O (0, 0) _ HB3.out.2.1 Tryz.underlying25 rfl HSO.out ?_; try simp only [Act.put, pS1, pS2, pS3])
            | (show aD 72 _ _ _ _ _ _ _ _ _ _ _; refine wpList_load_row_w (by rfl) 25 (.tmp 12) rfl g2 rfl 25 FB (0, 0) _ F1.out.2.2.1 Tryz.underlying25 rfl HSFB.out ?_; try simp only [Act.put, pS1, pS2, pS3])
            | (show aD 73 _ _ _ _ _ _ _ _ _ _ _; refine wpList_load_row_w (by rfl) 25 (.tmp 8) rfl (w.heap.size + 1) rfl 25 R (0, 0) _ HB3.out.2.2 Tryz.underlying25 rfl HSR.out ?_; try simp only [Act.put, pS1, pS2, pS3])
            | fail)
          go_ret
          exact ⟨rfl, HB3.out.1⟩
        · rw [if_neg (fun h => h2 h.2)]
          have n1 := fun W => NE1 false (by simp [h1]) W
          have n2 := fun W => NE2 true (by simp [h2]) W
          clear NE1 NE2 h1 h2
          go_enter Tryz.func26, Tryz.ntmps26
          go_wp2_with (first
            | (refine wpList_load_row rfl 25 (.tmp 6) rfl w.heap.size rfl 25 O (0, 0) _ HB.out.2.1 Tryz.underlying25 rfl HSO.out ?_; try simp only [Act.put, pS1, pS2, pS3])
            | fail)
          refine (BT.out _ HB.out.1).mono ?_
          rintro e w1 ⟨rfl, hb1⟩
          have HB1 := hidk (HBK.out _ hb1)
          clear hb1 HBK BT HB d1 d2 d3 d4 d5 c1 c2 c3 c4 c5 c7 h0 hlx ho hr
          go_wp2_with (first
            | (show aD 11 _ _ _ _ _ _ _ _ _ _ _; refine wpList_new_two rfl rfl rfl rfl 25 rfl rfl (.tmp 11) (.tmp 63) rfl (.tmp 12) (.tmp 64) rfl Z FA FB HA.out (fun _ _ => by simp [Act.put, Act.eval]) (fun _ _ => by simp [Act.put, Act.eval]) (fun _ _ => by simp [Act.put, Act.eval]) (fun _ _ => by simp [Act.put, Act.eval]) HSFA.out HZA.out H1FA.out HSFB.out HZB.out H1FB.out ?_; intro g1 g2 w2 F1; have HB3 := hidk (HB1.out.keep F1.out.2.2.2); clear HB1; try simp only [Act.put, pS1, pS2, pS3])
            | (show aD 68 _ _ _ _ _ _ _ _ _ _ _; refine wpList_load_row rfl 25 (.tmp 11) rfl g1 rfl 25 FA (0, 0) _ F1.out.2.1 Tryz.underlying25 rfl HSFA.out ?_; try simp only [Act.put, pS1, pS2, pS3])
            | (show aD 69 _ _ _ _ _ _ _ _ _ _ _; refine wpList_load_row rfl 25 (.tmp 6) rfl w.heap.size rfl 25 O (0, 0) _ HB3.out.2.1 Tryz.underlying25 rfl HSO.out ?_; try simp only [Act.put, pS1, pS2, pS3])
            | (show aD 72 _ _ _ _ _ _ _ _ _ _ _; refine wpList_load_row_w (by rfl) 25 (.tmp 12) rfl g2 rfl 25 FB (0, 0) _ F1.out.2.2.1 Tryz.underlying25 rfl HSFB.out ?_; try simp only [Act.put, pS1, pS2, pS3])
            | (show aD 73 _ _ _ _ _ _ _ _ _ _ _; refine wpList_load_row_w (by rfl) 25 (.tmp 8) rfl (w.heap.size + 1) rfl 25 R (0, 0) _ HB3.out.2.2 Tryz.underlying25 rfl HSR.out ?_; try simp only [Act.put, pS1, pS2, pS3])
            | fail)
          go_ret
          exact ⟨rfl, HB3.out.1⟩
      · rw [if_neg (fun h => h1 h.1)]
        have n1 := fun W => NE1 true (by simp [h1]) W
        clear NE1 NE2 h1
        go_enter Tryz.func26, Tryz.ntmps26
        go_wp2_with (first
          | (refine wpList_load_row rfl 25 (.tmp 6) rfl w.heap.size rfl 25 O (0, 0) _ HB.out.2.1 Tryz.underlying25 rfl HSO.out ?_; try simp only [Act.put, pS1, pS2, pS3])
          | fail)
        refine (BT.out _ HB.out.1).mono ?_
        rintro e w1 ⟨rfl, hb1⟩
        have HB1 := hidk (HBK.out _ hb1)
        clear hb1 HBK BT HB d1 d2 d3 d4 d5 c1 c2 c3 c4 c5 c7 h0 hlx ho hr
        go_wp2_with (first
          | (show aD 11 _ _ _ _ _ _ _ _ _ _ _; refine wpList_new_two rfl rfl rfl rfl 25 rfl rfl (.tmp 11) (.tmp 63) rfl (.tmp 12) (.tmp 64) rfl Z FA FB HA.out (fun _ _ => by simp [Act.put, Act.eval]) (fun _ _ => by simp [Act.put, Act.eval]) (fun _ _ => by simp [Act.put, Act.eval]) (fun _ _ => by simp [Act.put, Act.eval]) HSFA.out HZA.out H1FA.out HSFB.out HZB.out H1FB.out ?_; intro g1 g2 w2 F1; have HB3 := hidk (HB1.out.keep F1.out.2.2.2); clear HB1; try simp only [Act.put, pS1, pS2, pS3])
          | (show aD 68 _ _ _ _ _ _ _ _ _ _ _; refine wpList_load_row rfl 25 (.tmp 11) rfl g1 rfl 25 FA (0, 0) _ F1.out.2.1 Tryz.underlying25 rfl HSFA.out ?_; try simp only [Act.put, pS1, pS2, pS3])
          | (show aD 69 _ _ _ _ _ _ _ _ _ _ _; refine wpList_load_row rfl 25 (.tmp 6) rfl w.heap.size rfl 25 O (0, 0) _ HB3.out.2.1 Tryz.underlying25 rfl HSO.out ?_; try simp only [Act.put, pS1, pS2, pS3])
          | (show aD 72 _ _ _ _ _ _ _ _ _ _ _; refine wpList_load_row_w (by rfl) 25 (.tmp 12) rfl g2 rfl 25 FB (0, 0) _ F1.out.2.2.1 Tryz.underlying25 rfl HSFB.out ?_; try simp only [Act.put, pS1, pS2, pS3])
          | (show aD 73 _ _ _ _ _ _ _ _ _ _ _; refine wpList_load_row_w (by rfl) 25 (.tmp 8) rfl (w.heap.size + 1) rfl 25 R (0, 0) _ HB3.out.2.2 Tryz.underlying25 rfl HSR.out ?_; try simp only [Act.put, pS1, pS2, pS3])
          | fail)
        go_ret
        exact ⟨rfl, HB3.out.1⟩
end Go.Proofs.YtjalebncfnekiaaGreatDoor.P5
