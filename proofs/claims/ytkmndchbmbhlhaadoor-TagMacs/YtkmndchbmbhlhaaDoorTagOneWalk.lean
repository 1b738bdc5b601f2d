/- What TagOne says of any input, over what the calls of package tag answer. -/
import Derived.Test.YtkmndchbmbhlhaaDoorTagC
namespace Go.Proofs.YtkmndchbmbhlhaaDoor
open Go.RowKit Sums
set_option linter.unusedVariables false
set_option linter.unusedSimpArgs false

/-- A key and two digests that came in. -/
def Came3 (w W : World) (K T U : Array Value) : Prop := Below w.heap.size w W ∧ W.heap[w.heap.size]? = some (.cells K 23 (0, 0)) ∧ W.heap[w.heap.size + 1]? = some (.cells T 24 (0, 0)) ∧ W.heap[w.heap.size + 2]? = some (.cells U 24 (0, 0))
theorem came3 (w : World) (K T U : Array Value) : Came3 w (((w.alloc (.cells K 23)).alloc (.cells T 24)).alloc (.cells U 24)) K T U := by
  refine ⟨((((Below.refl _ _).alloc (Nat.le_refl _) _).alloc (by simp) _).alloc (by simp; omega) _), heap_keep (heap_keep (heap_alloc_new w _)), heap_keep ?_, ?_⟩
  · have := heap_alloc_new (w.alloc (.cells K 23)) (.cells T 24)
    simpa using this
  · have := heap_alloc_new ((w.alloc (.cells K 23)).alloc (.cells T 24)) (.cells U 24)
    simpa using this
theorem Came3.keep {w W W' : World} {K T U : Array Value} (h : Came3 w W K T U) (hb : Below W.heap.size W W') : Came3 w W' K T U :=
  ⟨h.1.trans (hb.mono h.1.size), (hb.block _ (heap_lt h.2.1)).trans h.2.1, (hb.block _ (heap_lt h.2.2.1)).trans h.2.2.1, (hb.block _ (heap_lt h.2.2.2)).trans h.2.2.2⟩

set_option maxHeartbeats 4000000 in
theorem tagOne_of (ck : TagC) (z0 : List UInt8) (a1 a2 : Int) (a3 : ByteArray) (z4 z5 : List UInt8) (w : World) (w0 : z0.length = 32) (w1 : (Lit.int .i64 a1).wf = true) (w2 : (Lit.int .i64 a2).wf = true) (w3 : a3.size ≤ maxLen) (w4 : z4.length = 32) (w5 : z5.length = 32) (hT : TabT w) :
    Calls Tryd.prog 6 #[digV z0, .int .i64 a1, .int .i64 a2, .string a3, digV z4, digV z5] w fun e w' => e = .returned (.bool true) ∧ Below w.heap.size w w' := by
  unfold digV
  have b1 := bounds_i64 w1
  have b2 := bounds_i64 w2
  obtain ⟨K, HK, HSK, H1K, H32K⟩ := key_row z0 w0
  obtain ⟨T, HT, HST, H1T, H32T⟩ := dig_row' z4 w4
  obtain ⟨U, HU, HSU, H1U, H32U⟩ := dig_row' z5 w5
  rw [← HK.out, ← HT.out, ← HU.out]
  have HB := hidk (came3 w K T U)
  have hml : a3.size ≤ 9223372036854775807 := by unfold maxLen at w3; omega
  by_cases hlen : 16384 < a3.size
  · have d0 : decide (16384 < (a3.size : Int)) = true := by rw [decide_eq_true_eq]; omega
    have d0' : decide (16384 < a3.size) = true := by rw [decide_eq_true_eq]; omega
    clear hlen
    go_enter Tryd.func6, Tryd.ntmps6
    go_wp2
    go_ret
    exact ⟨rfl, HB.out.1⟩
  have d0 : decide (16384 < (a3.size : Int)) = false := by rw [decide_eq_false_iff_not]; omega
  have d0' : decide (16384 < a3.size) = false := by rw [decide_eq_false_iff_not]; omega
  have hle : a3.size ≤ 100000 := by omega
  obtain ⟨E1, HE1⟩ : ∃ E, Hid (E = holdE z0 a1 a2 a3.data.toList z4) := ⟨_, (rfl : _ = _)⟩
  obtain ⟨E2, HE2⟩ : ∃ E, Hid (E = holdE z0 a1 a2 a3.data.toList z5) := ⟨_, (rfl : _ = _)⟩
  have hE1 : E1 = 0 ∨ E1 = 50 ∨ E1 = 72 := by rw [HE1.out]; exact holdE_vals _ _ _ _ _
  have hE2 : E2 = 0 ∨ E2 = 50 ∨ E2 = 72 := by rw [HE2.out]; exact holdE_vals _ _ _ _ _
  have C1 : Hid (∀ W, Below w.heap.size w W → Calls Tryd.prog 15 #[.agg K, .int .i64 a1, .int .i64 a2, .string a3, .agg T] W fun e w' => e = .returned (.int .i64 E1) ∧ Below W.heap.size W w') := fun W hb => by
    rw [HE1.out]; exact ck.holds z0 a1 a2 a3 z4 W K T HK HT w0 w4 b1 b2 hle (hT.keep hb)
  have C2 : Hid (∀ W, Below w.heap.size w W → Calls Tryd.prog 15 #[.agg K, .int .i64 a1, .int .i64 a2, .string a3, .agg U] W fun e w' => e = .returned (.int .i64 E2) ∧ Below W.heap.size W w') := fun W hb => by
    rw [HE2.out]; exact ck.holds z0 a1 a2 a3 z5 W K U HK HU w0 w5 b1 b2 hle (hT.keep hb)
  have C3 : Hid (∀ W, Below w.heap.size w W → Calls Tryd.prog 8 #[] W fun e w' => e = .returned (.bool true) ∧ Below W.heap.size W w') := fun W hb => macs_true ck W (hT.keep hb)
  have EQ : Hid (E1 = 0 → E2 = 0 → ∀ W, (binOp .eql 24 (.agg T) (.agg U)).run Tryd.prog W = .ok (.bool true) W) := fun h1 h2 W => by
    have e1 := (holdE_ok (HE1.out.symm.trans h1)).2
    have e2 := (holdE_ok (HE2.out.symm.trans h2)).2
    exact eqDigV z4 z5 w4 w5 T U HT HU true (by rw [← e1, ← e2]; simp) W
  clear hT HK HT HU HE1 HE2 hlen w1 w2 w3
  by_cases c1 : ¬ E1 = 0
  · clear EQ C2 hE2
    rcases hE1 with rfl | rfl | rfl
    · exact absurd rfl c1
    all_goals
      clear c1
      go_enter Tryd.func6, Tryd.ntmps6
      go_wp2_with (first
        | (show wpList _ _ _ ({ dst := some 16, op := _, type := _, pos := _, after := _, guard := _ } :: _) _ _; refine wpList_load_row rfl 23 (.tmp 6) rfl w.heap.size rfl 23 K (0, 0) _ HB.out.2.1 Tryd.underlying23 rfl HSK.out ?_; try simp only [Act.put, List.setIfInBounds_toArray, List.set_cons_zero, List.set_cons_succ])
        | (show wpList _ _ _ ({ dst := some 20, op := _, type := _, pos := _, after := _, guard := _ } :: _) _ _; refine wpList_load_row rfl 24 (.tmp 10) rfl (w.heap.size + 1) rfl 24 T (0, 0) _ HB.out.2.2.1 Tryd.underlying24 rfl HST.out ?_; try simp only [Act.put, List.setIfInBounds_toArray, List.set_cons_zero, List.set_cons_succ])
        | fail)
      refine (C1.out _ HB.out.1).mono ?_
      rintro e w1 ⟨rfl, hb1⟩
      have HB2 := hidk (HB.out.keep hb1)
      clear hb1 HB C1
      go_wp2_with fail
      refine (C3.out _ HB2.out.1).mono ?_
      rintro e w3 ⟨rfl, hb3⟩
      have HB4 := hidk (HB2.out.keep hb3)
      clear hb3 HB2 C3
      go_wp2
      go_ret
      exact ⟨rfl, HB4.out.1⟩
  obtain rfl : E1 = 0 := by omega
  clear c1 hE1
  by_cases c2 : ¬ E2 = 0
  · clear EQ
    rcases hE2 with rfl | rfl | rfl
    · exact absurd rfl c2
    all_goals
      clear c2
      go_enter Tryd.func6, Tryd.ntmps6
      go_wp2_with (first
        | (show wpList _ _ _ ({ dst := some 16, op := _, type := _, pos := _, after := _, guard := _ } :: _) _ _; refine wpList_load_row rfl 23 (.tmp 6) rfl w.heap.size rfl 23 K (0, 0) _ HB.out.2.1 Tryd.underlying23 rfl HSK.out ?_; try simp only [Act.put, List.setIfInBounds_toArray, List.set_cons_zero, List.set_cons_succ])
        | (show wpList _ _ _ ({ dst := some 20, op := _, type := _, pos := _, after := _, guard := _ } :: _) _ _; refine wpList_load_row rfl 24 (.tmp 10) rfl (w.heap.size + 1) rfl 24 T (0, 0) _ HB.out.2.2.1 Tryd.underlying24 rfl HST.out ?_; try simp only [Act.put, List.setIfInBounds_toArray, List.set_cons_zero, List.set_cons_succ])
        | fail)
      refine (C1.out _ HB.out.1).mono ?_
      rintro e w1 ⟨rfl, hb1⟩
      have HB2 := hidk (HB.out.keep hb1)
      clear hb1 HB C1
      go_wp2_with (first
        | (show wpList _ _ _ ({ dst := some 24, op := _, type := _, pos := _, after := _, guard := _ } :: _) _ _; refine wpList_load_row_w (by rfl) 23 (.tmp 6) rfl w.heap.size rfl 23 K (0, 0) _ HB2.out.2.1 Tryd.underlying23 rfl HSK.out ?_; try simp only [Act.put, List.setIfInBounds_toArray, List.set_cons_zero, List.set_cons_succ])
        | (show wpList _ _ _ ({ dst := some 28, op := _, type := _, pos := _, after := _, guard := _ } :: _) _ _; refine wpList_load_row_w (by rfl) 24 (.tmp 11) rfl (w.heap.size + 2) rfl 24 U (0, 0) _ HB2.out.2.2.2 Tryd.underlying24 rfl HSU.out ?_; try simp only [Act.put, List.setIfInBounds_toArray, List.set_cons_zero, List.set_cons_succ])
        | fail)
      refine (C2.out _ HB2.out.1).mono ?_
      rintro e w2 ⟨rfl, hb2⟩
      have HB3 := hidk (HB2.out.keep hb2)
      clear hb2 HB2 C2
      go_wp2_with fail
      refine (C3.out _ HB3.out.1).mono ?_
      rintro e w3 ⟨rfl, hb3⟩
      have HB4 := hidk (HB3.out.keep hb3)
      clear hb3 HB3 C3
      go_wp2
      go_ret
      exact ⟨rfl, HB4.out.1⟩
  obtain rfl : E2 = 0 := by omega
  have eq := EQ.out rfl rfl
  clear c2 hE2 EQ
  go_enter Tryd.func6, Tryd.ntmps6
  go_wp2_with (first
    | (show wpList _ _ _ ({ dst := some 16, op := _, type := _, pos := _, after := _, guard := _ } :: _) _ _; refine wpList_load_row rfl 23 (.tmp 6) rfl w.heap.size rfl 23 K (0, 0) _ HB.out.2.1 Tryd.underlying23 rfl HSK.out ?_; try simp only [Act.put, List.setIfInBounds_toArray, List.set_cons_zero, List.set_cons_succ])
    | (show wpList _ _ _ ({ dst := some 20, op := _, type := _, pos := _, after := _, guard := _ } :: _) _ _; refine wpList_load_row rfl 24 (.tmp 10) rfl (w.heap.size + 1) rfl 24 T (0, 0) _ HB.out.2.2.1 Tryd.underlying24 rfl HST.out ?_; try simp only [Act.put, List.setIfInBounds_toArray, List.set_cons_zero, List.set_cons_succ])
    | fail)
  refine (C1.out _ HB.out.1).mono ?_
  rintro e w1 ⟨rfl, hb1⟩
  have HB2 := hidk (HB.out.keep hb1)
  clear hb1 HB C1
  go_wp2_with (first
    | (show wpList _ _ _ ({ dst := some 24, op := _, type := _, pos := _, after := _, guard := _ } :: _) _ _; refine wpList_load_row_w (by rfl) 23 (.tmp 6) rfl w.heap.size rfl 23 K (0, 0) _ HB2.out.2.1 Tryd.underlying23 rfl HSK.out ?_; try simp only [Act.put, List.setIfInBounds_toArray, List.set_cons_zero, List.set_cons_succ])
    | (show wpList _ _ _ ({ dst := some 28, op := _, type := _, pos := _, after := _, guard := _ } :: _) _ _; refine wpList_load_row_w (by rfl) 24 (.tmp 11) rfl (w.heap.size + 2) rfl 24 U (0, 0) _ HB2.out.2.2.2 Tryd.underlying24 rfl HSU.out ?_; try simp only [Act.put, List.setIfInBounds_toArray, List.set_cons_zero, List.set_cons_succ])
    | fail)
  refine (C2.out _ HB2.out.1).mono ?_
  rintro e w2 ⟨rfl, hb2⟩
  have HB3 := hidk (HB2.out.keep hb2)
  clear hb2 HB2 C2
  go_wp2_with fail
  refine (C3.out _ HB3.out.1).mono ?_
  rintro e w3 ⟨rfl, hb3⟩
  have HB4 := hidk (HB3.out.keep hb3)
  clear hb3 HB3 C3
  go_wp2_with (first
    | (show wpList _ _ _ ({ dst := some 35, op := _, type := _, pos := _, after := _, guard := _ } :: _) _ _; refine wpList_load_row_w (by rfl) 24 (.tmp 10) rfl (w.heap.size + 1) rfl 24 T (0, 0) _ HB4.out.2.2.1 Tryd.underlying24 rfl HST.out ?_; try simp only [Act.put, List.setIfInBounds_toArray, List.set_cons_zero, List.set_cons_succ])
    | (show wpList _ _ _ ({ dst := some 36, op := _, type := _, pos := _, after := _, guard := _ } :: _) _ _; refine wpList_load_row_w (by rfl) 24 (.tmp 11) rfl (w.heap.size + 2) rfl 24 U (0, 0) _ HB4.out.2.2.2 Tryd.underlying24 rfl HSU.out ?_; try simp only [Act.put, List.setIfInBounds_toArray, List.set_cons_zero, List.set_cons_succ])
    | fail)
  go_ret
  exact ⟨rfl, HB4.out.1⟩
end Go.Proofs.YtkmndchbmbhlhaaDoor
