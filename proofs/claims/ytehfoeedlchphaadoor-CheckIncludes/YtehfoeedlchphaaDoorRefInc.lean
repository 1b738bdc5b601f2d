/- What the document's Included answers. -/
import Derived.Test.YtehfoeedlchphaaDoorRefMakes
import Derived.Test.YtehfoeedlchphaaDoorCheckC
namespace Go.Proofs.YtehfoeedlchphaaDoor
open Go.RowKit Sums
set_option linter.unusedVariables false
set_option linter.unusedSimpArgs false

set_option maxHeartbeats 4000000 in
theorem refInc_any (root : List UInt8) (size index : Int) (leaf : List UInt8) (proof : List (List UInt8)) (a : Option Addr) (len cap : Nat) (w : World) (R X : Array Value) (HR : Hid (R = (cellsOf root).toArray)) (HX : Hid (X = (cellsOf leaf).toArray)) (hr : root.length = 32) (hx : leaf.length = 32)
    (hs : -9223372036854775808 ≤ size ∧ size ≤ 9223372036854775807) (hi : -9223372036854775808 ≤ index ∧ index ≤ 9223372036854775807) (hR : LReads w a len cap proof) (hK : Table 1 w) :
    Calls Tryd.prog 12 #[.agg R, .int .i64 size, .int .i64 index, .agg X, .slice a len cap] w fun e w' => e = .returned (.int .i64 (incE root size index leaf proof)) ∧ Below w.heap.size w w' := by
  have hlen := hR.1
  have hlx : len ≤ 9223372036854775807 := by have := hR.2.2.2.1; unfold maxLen at this; omega
  have HB := hidk (came w R X)
  have bad : ∀ E, E = incE root size index leaf proof → E = 40 → ((decide (size < 1) = true) ∨ (decide (size < 1) = false ∧ decide (100000 < size) = true) ∨ (decide (size < 1) = false ∧ decide (100000 < size) = false ∧ decide (index < 0) = true) ∨ (decide (size < 1) = false ∧ decide (100000 < size) = false ∧ decide (index < 0) = false ∧ decide (size ≤ index) = true) ∨ (decide (size < 1) = false ∧ decide (100000 < size) = false ∧ decide (index < 0) = false ∧ decide (size ≤ index) = false ∧ decide (40 < (len : Int)) = true)) →
      Calls Tryd.prog 12 #[.agg R, .int .i64 size, .int .i64 index, .agg X, .slice a len cap] w fun e w' => e = .returned (.int .i64 40) ∧ Below w.heap.size w w' := by
    intro E _ _ hc
    clear hR hK HR HX hr hx hlen
    rcases hc with d1 | ⟨d1, d2⟩ | ⟨d1, d2, d3⟩ | ⟨d1, d2, d3, d4⟩ | ⟨d1, d2, d3, d4, d5⟩
    all_goals
      go_enter Tryd.func12, Tryd.ntmps12
      go_wp2
      go_ret
      exact ⟨rfl, HB.out.1⟩
  by_cases c1 : size < 1
  · rw [incE_out root size index leaf proof (by omega)]
    exact bad 40 (incE_out root size index leaf proof (by omega)).symm rfl (.inl (by simpa using c1))
  have d1 : decide (size < 1) = false := by rw [decide_eq_false_iff_not]; exact c1
  by_cases c2 : 100000 < size
  · rw [incE_out root size index leaf proof (by omega)]
    exact bad 40 (incE_out root size index leaf proof (by omega)).symm rfl (.inr (.inl ⟨d1, by simpa using c2⟩))
  have d2 : decide (100000 < size) = false := by rw [decide_eq_false_iff_not]; exact c2
  by_cases c3 : index < 0
  · rw [incE_out root size index leaf proof (by omega)]
    exact bad 40 (incE_out root size index leaf proof (by omega)).symm rfl (.inr (.inr (.inl ⟨d1, d2, by simpa using c3⟩)))
  have d3 : decide (index < 0) = false := by rw [decide_eq_false_iff_not]; exact c3
  by_cases c4 : size ≤ index
  · rw [incE_out root size index leaf proof (by omega)]
    exact bad 40 (incE_out root size index leaf proof (by omega)).symm rfl (.inr (.inr (.inr (.inl ⟨d1, d2, d3, by simpa using c4⟩))))
  have d4 : decide (size ≤ index) = false := by rw [decide_eq_false_iff_not]; exact c4
  by_cases c5 : 40 < len
  · rw [incE_long root size index leaf proof (by omega)]
    exact bad 40 (incE_long root size index leaf proof (by omega)).symm rfl (.inr (.inr (.inr (.inr ⟨d1, d2, d3, d4, by rw [decide_eq_true_eq]; omega⟩))))
  have d5 : decide (40 < (len : Int)) = false := by rw [decide_eq_false_iff_not]; omega
  clear bad
  obtain ⟨S, rfl⟩ : ∃ S : Nat, size = S := ⟨size.toNat, by omega⟩
  obtain ⟨I, rfl⟩ : ∃ I : Nat, index = I := ⟨index.toNat, by omega⟩
  rw [incE_in root S I leaf proof (by omega) (by omega) (by omega)]
  have hml := mkR_length sumD_length proof.reverse S I leaf hx
  obtain ⟨M, HM, HSM, H1M, H32M⟩ := dig_row' (mkR proof.reverse S I leaf).1 hml
  obtain ⟨b, Hb⟩ : ∃ b, Hid (b = (mkR proof.reverse S I leaf).2) := ⟨_, (rfl : (mkR proof.reverse S I leaf).2 = _)⟩
  obtain ⟨Z, HZ, HA, HS, H1, H32⟩ := noughts27
  have HZM : Hid (Z.size = M.size) := by show _ = _; rw [H32.out, H32M.out]
  have HSR : Hid ((Tryd.prog.info? 23).map (·.size) = some R.size) := by show _ = _; rw [size23, HR.out]; simp [cellsOf_length, hr]
  have HSX : Hid ((Tryd.prog.info? 23).map (·.size) = some X.size) := by show _ = _; rw [size23, HX.out]; simp [cellsOf_length, hx]
  have MK : Hid (∀ W, Below w.heap.size w W → Calls Tryd.prog 27 #[.int .i64 S, .int .i64 I, .agg X, .slice a len cap] W fun e w' => e = .returned (.tuple #[.agg M, .bool b]) ∧ Below W.heap.size W w') := fun W hb =>
    refMakes_any len proof hlen S I leaf a len cap W (by omega) (by omega) (by omega) (hR.keep hb) hx (hK.keep hb) X HX M HM b Hb
  have NE := fun v hv W => neqDigV _ root hml hr M R HM HR v hv W
  have RES : Hid (∀ E : Int, ((b = false ∧ E = 40) ∨ (b = true ∧ (mkR proof.reverse S I leaf).1 ≠ root ∧ E = 41) ∨ (b = true ∧ (mkR proof.reverse S I leaf).1 = root ∧ E = 0)) → E = (if (mkR proof.reverse S I leaf).2 = true then (if (mkR proof.reverse S I leaf).1 = root then 0 else 41) else 40)) := fun E h => by
    rw [Hb.out] at h
    rcases h with ⟨h1, rfl⟩ | ⟨h1, h2, rfl⟩ | ⟨h1, h2, rfl⟩
    · rw [h1]; rfl
    · rw [if_pos h1, if_neg h2]
    · rw [if_pos h1, if_pos h2]
  obtain ⟨V, HV⟩ : ∃ V : Int, Hid (V = (if (mkR proof.reverse S I leaf).2 = true then (if (mkR proof.reverse S I leaf).1 = root then 0 else 41) else 40)) := ⟨_, (rfl : _ = _)⟩
  rw [← HV.out]
  have HBK : Hid (∀ W, Below ((w.alloc (.cells R 23)).alloc (.cells X 23)).heap.size ((w.alloc (.cells R 23)).alloc (.cells X 23)) W → Came w W R X) := fun W hb => HB.out.keep hb
  clear hR hK HM hml H32M HZ hlen hs hi
  cases b with
  | false =>
    obtain rfl : V = 40 := by rw [HV.out]; exact (RES.out 40 (.inl ⟨rfl, rfl⟩)).symm
    clear RES NE HV
    go_enter Tryd.func12, Tryd.ntmps12
    go_wp2_with (first
      | (refine wpList_load_row rfl 23 (.tmp 8) rfl _ rfl 23 X (0, 0) _ HB.out.2.2 Tryd.underlying23 rfl HSX.out ?_; try simp only [Act.put, List.setIfInBounds_toArray, List.set_cons_zero, List.set_cons_succ])
      | fail)
    refine (MK.out _ HB.out.1).mono ?_
    rintro e w1 ⟨rfl, hb1⟩
    have HB1 := hidk (HBK.out _ hb1)
    clear hb1 HBK MK HB
    go_wp2_with (first
      | (refine wpList_new_row rfl rfl 23 rfl (.tmp 11) (.tmp 39) rfl Z M HA.out (fun _ => rfl) (fun _ => rfl) HSM.out HZM.out H1M.out ?_; intro gd w2 F1; have HB3 := hidk (HB1.out.keep F1.out.2.2); clear HB1; try simp only [Act.put, List.setIfInBounds_toArray, List.set_cons_zero, List.set_cons_succ])
      | (refine wpList_load_row rfl 23 (.tmp 11) rfl gd rfl 23 M (0, 0) _ F1.out.2.1 Tryd.underlying23 rfl HSM.out ?_; try simp only [Act.put, List.setIfInBounds_toArray, List.set_cons_zero, List.set_cons_succ])
      | (refine wpList_load_row rfl 23 (.tmp 5) rfl w.heap.size rfl 23 R (0, 0) _ HB3.out.2.1 Tryd.underlying23 rfl HSR.out ?_; try simp only [Act.put, List.setIfInBounds_toArray, List.set_cons_zero, List.set_cons_succ])
      | fail)
    go_ret
    exact ⟨rfl, HB3.out.1⟩
  | true =>
    by_cases he : (mkR proof.reverse S I leaf).1 = root
    · obtain rfl : V = 0 := by rw [HV.out]; exact (RES.out 0 (.inr (.inr ⟨rfl, he, rfl⟩))).symm
      have hne := fun W => NE false (by simp [he]) W
      clear RES NE HV he
      go_enter Tryd.func12, Tryd.ntmps12
      go_wp2_with (first
        | (refine wpList_load_row rfl 23 (.tmp 8) rfl _ rfl 23 X (0, 0) _ HB.out.2.2 Tryd.underlying23 rfl HSX.out ?_; try simp only [Act.put, List.setIfInBounds_toArray, List.set_cons_zero, List.set_cons_succ])
        | fail)
      refine (MK.out _ HB.out.1).mono ?_
      rintro e w1 ⟨rfl, hb1⟩
      have HB1 := hidk (HBK.out _ hb1)
      clear hb1 HBK MK HB
      go_wp2_with (first
        | (refine wpList_new_row rfl rfl 23 rfl (.tmp 11) (.tmp 39) rfl Z M HA.out (fun _ => rfl) (fun _ => rfl) HSM.out HZM.out H1M.out ?_; intro gd w2 F1; have HB3 := hidk (HB1.out.keep F1.out.2.2); clear HB1; try simp only [Act.put, List.setIfInBounds_toArray, List.set_cons_zero, List.set_cons_succ])
        | (refine wpList_load_row rfl 23 (.tmp 11) rfl gd rfl 23 M (0, 0) _ F1.out.2.1 Tryd.underlying23 rfl HSM.out ?_; try simp only [Act.put, List.setIfInBounds_toArray, List.set_cons_zero, List.set_cons_succ])
        | (refine wpList_load_row rfl 23 (.tmp 5) rfl w.heap.size rfl 23 R (0, 0) _ HB3.out.2.1 Tryd.underlying23 rfl HSR.out ?_; try simp only [Act.put, List.setIfInBounds_toArray, List.set_cons_zero, List.set_cons_succ])
        | fail)
      go_ret
      exact ⟨rfl, HB3.out.1⟩
    · obtain rfl : V = 41 := by rw [HV.out]; exact (RES.out 41 (.inr (.inl ⟨rfl, he, rfl⟩))).symm
      have hne := fun W => NE true (by simp [he]) W
      clear RES NE HV he
      go_enter Tryd.func12, Tryd.ntmps12
      go_wp2_with (first
        | (refine wpList_load_row rfl 23 (.tmp 8) rfl _ rfl 23 X (0, 0) _ HB.out.2.2 Tryd.underlying23 rfl HSX.out ?_; try simp only [Act.put, List.setIfInBounds_toArray, List.set_cons_zero, List.set_cons_succ])
        | fail)
      refine (MK.out _ HB.out.1).mono ?_
      rintro e w1 ⟨rfl, hb1⟩
      have HB1 := hidk (HBK.out _ hb1)
      clear hb1 HBK MK HB
      go_wp2_with (first
        | (refine wpList_new_row rfl rfl 23 rfl (.tmp 11) (.tmp 39) rfl Z M HA.out (fun _ => rfl) (fun _ => rfl) HSM.out HZM.out H1M.out ?_; intro gd w2 F1; have HB3 := hidk (HB1.out.keep F1.out.2.2); clear HB1; try simp only [Act.put, List.setIfInBounds_toArray, List.set_cons_zero, List.set_cons_succ])
        | (refine wpList_load_row rfl 23 (.tmp 11) rfl gd rfl 23 M (0, 0) _ F1.out.2.1 Tryd.underlying23 rfl HSM.out ?_; try simp only [Act.put, List.setIfInBounds_toArray, List.set_cons_zero, List.set_cons_succ])
        | (refine wpList_load_row rfl 23 (.tmp 5) rfl w.heap.size rfl 23 R (0, 0) _ HB3.out.2.1 Tryd.underlying23 rfl HSR.out ?_; try simp only [Act.put, List.setIfInBounds_toArray, List.set_cons_zero, List.set_cons_succ])
        | fail)
      go_ret
      exact ⟨rfl, HB3.out.1⟩
end Go.Proofs.YtehfoeedlchphaaDoor
