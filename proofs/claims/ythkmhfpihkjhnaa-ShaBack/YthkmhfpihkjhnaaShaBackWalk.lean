/- ShaBack returns true for any digest and any text. -/
import Derived.Test.YthkmhfpihkjhnaaHexes
namespace Go.Proofs.Ythkmhfpihkjhnaa
open Go.RowKit Digs
set_option linter.unusedVariables false

theorem bytes_back (s : ByteArray) : (⟨s.data.toList.toArray⟩ : ByteArray) = s := by cases s; simp

set_option maxHeartbeats 1000000 in
theorem shaBack_long (D : Array Value) (s : ByteArray) (w : World) (hs : s.size ≤ maxLen) (h : (65536 : Int) < (s.size : Int)) :
    Calls Try.prog 4 #[.agg D, .string s] w fun e w' => e = .returned (.bool true) ∧ Below w.heap.size w w' := by
  unfold maxLen at hs
  go_enter Try.func4, Try.ntmps4
  go_wp2
  go_ret
  exact ⟨rfl, (Below.refl _ _).alloc (Nat.le_refl _) _⟩

set_option maxHeartbeats 2000000 in
theorem shaBack_rest (d : List UInt8) (hd : d.length = 32) (s : ByteArray) (w : World) (hs : s.size ≤ 65536) :
    Calls Try.prog 4 #[digV d, .string s] w fun e w' => e = .returned (.bool true) ∧ Below w.heap.size w w' := by
  obtain ⟨Z, HZ, HA, HB, HS, H1⟩ := noughts
  obtain ⟨D, HD, HSD, H1D, H32⟩ := dig_row d hd
  obtain ⟨Y, HY, HSY, H1Y, H32Y⟩ := dig_row (parseD s.data.toList) (parseD_length _)
  have HZD : Hid (Z.size = D.size) := by
    have h1 := HS.out
    rw [HSD.out] at h1
    exact (Option.some.inj h1).symm
  have HZY : Hid (Z.size = Y.size) := by
    have h1 := HS.out
    rw [HSY.out] at h1
    exact (Option.some.inj h1).symm
  obtain ⟨t, HT⟩ : ∃ t : ByteArray, Hid (t = ⟨(hexL d).toArray⟩) := ⟨_, (rfl : (⟨(hexL d).toArray⟩ : ByteArray) = _)⟩
  obtain ⟨f, HF⟩ : ∃ f : Int, Hid (f = parseE s.data.toList) := ⟨_, (rfl : parseE s.data.toList = _)⟩
  have K8 : Hid (∀ w, Calls Try.prog 8 #[.agg D] w fun e w' => e = .returned (.string t) ∧ Below w.heap.size w w') := by
    intro w; rw [HD.out, HT.out]; exact hex_any d hd w
  have K5 : Hid (∀ w, Calls Try.prog 5 #[.string t] w fun e w' => e = .returned (.tuple #[.agg D, .int .i64 0]) ∧ Below w.heap.size w w') := by
    intro w
    have h := parse_any t w (by rw [HT.out]; show (hexL d).toArray.size ≤ _; simp [hexL_length, hd, maxLen])
    have e := parse_hexL d hd
    rw [HT.out] at h ⊢
    rw [e.1, e.2] at h
    rw [HD.out]
    exact h
  have KS : Hid (∀ w, Calls Try.prog 5 #[.string s] w fun e w' => e = .returned (.tuple #[.agg Y, .int .i64 f]) ∧ Below w.heap.size w w') := by
    intro w
    rw [HY.out, HF.out]
    exact parse_any s w (by unfold maxLen; omega)
  have heq : ∀ w, (binOp .eql 23 (.agg D) (.agg D)).run Try.prog w = .ok (.bool true) w := by
    intro w
    rw [HD.out, eqDig d d hd hd]
    simp
  have HX : Hid (digV d = .agg D) := by show _ = _; rw [HD.out]; rfl
  rw [HX.out]
  have hfv : f = 1 ∨ f = 0 := by have := parseE_vals s.data.toList; have := HF.out; omega
  have KY : Hid (f = 0 → ∀ w, Calls Try.prog 8 #[.agg Y] w fun e w' => e = .returned (.string s) ∧ Below w.heap.size w w') := by
    intro h0 w
    have h := hex_any (parseD s.data.toList) (parseD_length _) w
    rw [parse_ok (by rw [← HF.out]; exact h0), bytes_back] at h
    rw [HY.out]
    exact h
  rcases hfv with rfl | rfl
  all_goals
    go_enter Try.func4, Try.ntmps4
    go_wp2_with (first
      | (refine wpList_load_row rfl 23 (.tmp 2) rfl w.heap.size rfl 23 D (0, 0) _ (heap_alloc_new w _) Try.underlying23 rfl HSD.out ?_)
      | fail)
    refine (K8.out _).mono ?_
    rintro e w1 ⟨rfl, hb1⟩
    go_wp2_with fail
    refine (K5.out _).mono ?_
    rintro e w2 ⟨rfl, hb2⟩
    go_wp2_with (first
      | (refine wpList_alloc_row rfl 23 rfl Z HA.out ?_)
      | (refine wpList_store_row rfl 23 (.tmp 5) (.tmp 16) rfl w2.heap.size D rfl rfl 23 Z (heap_alloc_new w2 _) HSD.out HZD.out H1D.out ?_)
      | fail)
    refine (KS.out _).mono ?_
    rintro e w3 ⟨rfl, hb3⟩
    have hs1 := hb1.size
    have hs2 := hb2.size
    have hs3 := hb3.size
    rw [size_var] at hs3
    rw [World.size_alloc] at hs1
    go_wp2_with (first
      | (refine wpList_alloc_row rfl 23 rfl Z HA.out ?_)
      | (refine wpList_store_row rfl 23 (.tmp 7) (.tmp 21) rfl w3.heap.size Y rfl rfl 23 Z (heap_alloc_new w3 _) HSY.out HZY.out H1Y.out ?_)
      | fail)
    refine (hexes_true _).mono ?_
    rintro e w4 ⟨rfl, hb4⟩
    have G1 : w1.heap[w.heap.size]? = some (.cells D 23 (0, 0)) := by
      rw [hb1.block _ (by simp)]; exact heap_alloc_new w _
    have G2 : w2.heap[w.heap.size]? = some (.cells D 23 (0, 0)) := by
      rw [hb2.block _ (by omega)]; exact G1
    have G3 : w3.heap[w.heap.size]? = some (.cells D 23 (0, 0)) ∧ w3.heap[w2.heap.size]? = some (.cells D 23 (0, 0)) := by
      rw [hb3.block _ (by rw [size_var]; omega), hb3.block _ (by rw [size_var]; omega)]
      exact ⟨keep_var G2 _ _, new_var w2 Z D 23⟩
    have G4 : Hid (w4.heap[w.heap.size]? = some (.cells D 23 (0, 0)) ∧ w4.heap[w2.heap.size]? = some (.cells D 23 (0, 0)) ∧ w4.heap[w3.heap.size]? = some (.cells Y 23 (0, 0))) := by
      show _ ∧ _ ∧ _
      rw [hb4.block _ (by rw [size_var]; omega), hb4.block _ (by rw [size_var]; omega), hb4.block _ (by rw [size_var]; omega)]
      exact ⟨keep_var G3.1 _ _, keep_var G3.2 _ _, new_var w3 Z Y 23⟩
    have HW : Hid (Below w.heap.size w w4) :=
      (below_var ((below_var ((((Below.refl _ _).alloc (Nat.le_refl _) _).trans (hb1.mono (by simp))).trans (hb2.mono (by omega))) (by omega) _ _).trans (hb3.mono (by rw [size_var]; omega))) (by omega) _ _).trans (hb4.mono (by rw [size_var]; omega))
    clear hb1 hb2 hb3 hb4 hs1 hs2 hs3 G1 G2 G3
    go_wp2_with (first
      | (refine wpList_load_row_w (by rfl) 23 (.tmp 5) rfl w2.heap.size rfl 23 D (0, 0) _ G4.out.2.1 Try.underlying23 rfl HSD.out ?_)
      | (refine wpList_load_row_w (by rfl) 23 (.tmp 2) rfl w.heap.size rfl 23 D (0, 0) _ G4.out.1 Try.underlying23 rfl HSD.out ?_)
      | (refine wpList_load_row_w (by rfl) 23 (.tmp 7) rfl w3.heap.size rfl 23 Y (0, 0) _ G4.out.2.2 Try.underlying23 rfl HSY.out ?_)
      | fail)
  · go_ret
    exact ⟨rfl, HW.out⟩
  · refine (KY.out trivial _).mono ?_
    rintro e w5 ⟨rfl, hb5⟩
    go_wp2
    go_ret
    refine ⟨rfl, HW.out.trans (hb5.mono ?_)⟩
    exact HW.out.size

theorem shaBack_walk (d : List UInt8) (s : ByteArray) (w : World) (hd : d.length = 32) (hs : s.size ≤ maxLen) :
    Calls Try.prog 4 #[digV d, .string s] w fun e w' => e = .returned (.bool true) ∧ Below w.heap.size w w' := by
  by_cases h : s.size ≤ 65536
  · exact shaBack_rest d hd s w h
  · exact shaBack_long _ s w hs (by omega)
end Go.Proofs.Ythkmhfpihkjhnaa
