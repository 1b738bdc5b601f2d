/- What tag.Holds answers; what the calls of package tag answer, all together. -/
import Derived.Test.YtkmndchbmbhlhaaDoorKy
import Derived.Test.YtkmndchbmbhlhaaDoorSm
namespace Go.Proofs.YtkmndchbmbhlhaaDoor
open Go.RowKit Sums
set_option linter.unusedVariables false
set_option linter.unusedSimpArgs false

set_option maxHeartbeats 8000000 in
theorem holds_any (master : List UInt8) (r n : Int) (s : ByteArray) (t : List UInt8) (w : World) (M U : Array Value) (HM : Hid (M = (cellsOf master).toArray)) (HU : Hid (U = (cellsOf t).toArray)) (hm : master.length = 32) (ht : t.length = 32) (hs : s.size ≤ 100000) (hT : TabT w) :
    Calls Tryd.prog 15 #[.agg M, .int .i64 r, .int .i64 n, .string s, .agg U] w fun e w' => e = .returned (.int .i64 (holdE master r n s.data.toList t)) ∧ Below w.heap.size w w' := by
  obtain ⟨Z, HZ, HA, H32⟩ := noughtsY
  have hko := keyO_length sumD_length master r n
  obtain ⟨Ky, HK, HSK, H1K, H32K⟩ := key_row (keyO master r n) hko
  have HZK : Hid (Z.size = Ky.size) := by show _ = _; rw [H32.out, H32K.out]
  have HSM : Hid ((Tryd.prog.info? 23).map (·.size) = some M.size) := by show _ = _; rw [sizeY, HM.out]; simp [cellsOf_length, hm]
  have HSU : Hid ((Tryd.prog.info? 24).map (·.size) = some U.size) := by show _ = _; rw [size23, HU.out]; simp [cellsOf_length, ht]
  obtain ⟨k, Hk⟩ : ∃ k, Hid (k = keyE r n) := ⟨_, (rfl : _ = _)⟩
  have C1 : Hid (∀ W, Below w.heap.size w W → Calls Tryd.prog 12 #[.agg M, .int .i64 r, .int .i64 n] W fun e w' => e = .returned (.tuple #[.agg Ky, .int .i64 k]) ∧ Below W.heap.size W w') := fun W hb => by rw [Hk.out]; exact key_any master r n W M Ky HM hm (hT.keep hb) HK
  obtain ⟨D, HD, HSD, H1D, H32D⟩ := dig_row' (macD (keyO master r n) s.data.toList) (sumD_length _)
  obtain ⟨b, Hb⟩ : ∃ b, Hid (b = decide (t = macD (keyO master r n) s.data.toList)) := ⟨_, (rfl : _ = _)⟩
  have C2 : Hid (∀ W, Below w.heap.size w W → Calls Tryd.prog 9 #[.agg Ky, .string s] W fun e w' => e = .returned (.agg D) ∧ Below W.heap.size W w') := fun W hb => mac_any _ s W Ky D HK hko hs (hT.keep hb) HD
  have C3 : Hid (∀ W, Calls Tryd.prog 11 #[.agg U, .agg D] W fun e w' => e = .returned (.bool b) ∧ Below W.heap.size W w') := fun W => by rw [Hb.out]; exact same_any t _ W U D HU HD ht (sumD_length _)
  have HW0 : Hid (Below w.heap.size w ((w.alloc (.cells M 23)).alloc (.cells U 24)) ∧ ((w.alloc (.cells M 23)).alloc (.cells U 24)).heap[w.heap.size]? = some (.cells M 23 (0, 0)) ∧ ((w.alloc (.cells M 23)).alloc (.cells U 24)).heap[w.heap.size + 1]? = some (.cells U 24 (0, 0))) :=
    ⟨((Below.refl _ _).alloc (Nat.le_refl _) _).alloc (by simp) _, heap_keep (heap_alloc_new w _), by have := heap_alloc_new (w.alloc (.cells M 23)) (.cells U 24); rwa [alloc_size] at this⟩
  have hk0 : (k = 0 ∧ owner r n = true) ∨ (k = 50 ∧ ¬ owner r n = true) := by
    rw [Hk.out]; unfold keyE
    by_cases ho : owner r n = true
    · rw [if_pos ho]; exact .inl ⟨rfl, ho⟩
    · rw [if_neg ho]; exact .inr ⟨rfl, ho⟩
  obtain ⟨z, Hz⟩ : ∃ z, Hid (z = holdE master r n s.data.toList t) := ⟨_, (rfl : _ = _)⟩
  rw [← Hz.out]
  clear hT HD HK HM HU Hk
  go_enter Tryd.func15, Tryd.ntmps15
  go_wp2_with (first
    | (show wpList _ _ _ ({ dst := some 14, op := _, type := _, pos := _, after := _, guard := _ } :: _) _ _; refine wpList_load_row rfl 23 (.tmp 5) rfl w.heap.size rfl 23 M (0, 0) _ HW0.out.2.1 Tryd.underlying23 rfl HSM.out ?_; try simp only [Act.put, List.setIfInBounds_toArray, List.set_cons_zero, List.set_cons_succ])
    | fail)
  refine (C1.out _ HW0.out.1).mono ?_
  rintro e w1 ⟨rfl, hb1⟩
  have HB1 := hidk (HW0.out.1.trans (hb1.mono HW0.out.1.size))
  have HU1 := hidk ((hb1.block _ (heap_lt HW0.out.2.2)).trans HW0.out.2.2)
  clear hb1 HW0 C1
  rcases hk0 with ⟨rfl, ho⟩ | ⟨rfl, ho⟩
  · have HE : Hid (z = if b = true then 0 else 72) := by
      show _ = _
      rw [Hz.out, holdE_in _ _ _ _ _ ho, ← keyO_in _ _ _ ho, Hb.out]
      by_cases h : t = macD (keyO master r n) s.data.toList
      · rw [if_pos h.symm, if_pos (by simpa using h)]
      · rw [if_neg (fun q => h q.symm), if_neg (by simpa using h)]
    clear Hb Hz ho
    go_wp2_with (first
      | (show wpList _ _ _ ({ dst := some 11, op := _, type := _, pos := _, after := _, guard := _ } :: _) _ _; refine wpList_new_var rfl 23 rfl Z HA.out ?_; intro g11 w2 HM11; try simp only [Act.put, List.setIfInBounds_toArray, List.set_cons_zero, List.set_cons_succ])
      | (refine wpList_set_var rfl 23 (.tmp 11) (.tmp 18) rfl g11 Ky rfl rfl 23 Z HM11.out.row HSK.out HZK.out H1K.out ?_; intro w3 HW11; try simp only [Act.put, List.setIfInBounds_toArray, List.set_cons_zero, List.set_cons_succ])
      | fail)
    have HX3 := hidk (HW11.out.below w1.heap.size w1 HM11.out.below (Nat.le_of_eq HM11.out.new.symm))
    have HBc : Hid (Below w.heap.size w w3.drew) := (HB1.out.trans (HX3.out.mono HB1.out.size)).drew
    have HU3 := hidk ((HX3.out.block _ (heap_lt HU1.out)).trans HU1.out)
    have HK3 := hidk HW11.out.row
    clear HM11 HW11 HX3 HB1 HU1
    refine wp_region_held_drew (S := (fun W => W.heap[w.heap.size + 1]? = some (.cells U 24 (0, 0)) ∧ W.heap[g11]? = some (.cells Ky 23 (0, 0)))) (by kernel_rfl) ⟨HU3.out, HK3.out⟩ (fun hHeld => ?_)
    refine wpAnyH_take (i := 0) (oi := { dst := some 23, op := Op.load 24 (Operand.tmp 9), type := 24, pos := "tag.go:48", after := #[], guard := none }) (v := .agg U) rfl (by kernel_rfl) (by kernel_rfl) (by kernel_rfl) (fun _ _ _ h => h) (yieldsIf_row (by rfl) 24 (.tmp 9) rfl (w.heap.size + 1) rfl 24 U (0, 0) _ (fun _ h => h.1) Tryd.underlying24 rfl HSU.out) hHeld ?_
    try simp only [Act.put, List.setIfInBounds_toArray, List.set_cons_zero, List.set_cons_succ]
    refine wpAnyH_take (i := 1) (oi := { dst := some 24, op := Op.load 23 (Operand.tmp 11), type := 23, pos := "tag.go:48", after := #[], guard := none }) (v := .agg Ky) rfl (by kernel_rfl) (by kernel_rfl) (by kernel_rfl) (fun _ _ _ h => h) (yieldsIf_row (by rfl) 23 (.tmp 11) rfl g11 rfl 23 Ky (0, 0) _ (fun _ h => h.2) Tryd.underlying23 rfl HSK.out) hHeld ?_
    try simp only [Act.put, List.setIfInBounds_toArray, List.set_cons_zero, List.set_cons_succ]
    refine wpAnyH_take (i := 2) (oi := { dst := some 25, op := Op.move (Operand.tmp 3), type := 9, pos := "tag.go:48", after := #[], guard := none }) (v := .string s) rfl (by kernel_rfl) (by kernel_rfl) (by kernel_rfl) (fun _ _ _ h => h) (Or.inl ⟨by rfl, by intro W hSw; go_simp⟩) hHeld ?_
    try simp only [Act.put, List.setIfInBounds_toArray, List.set_cons_zero, List.set_cons_succ]
    refine wpAnyH_ready (rs := [3]) (by kernel_rfl) (by simp) ?_
    refine (AllReadyH.cons (o := { dst := some 26, op := Op.call { callee := Callee.value (Operand.func 9), args := #[Operand.tmp 24, Operand.tmp 25], argTypes := #[23, 9] }, type := 24, pos := "tag.go:48", after := #[{ on := 1, ground := Ground.data }, { on := 2, ground := Ground.data }], guard := none }) rfl (fun K hK => ?_) AllReadyH.nil)
    go_simp
    refine (C2.out _ HBc.out).mono ?_
    rintro e w4 ⟨rfl, hb4⟩
    replace HBc := hidk (HBc.out.trans (hb4.mono HBc.out.size))
    go_wp2_with fail
    refine hK.out _ _ ⟨(hb4.block _ (heap_lt hHeld.1)).trans hHeld.1, (hb4.block _ (heap_lt hHeld.2)).trans hHeld.2⟩ (fun hHeld => ?_)
    clear hK K
    try simp only [Act.put, List.setIfInBounds_toArray, List.set_cons_zero, List.set_cons_succ]
    refine wpAnyH_ready (rs := [4]) (by kernel_rfl) (by simp) ?_
    refine (AllReadyH.cons (o := { dst := some 27, op := Op.call { callee := Callee.value (Operand.func 11), args := #[Operand.tmp 23, Operand.tmp 26], argTypes := #[24, 24] }, type := 4, pos := "tag.go:48", after := #[{ on := 0, ground := Ground.data }, { on := 3, ground := Ground.data }, { on := 3, ground := Ground.chain }], guard := none }) rfl (fun K hK => ?_) AllReadyH.nil)
    go_simp
    refine (C3.out _).mono ?_
    rintro e w5 ⟨rfl, hb5⟩
    replace HBc := hidk (HBc.out.trans (hb5.mono HBc.out.size))
    go_wp2_with fail
    refine hK.out _ _ ⟨(hb5.block _ (heap_lt hHeld.1)).trans hHeld.1, (hb5.block _ (heap_lt hHeld.2)).trans hHeld.2⟩ (fun hHeld => ?_)
    clear hK K
    try simp only [Act.put, List.setIfInBounds_toArray, List.set_cons_zero, List.set_cons_succ]
    refine wpAnyH_take (i := 5) (oi := { dst := some 28, op := Op.unOp UnOp.not 4 (Operand.tmp 27), type := 4, pos := "tag.go:48", after := #[{ on := 4, ground := Ground.data }], guard := none }) (v := .bool (!b)) rfl (by kernel_rfl) (by kernel_rfl) (by kernel_rfl) (fun _ _ _ h => h) (Or.inl ⟨by rfl, by intro W hSw; go_simp⟩) hHeld ?_
    try simp only [Act.put, List.setIfInBounds_toArray, List.set_cons_zero, List.set_cons_succ]
    refine wpAnyH_done (by kernel_rfl) ?_ _
    cases b
    · go_wp2
      go_ret
      exact ⟨by rw [HE.out]; rfl, HBc.out⟩
    · go_wp2
      go_ret
      exact ⟨by rw [HE.out]; rfl, HBc.out⟩
  · have HE : Hid (z = 50) := by show _ = _; rw [Hz.out, holdE_out _ _ _ _ _ ho]
    clear Hb Hz ho
    go_wp2_with (first
      | (show wpList _ _ _ ({ dst := some 11, op := _, type := _, pos := _, after := _, guard := _ } :: _) _ _; refine wpList_new_var rfl 23 rfl Z HA.out ?_; intro g11 w2 HM11; try simp only [Act.put, List.setIfInBounds_toArray, List.set_cons_zero, List.set_cons_succ])
      | (refine wpList_set_var rfl 23 (.tmp 11) (.tmp 18) rfl g11 Ky rfl rfl 23 Z HM11.out.row HSK.out HZK.out H1K.out ?_; intro w3 HW11; try simp only [Act.put, List.setIfInBounds_toArray, List.set_cons_zero, List.set_cons_succ])
      | fail)
    have HX3 := hidk (HW11.out.below w1.heap.size w1 HM11.out.below (Nat.le_of_eq HM11.out.new.symm))
    go_ret
    exact ⟨by rw [HE.out]; rfl, HB1.out.trans (HX3.out.mono HB1.out.size)⟩

/-- What the calls of package tag answer. -/
theorem tagC : TagC where
  mac := fun key s w K D HK hk hs hT HD => mac_any key s w K D HK hk hs hT HD
  same := fun a b w A B HA HB ha hb => same_any a b w A B HA HB ha hb
  key := fun master r n w M K HM hm _ _ hT HK => key_any master r n w M K HM hm hT HK
  holds := fun master r n s t w M U HM HU hm ht _ _ hs hT => holds_any master r n s t w M U HM HU hm ht hs hT
end Go.Proofs.YtkmndchbmbhlhaaDoor
