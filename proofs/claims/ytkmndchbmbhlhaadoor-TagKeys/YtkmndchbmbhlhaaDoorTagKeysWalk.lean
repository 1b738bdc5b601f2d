/- What TagKeys says of any input, over what the calls of package tag answer. -/
import Derived.Test.YtkmndchbmbhlhaaDoorTagC
import Derived.Test.YtkmndchbmbhlhaaDoorRefTag
namespace Go.Proofs.YtkmndchbmbhlhaaDoor
open Go.RowKit Sums
set_option linter.unusedVariables false
set_option linter.unusedSimpArgs false

/-- A key and a digest that came in. -/
def Came2 (w W : World) (M U : Array Value) : Prop := Below w.heap.size w W ∧ W.heap[w.heap.size]? = some (.cells M 23 (0, 0)) ∧ W.heap[w.heap.size + 1]? = some (.cells U 24 (0, 0))
theorem came2 (w : World) (M U : Array Value) : Came2 w ((w.alloc (.cells M 23)).alloc (.cells U 24)) M U := ⟨((Below.refl _ _).alloc (Nat.le_refl _) _).alloc (by simp) _, heap_alloc2_old w _ _, heap_alloc2_new w _ _⟩
theorem Came2.keep {w W W' : World} {M U : Array Value} (h : Came2 w W M U) (hb : Below W.heap.size W W') : Came2 w W' M U :=
  ⟨h.1.trans (hb.mono h.1.size), (hb.block _ (heap_lt h.2.1)).trans h.2.1, (hb.block _ (heap_lt h.2.2)).trans h.2.2⟩
theorem came2_lt {w W : World} {M U : Array Value} (h : Came2 w W M U) : w.heap.size + 1 < W.heap.size := heap_lt h.2.2

set_option maxHeartbeats 4000000 in
theorem tagKeys_of (ck : TagC) (z0 : List UInt8) (a1 a2 : Int) (a3 : ByteArray) (z4 : List UInt8) (w : World) (w0 : z0.length = 32) (w1 : (Lit.int .i64 a1).wf = true) (w2 : (Lit.int .i64 a2).wf = true) (w3 : a3.size ≤ maxLen) (w4 : z4.length = 32) (hC : Table 1 w) (hT : TabT w) :
    Calls Tryd.prog 4 #[digV z0, .int .i64 a1, .int .i64 a2, .string a3, digV z4] w fun e w' => e = .returned (.bool true) ∧ Below w.heap.size w w' := by
  unfold digV
  have b1 := bounds_i64 w1
  have b2 := bounds_i64 w2
  obtain ⟨M, HM, HSM, H1M, H32M⟩ := key_row z0 w0
  obtain ⟨U, HU, HSU, H1U, H32U⟩ := dig_row' z4 w4
  rw [← HM.out, ← HU.out]
  have HB := hidk (came2 w M U)
  have hml : a3.size ≤ 9223372036854775807 := by unfold maxLen at w3; omega
  by_cases hlen : 16384 < a3.size
  · have d0 : decide (16384 < (a3.size : Int)) = true := by rw [decide_eq_true_eq]; omega
    have d0' : decide (16384 < a3.size) = true := by rw [decide_eq_true_eq]; omega
    clear hlen
    go_enter Tryd.func4, Tryd.ntmps4
    go_wp2
    go_ret
    exact ⟨rfl, HB.out.1⟩
  have d0 : decide (16384 < (a3.size : Int)) = false := by rw [decide_eq_false_iff_not]; omega
  have d0' : decide (16384 < a3.size) = false := by rw [decide_eq_false_iff_not]; omega
  have hle : a3.size ≤ 100000 := by omega
  obtain ⟨Z, HZ, HA, H32⟩ := noughtsY
  have HBY : Hid (Tryd.prog.built 23 [] = some Z) := by show _ = _; rw [HZ.out]; exact builtY
  have HSZ : Hid ((Tryd.prog.info? 23).map (·.size) = some Z.size) := by show _ = _; rw [sizeY, H32.out]
  have H1Z : Hid (Z.all (·.oneCell') = true) := by show _ = _; rw [HZ.out]; exact cellsOf_all _
  obtain ⟨K, HK, HSK, H1K, H32K⟩ := key_row (keyO z0 a1 a2) (keyO_length sumD_length _ _ _)
  have HZK : Hid (Z.size = K.size) := by show _ = _; rw [H32.out, H32K.out]
  obtain ⟨E, HE⟩ : ∃ E, Hid (E = keyE a1 a2) := ⟨_, (rfl : _ = _)⟩
  obtain ⟨F, HF⟩ : ∃ F, Hid (F = holdE z0 a1 a2 a3.data.toList z4) := ⟨_, (rfl : _ = _)⟩
  have C0 : Hid (∀ W, Below w.heap.size w W → Calls Tryd.prog 8 #[] W fun e w' => e = .returned (.bool true) ∧ Below W.heap.size W w') := fun W hb => macs_true ck W (hT.keep hb)
  have C1 : Hid (∀ W, Below w.heap.size w W → Calls Tryd.prog 12 #[.agg M, .int .i64 a1, .int .i64 a2] W fun e w' => e = .returned (.tuple #[.agg K, .int .i64 E]) ∧ Below W.heap.size W w') := fun W hb => by rw [HE.out]; exact ck.key z0 a1 a2 W M K HM w0 b1 b2 (hT.keep hb) HK
  have C2 : Hid (∀ W, Calls Tryd.prog 13 #[.int .i64 a1, .int .i64 a2] W fun e w' => e = .returned (.bool (owner a1 a2)) ∧ w' = W) := fun W => refOwner_any a1 a2 W
  have C4 : Hid (∀ W, Below w.heap.size w W → Calls Tryd.prog 15 #[.agg M, .int .i64 a1, .int .i64 a2, .string a3, .agg U] W fun e w' => e = .returned (.int .i64 F) ∧ Below W.heap.size W w') := fun W hb => by rw [HF.out]; exact ck.holds z0 a1 a2 a3 z4 W M U HM HU w0 w4 b1 b2 hle (hT.keep hb)
  have C5 : Hid (∀ W, Below w.heap.size w W → Calls Tryd.prog 16 #[.agg M, .int .i64 a1, .int .i64 a2, .string a3, .agg U] W fun e w' => e = .returned (.int .i64 F) ∧ Below W.heap.size W w') := fun W hb => by rw [HF.out]; exact refHolds_any z0 a1 a2 a3 z4 W M U HM HU w0 w4 hle (hC.keep hb)
  have q1 : ∀ W, (binOp .eql 23 (.agg K) (.agg K)).run Tryd.prog W = .ok (.bool true) W := fun W => eqKeyV _ _ (keyO_length sumD_length _ _ _) (keyO_length sumD_length _ _ _) K K HK HK true (by simp) W
  by_cases ho : owner a1 a2 = true
  · have C3 : Hid (∀ W, Below w.heap.size w W → Calls Tryd.prog 14 #[.agg M, .int .i64 a1, .int .i64 a2] W fun e w' => e = .returned (.agg K) ∧ Below W.heap.size W w') := fun W hb => refKey_any z0 a1 a2 W M K HM w0 ho (hC.keep hb) (by rw [← keyO_in _ _ _ ho]; exact HK)
    obtain rfl : E = 0 := by rw [HE.out]; unfold keyE; rw [if_pos ho]
    rw [ho] at C2
    clear hT hC HM HU HK HE HF hlen w1 w2 w3 ho HZ
    go_enter Tryd.func4, Tryd.ntmps4
    go_wp2_with (first
      | (show wpList _ _ _ ({ dst := some 19, op := _, type := _, pos := _, after := _, guard := _ } :: _) _ _; refine wpList_load_row rfl 23 (.tmp 5) rfl w.heap.size rfl 23 M (0, 0) _ HB.out.2.1 Tryd.underlying23 rfl HSM.out ?_; try simp only [Act.put, List.setIfInBounds_toArray, List.set_cons_zero, List.set_cons_succ])
      | fail)
    refine (C1.out _ HB.out.1).mono ?_
    rintro e w1 ⟨rfl, hb1⟩
    have HC1 := hidk (HB.out.keep hb1)
    clear hb1 HB C1
    go_wp2_with (first
      | (show wpList _ _ _ ({ dst := some 11, op := _, type := _, pos := _, after := _, guard := _ } :: _) _ _; refine wpList_new_var rfl 23 rfl Z HA.out ?_; intro g11 w2 HM11; try simp only [Act.put, List.setIfInBounds_toArray, List.set_cons_zero, List.set_cons_succ])
      | (refine wpList_set_var rfl 23 (.tmp 11) (.tmp 23) rfl g11 K rfl rfl 23 Z HM11.out.row HSK.out HZK.out H1K.out ?_; intro w3 HW11; try simp only [Act.put, List.setIfInBounds_toArray, List.set_cons_zero, List.set_cons_succ])
      | (show wpList _ _ _ ({ dst := some 25, op := _, type := _, pos := _, after := _, guard := _ } :: _) _ _; refine wpList_build_none rfl 23 rfl Z HBY.out ?_; try simp only [Act.put, List.setIfInBounds_toArray, List.set_cons_zero, List.set_cons_succ])
      | (show wpList _ _ _ ({ dst := some 13, op := _, type := _, pos := _, after := _, guard := _ } :: _) _ _; refine wpList_new_var rfl 23 rfl Z HA.out ?_; intro g13 w4 HM13; try simp only [Act.put, List.setIfInBounds_toArray, List.set_cons_zero, List.set_cons_succ])
      | (refine wpList_set_var rfl 23 (.tmp 13) (.tmp 25) rfl g13 Z rfl rfl 23 Z HM13.out.row HSZ.out rfl H1Z.out ?_; intro w5 HW13a; try simp only [Act.put, List.setIfInBounds_toArray, List.set_cons_zero, List.set_cons_succ])
      | fail)
    have h11 : w.heap.size + 1 < g11 := by rw [HM11.out.new]; exact came2_lt HC1.out
    have h13 : g11 < g13 := by rw [HM13.out.new]; exact heap_lt HW11.out.row
    have HB3 := hidk (HW11.out.below w1.heap.size w1 HM11.out.below (Nat.le_of_eq HM11.out.new.symm))
    have HC3 := hidk (HC1.out.keep HB3.out)
    have HB5 := hidk (HW13a.out.below w3.heap.size w3 HM13.out.below (Nat.le_of_eq HM13.out.new.symm))
    have HC5 := hidk (HC3.out.keep HB5.out)
    have HR115 := hidk ((HB5.out.block _ (heap_lt HW11.out.row)).trans HW11.out.row)
    have HR135 := hidk HW13a.out.row
    clear HM11 HW11 HM13 HW13a HC1 HC3 HB3 HB5
    refine (C2.out _).mono ?_
    rintro e w6 ⟨rfl, rfl⟩
    go_wp2_with (first
      | (show wpList _ _ _ ({ dst := some 29, op := _, type := _, pos := _, after := _, guard := _ } :: _) _ _; refine wpList_load_row rfl 23 (.tmp 5) rfl w.heap.size rfl 23 M (0, 0) _ HC5.out.2.1 Tryd.underlying23 rfl HSM.out ?_; try simp only [Act.put, List.setIfInBounds_toArray, List.set_cons_zero, List.set_cons_succ])
      | fail)
    refine (C3.out _ HC5.out.1).mono ?_
    rintro e w7 ⟨rfl, hb7⟩
    have HC7 := hidk (HC5.out.keep hb7)
    have HR11k := hidk ((hb7.block _ (heap_lt HR115.out)).trans HR115.out)
    have HR13k := hidk ((hb7.block _ (heap_lt HR135.out)).trans HR135.out)
    clear hb7 HC5 HR115 HR135 C3
    go_wp2_with (first
      | (refine wpList_set_var rfl 23 (.tmp 13) (.tmp 32) rfl g13 K rfl rfl 23 Z HR13k.out HSK.out HZK.out H1K.out ?_; intro w8 HW13; try simp only [Act.put, List.setIfInBounds_toArray, List.set_cons_zero, List.set_cons_succ])
      | fail)
    have HB8 := hidk (HW13.out.below w.heap.size w HC7.out.1 (by omega))
    have HC8 : Hid (Came2 w w8 M U) := ⟨HB8.out, (HW13.out.other _ (by omega)).trans HC7.out.2.1, (HW13.out.other _ (by omega)).trans HC7.out.2.2⟩
    have HR11 := hidk ((HW13.out.other g11 (by omega)).trans HR11k.out)
    have HR13 := hidk HW13.out.row
    clear HW13 HC7 HR11k HR13k HB8
    refine wp_region_held_drew (S := (fun W => W.heap[w.heap.size]? = some (.cells M 23 (0, 0)) ∧ W.heap[w.heap.size + 1]? = some (.cells U 24 (0, 0)) ∧ W.heap[g11]? = some (.cells K 23 (0, 0)) ∧ W.heap[g13]? = some (.cells K 23 (0, 0)))) (by kernel_rfl) ⟨HC8.out.2.1, HC8.out.2.2, HR11.out, HR13.out⟩ (fun hHeld => ?_)
    refine wpAnyH_ready (rs := [0]) (by kernel_rfl) (by simp) ?_
    refine (AllReadyH.cons (o := { dst := some 33, op := Op.call { callee := Callee.value (Operand.func 8), args := #[], argTypes := #[] }, type := 4, pos := "law.go:42", after := #[], guard := none }) rfl (fun K hK => ?_) AllReadyH.nil)
    go_simp
    refine (C0.out _ HC8.out.1.drew).mono ?_
    rintro e w0 ⟨rfl, hb1⟩
    have HB1 := hidk (HC8.out.1.drew.trans (hb1.mono HC8.out.1.size))
    go_wp2_with fail
    refine hK.out _ _ ⟨(hb1.block _ (heap_lt hHeld.1)).trans hHeld.1, (hb1.block _ (heap_lt hHeld.2.1)).trans hHeld.2.1, (hb1.block _ (heap_lt hHeld.2.2.1)).trans hHeld.2.2.1, (hb1.block _ (heap_lt hHeld.2.2.2)).trans hHeld.2.2.2⟩ (fun hHeld => ?_)
    clear hK K
    try simp only [Act.put, List.setIfInBounds_toArray, List.set_cons_zero, List.set_cons_succ]
    refine wpAnyH_take (i := 1) (oi := { dst := some 34, op := Op.move (Operand.tmp 33), type := 4, pos := "law.go:42", after := #[{ on := 0, ground := Ground.data }, { on := 0, ground := Ground.chain }], guard := none }) (v := .bool true) rfl (by kernel_rfl) (by kernel_rfl) (by kernel_rfl) (fun _ _ _ h => h) (Or.inl ⟨by rfl, by intro W hSw; go_simp⟩) hHeld ?_
    try simp only [Act.put, List.setIfInBounds_toArray, List.set_cons_zero, List.set_cons_succ]
    refine wpAnyH_take (i := 2) (oi := { dst := some 35, op := Op.load 23 (Operand.tmp 11), type := 23, pos := "law.go:42", after := #[{ on := 1, ground := Ground.guard }], guard := some (1, true) }) (v := .agg K) rfl (by kernel_rfl) (by kernel_rfl) (by kernel_rfl) (fun _ _ _ h => h) (yieldsIf_row (by rfl) 23 (.tmp 11) rfl g11 rfl 23 K (0, 0) _ (fun _ h => h.2.2.1) Tryd.underlying23 rfl HSK.out) hHeld ?_
    try simp only [Act.put, List.setIfInBounds_toArray, List.set_cons_zero, List.set_cons_succ]
    refine wpAnyH_take (i := 3) (oi := { dst := some 36, op := Op.load 23 (Operand.tmp 13), type := 23, pos := "law.go:42", after := #[{ on := 1, ground := Ground.guard }], guard := some (1, true) }) (v := .agg K) rfl (by kernel_rfl) (by kernel_rfl) (by kernel_rfl) (fun _ _ _ h => h) (yieldsIf_row (by rfl) 23 (.tmp 13) rfl g13 rfl 23 K (0, 0) _ (fun _ h => h.2.2.2) Tryd.underlying23 rfl HSK.out) hHeld ?_
    try simp only [Act.put, List.setIfInBounds_toArray, List.set_cons_zero, List.set_cons_succ]
    refine wpAnyH_take (i := 4) (oi := { dst := some 37, op := Op.binOp BinOp.eql 23 (Operand.tmp 35) (Operand.tmp 36) 23, type := 4, pos := "law.go:42", after := #[{ on := 2, ground := Ground.data }, { on := 3, ground := Ground.data }, { on := 1, ground := Ground.guard }], guard := some (1, true) }) (v := .bool true) rfl (by kernel_rfl) (by kernel_rfl) (by kernel_rfl) (fun _ _ _ h => h) (Or.inl ⟨by rfl, by intro W hSw; have := q1 W; go_simp⟩) hHeld ?_
    try simp only [Act.put, List.setIfInBounds_toArray, List.set_cons_zero, List.set_cons_succ]
    refine wpAnyH_take (i := 5) (oi := { dst := some 38, op := Op.pick (Operand.tmp 34) (Operand.tmp 37) (Operand.const (Value.bool false)), type := 4, pos := "law.go:42", after := #[{ on := 1, ground := Ground.data }, { on := 4, ground := Ground.data }], guard := none }) (v := .bool true) rfl (by kernel_rfl) (by kernel_rfl) (by kernel_rfl) (fun _ _ _ h => h) (Or.inl ⟨by rfl, by intro W hSw; go_simp⟩) hHeld ?_
    try simp only [Act.put, List.setIfInBounds_toArray, List.set_cons_zero, List.set_cons_succ]
    refine wpAnyH_take (i := 6) (oi := { dst := some 39, op := Op.move (Operand.tmp 38), type := 4, pos := "law.go:42", after := #[{ on := 5, ground := Ground.data }, { on := 1, ground := Ground.chain }], guard := none }) (v := .bool true) rfl (by kernel_rfl) (by kernel_rfl) (by kernel_rfl) (fun _ _ _ h => h) (Or.inl ⟨by rfl, by intro W hSw; go_simp⟩) hHeld ?_
    try simp only [Act.put, List.setIfInBounds_toArray, List.set_cons_zero, List.set_cons_succ]
    refine wpAnyH_take (i := 7) (oi := { dst := some 40, op := Op.move (Operand.tmp 12), type := 29, pos := "law.go:42", after := #[{ on := 6, ground := Ground.guard }], guard := some (6, true) }) (v := .int .i64 0) rfl (by kernel_rfl) (by kernel_rfl) (by kernel_rfl) (fun _ _ _ h => h) (Or.inl ⟨by rfl, by intro W hSw; go_simp⟩) hHeld ?_
    try simp only [Act.put, List.setIfInBounds_toArray, List.set_cons_zero, List.set_cons_succ]
    refine wpAnyH_take (i := 8) (oi := { dst := some 41, op := Op.move (Operand.tmp 14), type := 29, pos := "law.go:42", after := #[{ on := 6, ground := Ground.guard }], guard := some (6, true) }) (v := .int .i64 0) rfl (by kernel_rfl) (by kernel_rfl) (by kernel_rfl) (fun _ _ _ h => h) (Or.inl ⟨by rfl, by intro W hSw; go_simp⟩) hHeld ?_
    try simp only [Act.put, List.setIfInBounds_toArray, List.set_cons_zero, List.set_cons_succ]
    refine wpAnyH_take (i := 9) (oi := { dst := some 42, op := Op.binOp BinOp.eql 29 (Operand.tmp 40) (Operand.tmp 41) 29, type := 4, pos := "law.go:42", after := #[{ on := 7, ground := Ground.data }, { on := 8, ground := Ground.data }, { on := 6, ground := Ground.guard }], guard := some (6, true) }) (v := .bool true) rfl (by kernel_rfl) (by kernel_rfl) (by kernel_rfl) (fun _ _ _ h => h) (Or.inl ⟨by rfl, by intro W hSw; go_simp⟩) hHeld ?_
    try simp only [Act.put, List.setIfInBounds_toArray, List.set_cons_zero, List.set_cons_succ]
    refine wpAnyH_take (i := 10) (oi := { dst := some 43, op := Op.pick (Operand.tmp 39) (Operand.tmp 42) (Operand.const (Value.bool false)), type := 4, pos := "law.go:42", after := #[{ on := 6, ground := Ground.data }, { on := 9, ground := Ground.data }], guard := none }) (v := .bool true) rfl (by kernel_rfl) (by kernel_rfl) (by kernel_rfl) (fun _ _ _ h => h) (Or.inl ⟨by rfl, by intro W hSw; go_simp⟩) hHeld ?_
    try simp only [Act.put, List.setIfInBounds_toArray, List.set_cons_zero, List.set_cons_succ]
    refine wpAnyH_take (i := 11) (oi := { dst := some 44, op := Op.move (Operand.tmp 43), type := 4, pos := "law.go:42", after := #[{ on := 10, ground := Ground.data }, { on := 6, ground := Ground.chain }], guard := none }) (v := .bool true) rfl (by kernel_rfl) (by kernel_rfl) (by kernel_rfl) (fun _ _ _ h => h) (Or.inl ⟨by rfl, by intro W hSw; go_simp⟩) hHeld ?_
    try simp only [Act.put, List.setIfInBounds_toArray, List.set_cons_zero, List.set_cons_succ]
    refine wpAnyH_take (i := 12) (oi := { dst := some 45, op := Op.load 23 (Operand.tmp 5), type := 23, pos := "law.go:42", after := #[{ on := 11, ground := Ground.guard }], guard := some (11, true) }) (v := .agg M) rfl (by kernel_rfl) (by kernel_rfl) (by kernel_rfl) (fun _ _ _ h => h) (yieldsIf_row (by rfl) 23 (.tmp 5) rfl w.heap.size rfl 23 M (0, 0) _ (fun _ h => h.1) Tryd.underlying23 rfl HSM.out) hHeld ?_
    try simp only [Act.put, List.setIfInBounds_toArray, List.set_cons_zero, List.set_cons_succ]
    refine wpAnyH_take (i := 13) (oi := { dst := some 46, op := Op.move (Operand.tmp 1), type := 3, pos := "law.go:42", after := #[{ on := 11, ground := Ground.guard }], guard := some (11, true) }) (v := .int .i64 a1) rfl (by kernel_rfl) (by kernel_rfl) (by kernel_rfl) (fun _ _ _ h => h) (Or.inl ⟨by rfl, by intro W hSw; go_simp⟩) hHeld ?_
    try simp only [Act.put, List.setIfInBounds_toArray, List.set_cons_zero, List.set_cons_succ]
    refine wpAnyH_take (i := 14) (oi := { dst := some 47, op := Op.move (Operand.tmp 2), type := 3, pos := "law.go:42", after := #[{ on := 11, ground := Ground.guard }], guard := some (11, true) }) (v := .int .i64 a2) rfl (by kernel_rfl) (by kernel_rfl) (by kernel_rfl) (fun _ _ _ h => h) (Or.inl ⟨by rfl, by intro W hSw; go_simp⟩) hHeld ?_
    try simp only [Act.put, List.setIfInBounds_toArray, List.set_cons_zero, List.set_cons_succ]
    refine wpAnyH_take (i := 15) (oi := { dst := some 48, op := Op.move (Operand.tmp 3), type := 9, pos := "law.go:42", after := #[{ on := 11, ground := Ground.guard }], guard := some (11, true) }) (v := .string a3) rfl (by kernel_rfl) (by kernel_rfl) (by kernel_rfl) (fun _ _ _ h => h) (Or.inl ⟨by rfl, by intro W hSw; go_simp⟩) hHeld ?_
    try simp only [Act.put, List.setIfInBounds_toArray, List.set_cons_zero, List.set_cons_succ]
    refine wpAnyH_take (i := 16) (oi := { dst := some 49, op := Op.load 24 (Operand.tmp 9), type := 24, pos := "law.go:42", after := #[{ on := 11, ground := Ground.guard }], guard := some (11, true) }) (v := .agg U) rfl (by kernel_rfl) (by kernel_rfl) (by kernel_rfl) (fun _ _ _ h => h) (yieldsIf_row (by rfl) 24 (.tmp 9) rfl (w.heap.size + 1) rfl 24 U (0, 0) _ (fun _ h => h.2.1) Tryd.underlying24 rfl HSU.out) hHeld ?_
    try simp only [Act.put, List.setIfInBounds_toArray, List.set_cons_zero, List.set_cons_succ]
    refine wpAnyH_take (i := 18) (oi := { dst := some 51, op := Op.load 23 (Operand.tmp 5), type := 23, pos := "law.go:42", after := #[{ on := 11, ground := Ground.guard }], guard := some (11, true) }) (v := .agg M) rfl (by kernel_rfl) (by kernel_rfl) (by kernel_rfl) (fun _ _ _ h => h) (yieldsIf_row (by rfl) 23 (.tmp 5) rfl w.heap.size rfl 23 M (0, 0) _ (fun _ h => h.1) Tryd.underlying23 rfl HSM.out) hHeld ?_
    try simp only [Act.put, List.setIfInBounds_toArray, List.set_cons_zero, List.set_cons_succ]
    refine wpAnyH_take (i := 19) (oi := { dst := some 52, op := Op.move (Operand.tmp 1), type := 3, pos := "law.go:42", after := #[{ on := 11, ground := Ground.guard }], guard := some (11, true) }) (v := .int .i64 a1) rfl (by kernel_rfl) (by kernel_rfl) (by kernel_rfl) (fun _ _ _ h => h) (Or.inl ⟨by rfl, by intro W hSw; go_simp⟩) hHeld ?_
    try simp only [Act.put, List.setIfInBounds_toArray, List.set_cons_zero, List.set_cons_succ]
    refine wpAnyH_take (i := 20) (oi := { dst := some 53, op := Op.move (Operand.tmp 2), type := 3, pos := "law.go:42", after := #[{ on := 11, ground := Ground.guard }], guard := some (11, true) }) (v := .int .i64 a2) rfl (by kernel_rfl) (by kernel_rfl) (by kernel_rfl) (fun _ _ _ h => h) (Or.inl ⟨by rfl, by intro W hSw; go_simp⟩) hHeld ?_
    try simp only [Act.put, List.setIfInBounds_toArray, List.set_cons_zero, List.set_cons_succ]
    refine wpAnyH_take (i := 21) (oi := { dst := some 54, op := Op.move (Operand.tmp 3), type := 9, pos := "law.go:42", after := #[{ on := 11, ground := Ground.guard }], guard := some (11, true) }) (v := .string a3) rfl (by kernel_rfl) (by kernel_rfl) (by kernel_rfl) (fun _ _ _ h => h) (Or.inl ⟨by rfl, by intro W hSw; go_simp⟩) hHeld ?_
    try simp only [Act.put, List.setIfInBounds_toArray, List.set_cons_zero, List.set_cons_succ]
    refine wpAnyH_take (i := 22) (oi := { dst := some 55, op := Op.load 24 (Operand.tmp 9), type := 24, pos := "law.go:42", after := #[{ on := 11, ground := Ground.guard }], guard := some (11, true) }) (v := .agg U) rfl (by kernel_rfl) (by kernel_rfl) (by kernel_rfl) (fun _ _ _ h => h) (yieldsIf_row (by rfl) 24 (.tmp 9) rfl (w.heap.size + 1) rfl 24 U (0, 0) _ (fun _ h => h.2.1) Tryd.underlying24 rfl HSU.out) hHeld ?_
    try simp only [Act.put, List.setIfInBounds_toArray, List.set_cons_zero, List.set_cons_succ]
    refine wpAnyH_ready (rs := [17]) (by kernel_rfl) (by simp) ?_
    refine (AllReadyH.cons (o := { dst := some 50, op := Op.call { callee := Callee.value (Operand.func 15), args := #[Operand.tmp 45, Operand.tmp 46, Operand.tmp 47, Operand.tmp 48, Operand.tmp 49], argTypes := #[23, 3, 3, 9, 24] }, type := 29, pos := "law.go:42", after := #[{ on := 12, ground := Ground.data }, { on := 13, ground := Ground.data }, { on := 14, ground := Ground.data }, { on := 15, ground := Ground.data }, { on := 16, ground := Ground.data }, { on := 11, ground := Ground.chain }, { on := 11, ground := Ground.guard }], guard := some (11, true) }) rfl (fun K hK => ?_) AllReadyH.nil)
    go_simp
    refine (C4.out _ HB1.out).mono ?_
    rintro e w17 ⟨rfl, hb3⟩
    have HB3 := hidk (HB1.out.trans (hb3.mono HB1.out.size))
    go_wp2_with fail
    refine hK.out _ _ ⟨(hb3.block _ (heap_lt hHeld.1)).trans hHeld.1, (hb3.block _ (heap_lt hHeld.2.1)).trans hHeld.2.1, (hb3.block _ (heap_lt hHeld.2.2.1)).trans hHeld.2.2.1, (hb3.block _ (heap_lt hHeld.2.2.2)).trans hHeld.2.2.2⟩ (fun hHeld => ?_)
    clear hK K
    try simp only [Act.put, List.setIfInBounds_toArray, List.set_cons_zero, List.set_cons_succ]
    refine wpAnyH_ready (rs := [23]) (by kernel_rfl) (by simp) ?_
    refine (AllReadyH.cons (o := { dst := some 56, op := Op.call { callee := Callee.value (Operand.func 16), args := #[Operand.tmp 51, Operand.tmp 52, Operand.tmp 53, Operand.tmp 54, Operand.tmp 55], argTypes := #[23, 3, 3, 9, 24] }, type := 29, pos := "law.go:42", after := #[{ on := 18, ground := Ground.data }, { on := 19, ground := Ground.data }, { on := 20, ground := Ground.data }, { on := 21, ground := Ground.data }, { on := 22, ground := Ground.data }, { on := 17, ground := Ground.chain }, { on := 11, ground := Ground.guard }], guard := some (11, true) }) rfl (fun K hK => ?_) AllReadyH.nil)
    go_simp
    refine (C5.out _ HB3.out).mono ?_
    rintro e w23 ⟨rfl, hb4⟩
    have HB4 := hidk (HB3.out.trans (hb4.mono HB3.out.size))
    go_wp2_with fail
    refine hK.out _ _ ⟨(hb4.block _ (heap_lt hHeld.1)).trans hHeld.1, (hb4.block _ (heap_lt hHeld.2.1)).trans hHeld.2.1, (hb4.block _ (heap_lt hHeld.2.2.1)).trans hHeld.2.2.1, (hb4.block _ (heap_lt hHeld.2.2.2)).trans hHeld.2.2.2⟩ (fun hHeld => ?_)
    clear hK K
    try simp only [Act.put, List.setIfInBounds_toArray, List.set_cons_zero, List.set_cons_succ]
    refine wpAnyH_take (i := 24) (oi := { dst := some 57, op := Op.binOp BinOp.eql 29 (Operand.tmp 50) (Operand.tmp 56) 29, type := 4, pos := "law.go:42", after := #[{ on := 17, ground := Ground.data }, { on := 23, ground := Ground.data }, { on := 11, ground := Ground.guard }], guard := some (11, true) }) (v := .bool true) rfl (by kernel_rfl) (by kernel_rfl) (by kernel_rfl) (fun _ _ _ h => h) (Or.inl ⟨by rfl, by intro W hSw; go_simp⟩) hHeld ?_
    try simp only [Act.put, List.setIfInBounds_toArray, List.set_cons_zero, List.set_cons_succ]
    refine wpAnyH_take (i := 25) (oi := { dst := some 58, op := Op.pick (Operand.tmp 44) (Operand.tmp 57) (Operand.const (Value.bool false)), type := 4, pos := "law.go:42", after := #[{ on := 11, ground := Ground.data }, { on := 24, ground := Ground.data }], guard := none }) (v := .bool true) rfl (by kernel_rfl) (by kernel_rfl) (by kernel_rfl) (fun _ _ _ h => h) (Or.inl ⟨by rfl, by intro W hSw; go_simp⟩) hHeld ?_
    try simp only [Act.put, List.setIfInBounds_toArray, List.set_cons_zero, List.set_cons_succ]
    refine wpAnyH_take (i := 26) (oi := { dst := some 10, op := Op.assign (Operand.tmp 58), type := 4, pos := "law.go:42", after := #[{ on := 25, ground := Ground.data }, { on := 23, ground := Ground.chain }, { on := 0, ground := Ground.phase }, { on := 1, ground := Ground.phase }, { on := 2, ground := Ground.phase }, { on := 3, ground := Ground.phase }, { on := 4, ground := Ground.phase }, { on := 5, ground := Ground.phase }, { on := 6, ground := Ground.phase }, { on := 7, ground := Ground.phase }, { on := 8, ground := Ground.phase }, { on := 9, ground := Ground.phase }, { on := 10, ground := Ground.phase }, { on := 11, ground := Ground.phase }, { on := 12, ground := Ground.phase }, { on := 13, ground := Ground.phase }, { on := 14, ground := Ground.phase }, { on := 15, ground := Ground.phase }, { on := 16, ground := Ground.phase }, { on := 17, ground := Ground.phase }, { on := 18, ground := Ground.phase }, { on := 19, ground := Ground.phase }, { on := 20, ground := Ground.phase }, { on := 21, ground := Ground.phase }, { on := 22, ground := Ground.phase }, { on := 23, ground := Ground.phase }, { on := 24, ground := Ground.phase }, { on := 25, ground := Ground.phase }], guard := none }) (v := .bool true) rfl (by kernel_rfl) (by kernel_rfl) (by kernel_rfl) (fun _ _ _ h => h) (Or.inl ⟨by rfl, by intro W hSw; go_simp⟩) hHeld ?_
    try simp only [Act.put, List.setIfInBounds_toArray, List.set_cons_zero, List.set_cons_succ]
    refine wpAnyH_done (by kernel_rfl) ?_ _
    go_wp2
    go_ret
    exact ⟨rfl, HB4.out⟩
  · have hof : owner a1 a2 = false := by simpa using ho
    obtain rfl : E = 50 := by rw [HE.out]; unfold keyE; rw [if_neg ho]
    obtain rfl : Z = K := by rw [HK.out, HZ.out, keyO_out _ _ _ ho]
    rw [hof] at C2
    clear hT hC HM HU HK HE HF hlen w1 w2 w3 ho hof HZ HZK
    go_enter Tryd.func4, Tryd.ntmps4
    go_wp2_with (first
      | (show wpList _ _ _ ({ dst := some 19, op := _, type := _, pos := _, after := _, guard := _ } :: _) _ _; refine wpList_load_row rfl 23 (.tmp 5) rfl w.heap.size rfl 23 M (0, 0) _ HB.out.2.1 Tryd.underlying23 rfl HSM.out ?_; try simp only [Act.put, List.setIfInBounds_toArray, List.set_cons_zero, List.set_cons_succ])
      | fail)
    refine (C1.out _ HB.out.1).mono ?_
    rintro e w1 ⟨rfl, hb1⟩
    have HC1 := hidk (HB.out.keep hb1)
    clear hb1 HB C1
    go_wp2_with (first
      | (show wpList _ _ _ ({ dst := some 11, op := _, type := _, pos := _, after := _, guard := _ } :: _) _ _; refine wpList_new_var rfl 23 rfl Z HA.out ?_; intro g11 w2 HM11; try simp only [Act.put, List.setIfInBounds_toArray, List.set_cons_zero, List.set_cons_succ])
      | (refine wpList_set_var rfl 23 (.tmp 11) (.tmp 23) rfl g11 Z rfl rfl 23 Z HM11.out.row HSZ.out rfl H1Z.out ?_; intro w3 HW11; try simp only [Act.put, List.setIfInBounds_toArray, List.set_cons_zero, List.set_cons_succ])
      | (show wpList _ _ _ ({ dst := some 25, op := _, type := _, pos := _, after := _, guard := _ } :: _) _ _; refine wpList_build_none rfl 23 rfl Z HBY.out ?_; try simp only [Act.put, List.setIfInBounds_toArray, List.set_cons_zero, List.set_cons_succ])
      | (show wpList _ _ _ ({ dst := some 13, op := _, type := _, pos := _, after := _, guard := _ } :: _) _ _; refine wpList_new_var rfl 23 rfl Z HA.out ?_; intro g13 w4 HM13; try simp only [Act.put, List.setIfInBounds_toArray, List.set_cons_zero, List.set_cons_succ])
      | (refine wpList_set_var rfl 23 (.tmp 13) (.tmp 25) rfl g13 Z rfl rfl 23 Z HM13.out.row HSZ.out rfl H1Z.out ?_; intro w5 HW13a; try simp only [Act.put, List.setIfInBounds_toArray, List.set_cons_zero, List.set_cons_succ])
      | fail)
    have h11 : w.heap.size + 1 < g11 := by rw [HM11.out.new]; exact came2_lt HC1.out
    have h13 : g11 < g13 := by rw [HM13.out.new]; exact heap_lt HW11.out.row
    have HB3 := hidk (HW11.out.below w1.heap.size w1 HM11.out.below (Nat.le_of_eq HM11.out.new.symm))
    have HC3 := hidk (HC1.out.keep HB3.out)
    have HB5 := hidk (HW13a.out.below w3.heap.size w3 HM13.out.below (Nat.le_of_eq HM13.out.new.symm))
    have HC5 := hidk (HC3.out.keep HB5.out)
    have HR115 := hidk ((HB5.out.block _ (heap_lt HW11.out.row)).trans HW11.out.row)
    have HR135 := hidk HW13a.out.row
    clear HM11 HW11 HM13 HW13a HC1 HC3 HB3 HB5
    refine (C2.out _).mono ?_
    rintro e w8 ⟨rfl, rfl⟩
    have HC8 := HC5
    have HR11 := HR115
    have HR13 := HR135
    go_wp2
    refine wp_region_held_drew (S := (fun W => W.heap[w.heap.size]? = some (.cells M 23 (0, 0)) ∧ W.heap[w.heap.size + 1]? = some (.cells U 24 (0, 0)) ∧ W.heap[g11]? = some (.cells Z 23 (0, 0)) ∧ W.heap[g13]? = some (.cells Z 23 (0, 0)))) (by kernel_rfl) ⟨HC8.out.2.1, HC8.out.2.2, HR11.out, HR13.out⟩ (fun hHeld => ?_)
    refine wpAnyH_ready (rs := [0]) (by kernel_rfl) (by simp) ?_
    refine (AllReadyH.cons (o := { dst := some 33, op := Op.call { callee := Callee.value (Operand.func 8), args := #[], argTypes := #[] }, type := 4, pos := "law.go:42", after := #[], guard := none }) rfl (fun K hK => ?_) AllReadyH.nil)
    go_simp
    refine (C0.out _ HC8.out.1.drew).mono ?_
    rintro e w0 ⟨rfl, hb1⟩
    have HB1 := hidk (HC8.out.1.drew.trans (hb1.mono HC8.out.1.size))
    go_wp2_with fail
    refine hK.out _ _ ⟨(hb1.block _ (heap_lt hHeld.1)).trans hHeld.1, (hb1.block _ (heap_lt hHeld.2.1)).trans hHeld.2.1, (hb1.block _ (heap_lt hHeld.2.2.1)).trans hHeld.2.2.1, (hb1.block _ (heap_lt hHeld.2.2.2)).trans hHeld.2.2.2⟩ (fun hHeld => ?_)
    clear hK K
    try simp only [Act.put, List.setIfInBounds_toArray, List.set_cons_zero, List.set_cons_succ]
    refine wpAnyH_take (i := 1) (oi := { dst := some 34, op := Op.move (Operand.tmp 33), type := 4, pos := "law.go:42", after := #[{ on := 0, ground := Ground.data }, { on := 0, ground := Ground.chain }], guard := none }) (v := .bool true) rfl (by kernel_rfl) (by kernel_rfl) (by kernel_rfl) (fun _ _ _ h => h) (Or.inl ⟨by rfl, by intro W hSw; go_simp⟩) hHeld ?_
    try simp only [Act.put, List.setIfInBounds_toArray, List.set_cons_zero, List.set_cons_succ]
    refine wpAnyH_take (i := 2) (oi := { dst := some 35, op := Op.load 23 (Operand.tmp 11), type := 23, pos := "law.go:42", after := #[{ on := 1, ground := Ground.guard }], guard := some (1, true) }) (v := .agg Z) rfl (by kernel_rfl) (by kernel_rfl) (by kernel_rfl) (fun _ _ _ h => h) (yieldsIf_row (by rfl) 23 (.tmp 11) rfl g11 rfl 23 Z (0, 0) _ (fun _ h => h.2.2.1) Tryd.underlying23 rfl HSZ.out) hHeld ?_
    try simp only [Act.put, List.setIfInBounds_toArray, List.set_cons_zero, List.set_cons_succ]
    refine wpAnyH_take (i := 3) (oi := { dst := some 36, op := Op.load 23 (Operand.tmp 13), type := 23, pos := "law.go:42", after := #[{ on := 1, ground := Ground.guard }], guard := some (1, true) }) (v := .agg Z) rfl (by kernel_rfl) (by kernel_rfl) (by kernel_rfl) (fun _ _ _ h => h) (yieldsIf_row (by rfl) 23 (.tmp 13) rfl g13 rfl 23 Z (0, 0) _ (fun _ h => h.2.2.2) Tryd.underlying23 rfl HSZ.out) hHeld ?_
    try simp only [Act.put, List.setIfInBounds_toArray, List.set_cons_zero, List.set_cons_succ]
    refine wpAnyH_take (i := 4) (oi := { dst := some 37, op := Op.binOp BinOp.eql 23 (Operand.tmp 35) (Operand.tmp 36) 23, type := 4, pos := "law.go:42", after := #[{ on := 2, ground := Ground.data }, { on := 3, ground := Ground.data }, { on := 1, ground := Ground.guard }], guard := some (1, true) }) (v := .bool true) rfl (by kernel_rfl) (by kernel_rfl) (by kernel_rfl) (fun _ _ _ h => h) (Or.inl ⟨by rfl, by intro W hSw; have := q1 W; go_simp⟩) hHeld ?_
    try simp only [Act.put, List.setIfInBounds_toArray, List.set_cons_zero, List.set_cons_succ]
    refine wpAnyH_take (i := 5) (oi := { dst := some 38, op := Op.pick (Operand.tmp 34) (Operand.tmp 37) (Operand.const (Value.bool false)), type := 4, pos := "law.go:42", after := #[{ on := 1, ground := Ground.data }, { on := 4, ground := Ground.data }], guard := none }) (v := .bool true) rfl (by kernel_rfl) (by kernel_rfl) (by kernel_rfl) (fun _ _ _ h => h) (Or.inl ⟨by rfl, by intro W hSw; go_simp⟩) hHeld ?_
    try simp only [Act.put, List.setIfInBounds_toArray, List.set_cons_zero, List.set_cons_succ]
    refine wpAnyH_take (i := 6) (oi := { dst := some 39, op := Op.move (Operand.tmp 38), type := 4, pos := "law.go:42", after := #[{ on := 5, ground := Ground.data }, { on := 1, ground := Ground.chain }], guard := none }) (v := .bool true) rfl (by kernel_rfl) (by kernel_rfl) (by kernel_rfl) (fun _ _ _ h => h) (Or.inl ⟨by rfl, by intro W hSw; go_simp⟩) hHeld ?_
    try simp only [Act.put, List.setIfInBounds_toArray, List.set_cons_zero, List.set_cons_succ]
    refine wpAnyH_take (i := 7) (oi := { dst := some 40, op := Op.move (Operand.tmp 12), type := 29, pos := "law.go:42", after := #[{ on := 6, ground := Ground.guard }], guard := some (6, true) }) (v := .int .i64 50) rfl (by kernel_rfl) (by kernel_rfl) (by kernel_rfl) (fun _ _ _ h => h) (Or.inl ⟨by rfl, by intro W hSw; go_simp⟩) hHeld ?_
    try simp only [Act.put, List.setIfInBounds_toArray, List.set_cons_zero, List.set_cons_succ]
    refine wpAnyH_take (i := 8) (oi := { dst := some 41, op := Op.move (Operand.tmp 14), type := 29, pos := "law.go:42", after := #[{ on := 6, ground := Ground.guard }], guard := some (6, true) }) (v := .int .i64 50) rfl (by kernel_rfl) (by kernel_rfl) (by kernel_rfl) (fun _ _ _ h => h) (Or.inl ⟨by rfl, by intro W hSw; go_simp⟩) hHeld ?_
    try simp only [Act.put, List.setIfInBounds_toArray, List.set_cons_zero, List.set_cons_succ]
    refine wpAnyH_take (i := 9) (oi := { dst := some 42, op := Op.binOp BinOp.eql 29 (Operand.tmp 40) (Operand.tmp 41) 29, type := 4, pos := "law.go:42", after := #[{ on := 7, ground := Ground.data }, { on := 8, ground := Ground.data }, { on := 6, ground := Ground.guard }], guard := some (6, true) }) (v := .bool true) rfl (by kernel_rfl) (by kernel_rfl) (by kernel_rfl) (fun _ _ _ h => h) (Or.inl ⟨by rfl, by intro W hSw; go_simp⟩) hHeld ?_
    try simp only [Act.put, List.setIfInBounds_toArray, List.set_cons_zero, List.set_cons_succ]
    refine wpAnyH_take (i := 10) (oi := { dst := some 43, op := Op.pick (Operand.tmp 39) (Operand.tmp 42) (Operand.const (Value.bool false)), type := 4, pos := "law.go:42", after := #[{ on := 6, ground := Ground.data }, { on := 9, ground := Ground.data }], guard := none }) (v := .bool true) rfl (by kernel_rfl) (by kernel_rfl) (by kernel_rfl) (fun _ _ _ h => h) (Or.inl ⟨by rfl, by intro W hSw; go_simp⟩) hHeld ?_
    try simp only [Act.put, List.setIfInBounds_toArray, List.set_cons_zero, List.set_cons_succ]
    refine wpAnyH_take (i := 11) (oi := { dst := some 44, op := Op.move (Operand.tmp 43), type := 4, pos := "law.go:42", after := #[{ on := 10, ground := Ground.data }, { on := 6, ground := Ground.chain }], guard := none }) (v := .bool true) rfl (by kernel_rfl) (by kernel_rfl) (by kernel_rfl) (fun _ _ _ h => h) (Or.inl ⟨by rfl, by intro W hSw; go_simp⟩) hHeld ?_
    try simp only [Act.put, List.setIfInBounds_toArray, List.set_cons_zero, List.set_cons_succ]
    refine wpAnyH_take (i := 12) (oi := { dst := some 45, op := Op.load 23 (Operand.tmp 5), type := 23, pos := "law.go:42", after := #[{ on := 11, ground := Ground.guard }], guard := some (11, true) }) (v := .agg M) rfl (by kernel_rfl) (by kernel_rfl) (by kernel_rfl) (fun _ _ _ h => h) (yieldsIf_row (by rfl) 23 (.tmp 5) rfl w.heap.size rfl 23 M (0, 0) _ (fun _ h => h.1) Tryd.underlying23 rfl HSM.out) hHeld ?_
    try simp only [Act.put, List.setIfInBounds_toArray, List.set_cons_zero, List.set_cons_succ]
    refine wpAnyH_take (i := 13) (oi := { dst := some 46, op := Op.move (Operand.tmp 1), type := 3, pos := "law.go:42", after := #[{ on := 11, ground := Ground.guard }], guard := some (11, true) }) (v := .int .i64 a1) rfl (by kernel_rfl) (by kernel_rfl) (by kernel_rfl) (fun _ _ _ h => h) (Or.inl ⟨by rfl, by intro W hSw; go_simp⟩) hHeld ?_
    try simp only [Act.put, List.setIfInBounds_toArray, List.set_cons_zero, List.set_cons_succ]
    refine wpAnyH_take (i := 14) (oi := { dst := some 47, op := Op.move (Operand.tmp 2), type := 3, pos := "law.go:42", after := #[{ on := 11, ground := Ground.guard }], guard := some (11, true) }) (v := .int .i64 a2) rfl (by kernel_rfl) (by kernel_rfl) (by kernel_rfl) (fun _ _ _ h => h) (Or.inl ⟨by rfl, by intro W hSw; go_simp⟩) hHeld ?_
    try simp only [Act.put, List.setIfInBounds_toArray, List.set_cons_zero, List.set_cons_succ]
    refine wpAnyH_take (i := 15) (oi := { dst := some 48, op := Op.move (Operand.tmp 3), type := 9, pos := "law.go:42", after := #[{ on := 11, ground := Ground.guard }], guard := some (11, true) }) (v := .string a3) rfl (by kernel_rfl) (by kernel_rfl) (by kernel_rfl) (fun _ _ _ h => h) (Or.inl ⟨by rfl, by intro W hSw; go_simp⟩) hHeld ?_
    try simp only [Act.put, List.setIfInBounds_toArray, List.set_cons_zero, List.set_cons_succ]
    refine wpAnyH_take (i := 16) (oi := { dst := some 49, op := Op.load 24 (Operand.tmp 9), type := 24, pos := "law.go:42", after := #[{ on := 11, ground := Ground.guard }], guard := some (11, true) }) (v := .agg U) rfl (by kernel_rfl) (by kernel_rfl) (by kernel_rfl) (fun _ _ _ h => h) (yieldsIf_row (by rfl) 24 (.tmp 9) rfl (w.heap.size + 1) rfl 24 U (0, 0) _ (fun _ h => h.2.1) Tryd.underlying24 rfl HSU.out) hHeld ?_
    try simp only [Act.put, List.setIfInBounds_toArray, List.set_cons_zero, List.set_cons_succ]
    refine wpAnyH_take (i := 18) (oi := { dst := some 51, op := Op.load 23 (Operand.tmp 5), type := 23, pos := "law.go:42", after := #[{ on := 11, ground := Ground.guard }], guard := some (11, true) }) (v := .agg M) rfl (by kernel_rfl) (by kernel_rfl) (by kernel_rfl) (fun _ _ _ h => h) (yieldsIf_row (by rfl) 23 (.tmp 5) rfl w.heap.size rfl 23 M (0, 0) _ (fun _ h => h.1) Tryd.underlying23 rfl HSM.out) hHeld ?_
    try simp only [Act.put, List.setIfInBounds_toArray, List.set_cons_zero, List.set_cons_succ]
    refine wpAnyH_take (i := 19) (oi := { dst := some 52, op := Op.move (Operand.tmp 1), type := 3, pos := "law.go:42", after := #[{ on := 11, ground := Ground.guard }], guard := some (11, true) }) (v := .int .i64 a1) rfl (by kernel_rfl) (by kernel_rfl) (by kernel_rfl) (fun _ _ _ h => h) (Or.inl ⟨by rfl, by intro W hSw; go_simp⟩) hHeld ?_
    try simp only [Act.put, List.setIfInBounds_toArray, List.set_cons_zero, List.set_cons_succ]
    refine wpAnyH_take (i := 20) (oi := { dst := some 53, op := Op.move (Operand.tmp 2), type := 3, pos := "law.go:42", after := #[{ on := 11, ground := Ground.guard }], guard := some (11, true) }) (v := .int .i64 a2) rfl (by kernel_rfl) (by kernel_rfl) (by kernel_rfl) (fun _ _ _ h => h) (Or.inl ⟨by rfl, by intro W hSw; go_simp⟩) hHeld ?_
    try simp only [Act.put, List.setIfInBounds_toArray, List.set_cons_zero, List.set_cons_succ]
    refine wpAnyH_take (i := 21) (oi := { dst := some 54, op := Op.move (Operand.tmp 3), type := 9, pos := "law.go:42", after := #[{ on := 11, ground := Ground.guard }], guard := some (11, true) }) (v := .string a3) rfl (by kernel_rfl) (by kernel_rfl) (by kernel_rfl) (fun _ _ _ h => h) (Or.inl ⟨by rfl, by intro W hSw; go_simp⟩) hHeld ?_
    try simp only [Act.put, List.setIfInBounds_toArray, List.set_cons_zero, List.set_cons_succ]
    refine wpAnyH_take (i := 22) (oi := { dst := some 55, op := Op.load 24 (Operand.tmp 9), type := 24, pos := "law.go:42", after := #[{ on := 11, ground := Ground.guard }], guard := some (11, true) }) (v := .agg U) rfl (by kernel_rfl) (by kernel_rfl) (by kernel_rfl) (fun _ _ _ h => h) (yieldsIf_row (by rfl) 24 (.tmp 9) rfl (w.heap.size + 1) rfl 24 U (0, 0) _ (fun _ h => h.2.1) Tryd.underlying24 rfl HSU.out) hHeld ?_
    try simp only [Act.put, List.setIfInBounds_toArray, List.set_cons_zero, List.set_cons_succ]
    refine wpAnyH_ready (rs := [17]) (by kernel_rfl) (by simp) ?_
    refine (AllReadyH.cons (o := { dst := some 50, op := Op.call { callee := Callee.value (Operand.func 15), args := #[Operand.tmp 45, Operand.tmp 46, Operand.tmp 47, Operand.tmp 48, Operand.tmp 49], argTypes := #[23, 3, 3, 9, 24] }, type := 29, pos := "law.go:42", after := #[{ on := 12, ground := Ground.data }, { on := 13, ground := Ground.data }, { on := 14, ground := Ground.data }, { on := 15, ground := Ground.data }, { on := 16, ground := Ground.data }, { on := 11, ground := Ground.chain }, { on := 11, ground := Ground.guard }], guard := some (11, true) }) rfl (fun K hK => ?_) AllReadyH.nil)
    go_simp
    refine (C4.out _ HB1.out).mono ?_
    rintro e w17 ⟨rfl, hb3⟩
    have HB3 := hidk (HB1.out.trans (hb3.mono HB1.out.size))
    go_wp2_with fail
    refine hK.out _ _ ⟨(hb3.block _ (heap_lt hHeld.1)).trans hHeld.1, (hb3.block _ (heap_lt hHeld.2.1)).trans hHeld.2.1, (hb3.block _ (heap_lt hHeld.2.2.1)).trans hHeld.2.2.1, (hb3.block _ (heap_lt hHeld.2.2.2)).trans hHeld.2.2.2⟩ (fun hHeld => ?_)
    clear hK K
    try simp only [Act.put, List.setIfInBounds_toArray, List.set_cons_zero, List.set_cons_succ]
    refine wpAnyH_ready (rs := [23]) (by kernel_rfl) (by simp) ?_
    refine (AllReadyH.cons (o := { dst := some 56, op := Op.call { callee := Callee.value (Operand.func 16), args := #[Operand.tmp 51, Operand.tmp 52, Operand.tmp 53, Operand.tmp 54, Operand.tmp 55], argTypes := #[23, 3, 3, 9, 24] }, type := 29, pos := "law.go:42", after := #[{ on := 18, ground := Ground.data }, { on := 19, ground := Ground.data }, { on := 20, ground := Ground.data }, { on := 21, ground := Ground.data }, { on := 22, ground := Ground.data }, { on := 17, ground := Ground.chain }, { on := 11, ground := Ground.guard }], guard := some (11, true) }) rfl (fun K hK => ?_) AllReadyH.nil)
    go_simp
    refine (C5.out _ HB3.out).mono ?_
    rintro e w23 ⟨rfl, hb4⟩
    have HB4 := hidk (HB3.out.trans (hb4.mono HB3.out.size))
    go_wp2_with fail
    refine hK.out _ _ ⟨(hb4.block _ (heap_lt hHeld.1)).trans hHeld.1, (hb4.block _ (heap_lt hHeld.2.1)).trans hHeld.2.1, (hb4.block _ (heap_lt hHeld.2.2.1)).trans hHeld.2.2.1, (hb4.block _ (heap_lt hHeld.2.2.2)).trans hHeld.2.2.2⟩ (fun hHeld => ?_)
    clear hK K
    try simp only [Act.put, List.setIfInBounds_toArray, List.set_cons_zero, List.set_cons_succ]
    refine wpAnyH_take (i := 24) (oi := { dst := some 57, op := Op.binOp BinOp.eql 29 (Operand.tmp 50) (Operand.tmp 56) 29, type := 4, pos := "law.go:42", after := #[{ on := 17, ground := Ground.data }, { on := 23, ground := Ground.data }, { on := 11, ground := Ground.guard }], guard := some (11, true) }) (v := .bool true) rfl (by kernel_rfl) (by kernel_rfl) (by kernel_rfl) (fun _ _ _ h => h) (Or.inl ⟨by rfl, by intro W hSw; go_simp⟩) hHeld ?_
    try simp only [Act.put, List.setIfInBounds_toArray, List.set_cons_zero, List.set_cons_succ]
    refine wpAnyH_take (i := 25) (oi := { dst := some 58, op := Op.pick (Operand.tmp 44) (Operand.tmp 57) (Operand.const (Value.bool false)), type := 4, pos := "law.go:42", after := #[{ on := 11, ground := Ground.data }, { on := 24, ground := Ground.data }], guard := none }) (v := .bool true) rfl (by kernel_rfl) (by kernel_rfl) (by kernel_rfl) (fun _ _ _ h => h) (Or.inl ⟨by rfl, by intro W hSw; go_simp⟩) hHeld ?_
    try simp only [Act.put, List.setIfInBounds_toArray, List.set_cons_zero, List.set_cons_succ]
    refine wpAnyH_take (i := 26) (oi := { dst := some 10, op := Op.assign (Operand.tmp 58), type := 4, pos := "law.go:42", after := #[{ on := 25, ground := Ground.data }, { on := 23, ground := Ground.chain }, { on := 0, ground := Ground.phase }, { on := 1, ground := Ground.phase }, { on := 2, ground := Ground.phase }, { on := 3, ground := Ground.phase }, { on := 4, ground := Ground.phase }, { on := 5, ground := Ground.phase }, { on := 6, ground := Ground.phase }, { on := 7, ground := Ground.phase }, { on := 8, ground := Ground.phase }, { on := 9, ground := Ground.phase }, { on := 10, ground := Ground.phase }, { on := 11, ground := Ground.phase }, { on := 12, ground := Ground.phase }, { on := 13, ground := Ground.phase }, { on := 14, ground := Ground.phase }, { on := 15, ground := Ground.phase }, { on := 16, ground := Ground.phase }, { on := 17, ground := Ground.phase }, { on := 18, ground := Ground.phase }, { on := 19, ground := Ground.phase }, { on := 20, ground := Ground.phase }, { on := 21, ground := Ground.phase }, { on := 22, ground := Ground.phase }, { on := 23, ground := Ground.phase }, { on := 24, ground := Ground.phase }, { on := 25, ground := Ground.phase }], guard := none }) (v := .bool true) rfl (by kernel_rfl) (by kernel_rfl) (by kernel_rfl) (fun _ _ _ h => h) (Or.inl ⟨by rfl, by intro W hSw; go_simp⟩) hHeld ?_
    try simp only [Act.put, List.setIfInBounds_toArray, List.set_cons_zero, List.set_cons_succ]
    refine wpAnyH_done (by kernel_rfl) ?_ _
    go_wp2
    go_ret
    exact ⟨rfl, HB4.out⟩
end Go.Proofs.YtkmndchbmbhlhaaDoor
