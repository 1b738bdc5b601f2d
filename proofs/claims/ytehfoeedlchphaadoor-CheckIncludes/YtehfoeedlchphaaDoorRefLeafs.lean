/- What the document's Text, Leaf and Knot answer. -/
import Derived.Test.YtehfoeedlchphaaDoorLeafs
import Derived.Test.YtehfoeedlchphaaDoorRefSum
namespace Go.Proofs.YtehfoeedlchphaaDoor
open Go.RowKit Sums
set_option linter.unusedVariables false
set_option linter.unusedSimpArgs false

set_option maxHeartbeats 1000000 in
theorem refText_any (l : List UInt8) (hl : l.length = 32) (w : World) (x : ByteArray) (HX : Hid (x = ⟨l.toArray⟩)) (A : List Value) (HAL : Hid (A = cellsOf l)) :
    Calls Tryd.prog 52 #[.agg A.toArray] w fun e w' => e = .returned (.string x) ∧ Below w.heap.size w w' := by
  have c0 : ∀ W, W.rangeAt w.heap.size 0 A → Sem.run Tryd.prog (convert 68 9 (.slice (some ⟨w.heap.size, 0, none⟩) 32 32)) W = .ok (.string x) W := fun W h => by
    rw [HX.out]; exact conv_dig W _ l hl (by rw [← HAL.out]; exact h)
  have s0 := fun W => slice_all W w.heap.size
  have c1 := c0 (w.alloc (.cells A.toArray 23)) (range_row (heap_alloc_new w _))
  clear c0
  go_enter Tryd.func52, Tryd.ntmps52
  go_wp2
  go_ret
  exact ⟨rfl, (Below.refl _ _).alloc (Nat.le_refl _) _⟩

set_option maxHeartbeats 1000000 in
theorem refKnot_any (l r : List UInt8) (hl : l.length = 32) (hr : r.length = 32) (w : World) (hK : Table 1 w) (D : Array Value) (HD : Hid (D = (cellsOf (sumD (1 :: (l ++ r)))).toArray)) :
    Calls Tryd.prog 48 #[.agg (cellsOf l).toArray, .agg (cellsOf r).toArray] w fun e w' => e = .returned (.agg D) ∧ Below w.heap.size w w' := by
  obtain ⟨Z, HZ, HA, HS, H1, H32⟩ := noughts27
  have HSD : Hid ((Tryd.prog.info? 23).map (·.size) = some D.size) := by show _ = _; rw [size23, HD.out]; simp [cellsOf_length, sumD_length]
  have H1D : Hid (D.all (·.oneCell') = true) := by show _ = _; rw [HD.out]; exact cellsOf_all _
  have HZD : Hid (Z.size = D.size) := by show _ = _; rw [H32.out, HD.out]; simp [cellsOf_length, sumD_length]
  obtain ⟨x, HX⟩ : ∃ x : ByteArray, Hid (x = ⟨l.toArray⟩) := ⟨_, (rfl : (⟨l.toArray⟩ : ByteArray) = _)⟩
  obtain ⟨y, HY⟩ : ∃ y : ByteArray, Hid (y = ⟨r.toArray⟩) := ⟨_, (rfl : (⟨r.toArray⟩ : ByteArray) = _)⟩
  obtain ⟨u, HU⟩ : ∃ u : ByteArray, Hid (u = ⟨#[1]⟩ ++ x) := ⟨_, (rfl : (⟨#[1]⟩ : ByteArray) ++ x = _)⟩
  obtain ⟨v, HV⟩ : ∃ v : ByteArray, Hid (v = u ++ y) := ⟨_, (rfl : u ++ y = _)⟩
  have hxs : x.size = 32 := by rw [HX.out]; show l.toArray.size = 32; simp [hl]
  have hys : y.size = 32 := by rw [HY.out]; show r.toArray.size = 32; simp [hr]
  have hus : u.size = 33 := by rw [HU.out, ByteArray.size_append, hxs]; rfl
  have hvs : v.size = 65 := by rw [HV.out, ByteArray.size_append, hus, hys]
  have tv : v.data.toList = 1 :: (l ++ r) := by rw [HV.out, HU.out, HX.out, HY.out]; simp
  obtain ⟨A, HAL⟩ : ∃ A, Hid (A = cellsOf l) := ⟨_, (rfl : cellsOf l = _)⟩
  obtain ⟨B, HBR⟩ : ∃ B, Hid (B = cellsOf r) := ⟨_, (rfl : cellsOf r = _)⟩
  have T1 : Hid (∀ W, Calls Tryd.prog 52 #[.agg A.toArray] W fun e w' => e = .returned (.string x) ∧ Below W.heap.size W w') := fun W => refText_any l hl W x HX A HAL
  have T2 : Hid (∀ W, Calls Tryd.prog 52 #[.agg B.toArray] W fun e w' => e = .returned (.string y) ∧ Below W.heap.size W w') := fun W => refText_any r hr W y HY B HBR
  have KO : Hid (∀ w1, Below w.heap.size w w1 → Calls Tryd.prog 31 #[.string v] w1 fun e w' => e = .returned (.agg D) ∧ Below w1.heap.size w1 w') := fun w1 hb =>
    refSum_any v w1 (by omega) (hK.keep hb) D (by show _ = _; rw [HD.out, tv])
  have z0 : (Tryd.prog.info? 23).map (·.size) = some A.length := by rw [size23, HAL.out, cellsOf_length, hl]
  have z1 : (Tryd.prog.info? 23).map (·.size) = some B.length := by rw [size23, HBR.out, cellsOf_length, hr]
  rw [← HAL.out, ← HBR.out]
  clear hK
  go_enter Tryd.func48, Tryd.ntmps48
  go_wp2_with (first
    | (refine wpList_alloc_row rfl 23 rfl Z HA.out ?_)
    | fail)
  obtain ⟨w0, hw0⟩ : ∃ w0, w0 = ((w.alloc (.cells A.toArray 23)).alloc (.cells B.toArray 23)).alloc (.cells Z 23) := ⟨_, rfl⟩
  have hS : w0.rangeAt w.heap.size 0 A ∧ w0.rangeAt (w.heap.size + 1) 0 B ∧ Below w.heap.size w w0 := by
    rw [hw0]
    exact ⟨range_row (heap_keep (heap_alloc2_old w _ _)), range_row (heap_keep (heap_alloc2_new w _ _)), (((Below.refl _ _).alloc (Nat.le_refl _) _).alloc (by simp) _).alloc (by simp; omega) _⟩
  have HG0 : Hid (w0.heap[w.heap.size + 2]? = some (.cells Z 23 (0, 0))) := by
    show _ = _
    rw [hw0]
    have := heap_alloc_new ((w.alloc (.cells A.toArray 23)).alloc (.cells B.toArray 23)) (.cells Z 23)
    simpa using this
  rw [← hw0]
  clear hw0
  refine wp_region_held_drew (S := (fun W => W.rangeAt w.heap.size 0 A ∧ W.rangeAt (w.heap.size + 1) 0 B ∧ Below w.heap.size w W)) (by kernel_rfl) (keep2 (Below.refl _ _).drew hS) (fun hHeld => ?_)
  refine wpAnyH_take (i := 0) (oi := { dst := some 5, op := Op.load 23 (Operand.tmp 2), type := 23, pos := "ref.go:88", after := #[], guard := none }) (v := .agg A.toArray) rfl (by kernel_rfl) (by kernel_rfl) (by kernel_rfl) (fun _ _ _ h => h) (yieldsIf_load_mid (by rfl) 23 (.tmp 2) rfl _ 0 rfl A _ (fun _ h => h.1) Tryd.underlying23 rfl z0) hHeld ?_
  try simp only [Act.put, List.setIfInBounds_toArray, List.set_cons_zero, List.set_cons_succ]
  refine wpAnyH_take (i := 3) (oi := { dst := some 8, op := Op.load 23 (Operand.tmp 3), type := 23, pos := "ref.go:88", after := #[], guard := none }) (v := .agg B.toArray) rfl (by kernel_rfl) (by kernel_rfl) (by kernel_rfl) (fun _ _ _ h => h) (yieldsIf_load_mid (by rfl) 23 (.tmp 3) rfl _ 0 rfl B _ (fun _ h => h.2.1) Tryd.underlying23 rfl z1) hHeld ?_
  try simp only [Act.put, List.setIfInBounds_toArray, List.set_cons_zero, List.set_cons_succ]
  refine wpAnyH_ready (rs := [1]) (by kernel_rfl) (by simp) ?_
  refine AllReadyH.cons (o := { dst := some 6, op := Op.call { callee := Callee.value (Operand.func 52), args := #[Operand.tmp 5], argTypes := #[23] }, type := 9, pos := "ref.go:88", after := #[{ on := 0, ground := Ground.data }], guard := none }) rfl (fun K hK => ?_) AllReadyH.nil
  go_simp
  refine (T1.out _).mono ?_
  rintro e w1 ⟨rfl, hb1⟩
  go_wp2_with fail
  refine hK.out _ _ (keep2 hb1 hHeld) (fun hHeld => ?_)
  clear hK K
  try simp only [Act.put, List.setIfInBounds_toArray, List.set_cons_zero, List.set_cons_succ]
  refine wpAnyH_take (i := 2) (oi := { dst := some 7, op := Op.binOp BinOp.add 9 (Operand.const (Value.string { data := #[1] })) (Operand.tmp 6) 9, type := 9, pos := "ref.go:88", after := #[{ on := 1, ground := Ground.data }], guard := none }) (v := .string u) rfl (by kernel_rfl) (by kernel_rfl) (by kernel_rfl) (fun _ _ _ h => h) (Or.inl ⟨by rfl, by intro W hSw; go_simp; exact HU.out.symm⟩) hHeld ?_
  try simp only [Act.put, List.setIfInBounds_toArray, List.set_cons_zero, List.set_cons_succ]
  refine wpAnyH_ready (rs := [4]) (by kernel_rfl) (by simp) ?_
  refine AllReadyH.cons (o := { dst := some 9, op := Op.call { callee := Callee.value (Operand.func 52), args := #[Operand.tmp 8], argTypes := #[23] }, type := 9, pos := "ref.go:88", after := #[{ on := 3, ground := Ground.data }, { on := 1, ground := Ground.chain }], guard := none }) rfl (fun K hK => ?_) AllReadyH.nil
  go_simp
  refine (T2.out _).mono ?_
  rintro e w4 ⟨rfl, hb4⟩
  go_wp2_with fail
  refine hK.out _ _ (keep2 hb4 hHeld) (fun hHeld => ?_)
  clear hK K
  try simp only [Act.put, List.setIfInBounds_toArray, List.set_cons_zero, List.set_cons_succ]
  refine wpAnyH_take (i := 5) (oi := { dst := some 10, op := Op.binOp BinOp.add 9 (Operand.tmp 7) (Operand.tmp 9) 9, type := 9, pos := "ref.go:88", after := #[{ on := 2, ground := Ground.data }, { on := 4, ground := Ground.data }], guard := none }) (v := .string v) rfl (by kernel_rfl) (by kernel_rfl) (by kernel_rfl) (fun _ _ _ h => h) (Or.inl ⟨by rfl, by intro W hSw; go_simp; exact HV.out.symm⟩) hHeld ?_
  try simp only [Act.put, List.setIfInBounds_toArray, List.set_cons_zero, List.set_cons_succ]
  refine wpAnyH_ready (rs := [6]) (by kernel_rfl) (by simp) ?_
  refine AllReadyH.cons (o := { dst := some 11, op := Op.call { callee := Callee.value (Operand.func 31), args := #[Operand.tmp 10], argTypes := #[9] }, type := 23, pos := "ref.go:88", after := #[{ on := 5, ground := Ground.data }, { on := 4, ground := Ground.chain }], guard := none }) rfl (fun K hK => ?_) AllReadyH.nil
  go_simp
  refine (KO.out _ hHeld.2.2).mono ?_
  rintro e w6 ⟨rfl, hb6⟩
  go_wp2_with fail
  refine hK.out _ _ (keep2 hb6 hHeld) (fun hHeld => ?_)
  clear hK K
  try simp only [Act.put, List.setIfInBounds_toArray, List.set_cons_zero, List.set_cons_succ]
  have HG1 : Hid (w6.heap[w.heap.size + 2]? = some (.cells Z 23 (0, 0))) := by
    have h1 : w1.heap[w.heap.size + 2]? = _ := (hb1.block _ (heap_lt HG0.out)).trans HG0.out
    have h4 : w4.heap[w.heap.size + 2]? = _ := (hb4.block _ (heap_lt h1)).trans h1
    exact (hb6.block _ (heap_lt h4)).trans h4
  refine wpAnyH_ready (rs := [7]) (by kernel_rfl) (by simp) ?_
  refine AllReadyH.cons (o := { dst := none, op := Op.store 23 (Operand.tmp 4) (Operand.tmp 11), type := 0, pos := "ref.go:88", after := #[{ on := 6, ground := Ground.data }, { on := 6, ground := Ground.chain }, { on := 0, ground := Ground.phase }, { on := 1, ground := Ground.phase }, { on := 2, ground := Ground.phase }, { on := 3, ground := Ground.phase }, { on := 4, ground := Ground.phase }, { on := 5, ground := Ground.phase }, { on := 6, ground := Ground.phase }], guard := none }) rfl (fun K hK => ?_) AllReadyH.nil
  refine step_store_row (by rfl) 23 (.tmp 4) (.tmp 11) rfl (w.heap.size + 2) D rfl rfl 23 Z HG1.out HSD.out HZD.out H1D.out ?_
  refine hK.out _ _ ⟨range_other hHeld.1 (by omega), range_other hHeld.2.1 (by omega), below_setRow hHeld.2.2 (by omega) _⟩ (fun hHeld => ?_)
  clear hK K
  try simp only [Act.put, List.setIfInBounds_toArray, List.set_cons_zero, List.set_cons_succ]
  refine wpAnyH_done (by kernel_rfl) ?_ _
  go_wp2
  refine bodyPost_ret (v := .agg D) ?_ rfl ⟨rfl, hHeld.2.2⟩
  exact results_cell_row (p := 4) (ty := 23) rfl _ _ (w.heap.size + 2) 23 D (0, 0) _ rfl (setRow_heap _ _ _ _ 23 _ HG1.out) Tryd.underlying23 rfl HSD.out
end Go.Proofs.YtehfoeedlchphaaDoor
