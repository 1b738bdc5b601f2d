/- What sha.Empty, sha.Leaf and sha.Knot answer. -/
import Derived.Test.YtehfoeedlchphaaDoorOf
import Derived.BigQuiet
namespace Go.Proofs.YtehfoeedlchphaaDoor
open Go.RowKit Sums
set_option linter.unusedVariables false
set_option linter.unusedSimpArgs false

/-- Texts in a new block. -/
theorem texts_new (w : World) (ss : List ByteArray) (t : TypeId) : Texts (w.alloc (.cells (ss.map Value.string).toArray t)) (some ⟨w.heap.size, 0, none⟩) ss.length ss := by
  refine ⟨rfl, .inr ⟨w.heap.size, 0, rfl, by simp, fun i hi => ?_⟩⟩
  rw [Nat.zero_add, cell_of_row _ _ i _ t (0, 0) (heap_alloc_new w _)]
  simp [List.getElem?_eq_getElem hi]

/-- Of, where a block of texts was just made. -/
theorem of_new (ss : List ByteArray) (t : TypeId) (w : World) (ht : total ss ≤ 1000000) (hlen : ss.length ≤ 9223372036854775807) (hK : Table 0 w) (D : Array Value) (HD : Hid (D = (cellsOf (sumD (joinL ss))).toArray)) (n cap g : Nat) (hn : n = ss.length) (hg : g = w.heap.size)
    (cs : Array Value) (hcs : cs = (ss.map Value.string).toArray) :
    Calls Tryd.prog 21 #[.slice (some ⟨g, 0, none⟩) n cap] (w.alloc (.cells cs t)) fun e w' => e = .returned (.agg D) ∧ Below w.heap.size w w' := by
  subst hcs hn hg
  have h := of_any _ ss.length cap ss _ (texts_new w ss t) ht hlen (hK.keep ((Below.refl _ _).alloc (Nat.le_refl _) _))
  refine h.mono ?_
  rintro e w' ⟨he, hb⟩
  refine ⟨?_, ((Below.refl _ _).alloc (Nat.le_refl _) _).trans (hb.mono (by simp))⟩
  rw [he, HD.out]
  rfl

theorem of_none (w : World) (hK : Table 0 w) (D : Array Value) (HD : Hid (D = (cellsOf (sumD [])).toArray)) :
    Calls Tryd.prog 21 #[.slice none 0 0] w fun e w' => e = .returned (.agg D) ∧ Below w.heap.size w w' := by
  have h := of_any none 0 0 [] w ⟨rfl, .inl rfl⟩ (by decide) (by decide) hK
  rw [HD.out]
  exact h

set_option maxHeartbeats 1000000 in
theorem empty_any (w : World) (hK : Table 0 w) (D : Array Value) (HD : Hid (D = (cellsOf (sumD [])).toArray)) :
    Calls Tryd.prog 26 #[] w fun e w' => e = .returned (.agg D) ∧ Below w.heap.size w w' := by
  obtain ⟨Z, HZ, HA, HS, H1, H32⟩ := noughts27
  have HSD : Hid ((Tryd.prog.info? 23).map (·.size) = some D.size) := by show _ = _; rw [size23, HD.out]; simp [cellsOf_length, sumD_length]
  have H1D : Hid (D.all (·.oneCell') = true) := by show _ = _; rw [HD.out]; exact cellsOf_all _
  have HZD : Hid (Z.size = D.size) := by show _ = _; rw [H32.out, HD.out]; simp [cellsOf_length, sumD_length]
  have KO : Hid (∀ w1, Below w.heap.size w w1 → Calls Tryd.prog 21 #[.slice none 0 0] w1 fun e w' => e = .returned (.agg D) ∧ Below w1.heap.size w1 w') := fun w1 hb => of_none w1 (hK.keep hb) D HD
  clear hK
  go_enter Tryd.func26, Tryd.ntmps26
  go_wp2_with (first
    | (refine wpList_alloc_row rfl 23 rfl Z HA.out ?_)
    | fail)
  refine (KO.out _ ((Below.refl _ _).alloc (Nat.le_refl _) _)).mono ?_
  rintro e w1 ⟨rfl, hb1⟩
  have HG : Hid (w1.heap[w.heap.size]? = some (.cells Z 23 (0, 0))) := (hb1.block _ (by simp)).trans (heap_alloc_new w _)
  have hB : Below w.heap.size w w1 := ((Below.refl _ _).alloc (Nat.le_refl _) _).trans (hb1.mono (by simp))
  clear hb1
  go_wp2_with (first
    | (refine wpList_store_row rfl 23 (.tmp 0) (.tmp 1) rfl w.heap.size D rfl rfl 23 Z HG.out HSD.out HZD.out H1D.out ?_)
    | fail)
  refine bodyPost_ret (v := .agg D) ?_ rfl ⟨rfl, below_setRow hB (Nat.le_refl _) _⟩
  exact results_cell_row (p := 0) (ty := 23) rfl _ _ w.heap.size 23 D (0, 0) _ rfl (setRow_heap _ _ _ _ 23 _ HG.out) Tryd.underlying23 rfl HSD.out

theorem range_keep {W W' : World} {g o : Nat} {l : List Value} (hb : Below W.heap.size W W') (h : W.rangeAt g o l) : W'.rangeAt g o l := fun j v hj => by
  have hc := h j v hj
  rw [hb.cell (World.block_lt_of_cell? _ _ hc)]
  exact hc
theorem range_row {W : World} {g : Nat} {l : List Value} {t : TypeId} {fr : Nat × Nat} (h : W.heap[g]? = some (.cells l.toArray t fr)) : W.rangeAt g 0 l := fun j v hj => by
  rw [Nat.zero_add, cell_of_row W g j _ t fr h]
  simpa using hj
theorem range_other {W : World} {g g' o : Nat} {l : List Value} {cs : Array Value} (h : W.rangeAt g o l) (hne : g ≠ g') : (W.setRow g' cs).rangeAt g o l := fun j v hj => by
  rw [cell_setRow_other W g' cs _ hne]
  exact h j v hj
theorem conv_dig (W : World) (g : Nat) (l : List UInt8) (hl : l.length = 32) (h : W.rangeAt g 0 (cellsOf l)) : Sem.run Tryd.prog (convert 68 9 (.slice (some ⟨g, 0, none⟩) 32 32)) W = .ok (.string ⟨l.toArray⟩) W := by
  have := run_convert_bytes_back (P := Tryd.prog) W 68 9 5 ⟨g, 0, none⟩ 32 l Tryd.underlying68 Tryd.underlying5 Tryd.underlying9 (fun j hj => by
    rw [add_plain]
    exact h j _ (cellsOf_at l j hj))
  rw [hl] at this
  exact this

theorem keep2 {w W W' : World} {g0 g1 : Nat} {A B : List Value} (hb : Below W.heap.size W W') (h : W.rangeAt g0 0 A ∧ W.rangeAt g1 0 B ∧ Below w.heap.size w W) :
    W'.rangeAt g0 0 A ∧ W'.rangeAt g1 0 B ∧ Below w.heap.size w W' :=
  ⟨range_keep hb h.1, range_keep hb h.2.1, h.2.2.trans (hb.mono h.2.2.size)⟩

set_option maxHeartbeats 1000000 in
theorem knot_any (l r : List UInt8) (hl : l.length = 32) (hr : r.length = 32) (w : World) (hK : Table 0 w) (D : Array Value) (HD : Hid (D = (cellsOf (sumD (1 :: (l ++ r)))).toArray)) :
    Calls Tryd.prog 25 #[.agg (cellsOf l).toArray, .agg (cellsOf r).toArray] w fun e w' => e = .returned (.agg D) ∧ Below w.heap.size w w' := by
  obtain ⟨Z, HZ, HA, HS, H1, H32⟩ := noughts27
  have HSD : Hid ((Tryd.prog.info? 23).map (·.size) = some D.size) := by show _ = _; rw [size23, HD.out]; simp [cellsOf_length, sumD_length]
  have H1D : Hid (D.all (·.oneCell') = true) := by show _ = _; rw [HD.out]; exact cellsOf_all _
  have HZD : Hid (Z.size = D.size) := by show _ = _; rw [H32.out, HD.out]; simp [cellsOf_length, sumD_length]
  obtain ⟨x, HX⟩ : ∃ x : ByteArray, Hid (x = ⟨l.toArray⟩) := ⟨_, (rfl : (⟨l.toArray⟩ : ByteArray) = _)⟩
  obtain ⟨y, HY⟩ : ∃ y : ByteArray, Hid (y = ⟨r.toArray⟩) := ⟨_, (rfl : (⟨r.toArray⟩ : ByteArray) = _)⟩
  obtain ⟨A, HAL⟩ : ∃ A, Hid (A = cellsOf l) := ⟨_, (rfl : cellsOf l = _)⟩
  obtain ⟨B, HBR⟩ : ∃ B, Hid (B = cellsOf r) := ⟨_, (rfl : cellsOf r = _)⟩
  have KO : Hid (∀ w1 g, g = w1.heap.size → Below w.heap.size w w1 → Calls Tryd.prog 21 #[.slice (some ⟨g, 0, none⟩) 3 3] (w1.alloc (.cells #[.string ⟨#[1]⟩, .string x, .string y] 9)) fun e w' => e = .returned (.agg D) ∧ Below w1.heap.size w1 w') := fun w1 g hg hb =>
    of_new [⟨#[1]⟩, x, y] 9 w1 (by rw [HX.out, HY.out]; show 1 + (l.toArray.size + (r.toArray.size + 0)) ≤ 1000000; simp [hl, hr]) (by show 3 ≤ _; decide) (hK.keep hb) D (by show _ = _; rw [HD.out, HX.out, HY.out]; simp [joinL]) 3 3 g rfl hg _ rfl
  have c0 : ∀ W, W.rangeAt w.heap.size 0 A → Sem.run Tryd.prog (convert 68 9 (.slice (some ⟨w.heap.size, 0, none⟩) 32 32)) W = .ok (.string x) W := fun W h => by
    rw [HX.out]; exact conv_dig W _ l hl (by rw [← HAL.out]; exact h)
  have c1 : ∀ W, W.rangeAt (w.heap.size + 1) 0 B → Sem.run Tryd.prog (convert 68 9 (.slice (some ⟨w.heap.size + 1, 0, none⟩) 32 32)) W = .ok (.string y) W := fun W h => by
    rw [HY.out]; exact conv_dig W _ r hr (by rw [← HBR.out]; exact h)
  have s0 := fun W => slice_all W w.heap.size
  have s1 := fun W => slice_all W (w.heap.size + 1)
  rw [← HAL.out, ← HBR.out]
  clear hK
  go_enter Tryd.func25, Tryd.ntmps25
  go_wp2_with (first
    | (refine wpList_alloc_row rfl 23 rfl Z HA.out ?_)
    | fail)
  obtain ⟨w0, hw0⟩ : ∃ w0, w0 = ((w.alloc (.cells A.toArray 23)).alloc (.cells B.toArray 23)).alloc (.cells Z 23) := ⟨_, rfl⟩
  have hS : w0.rangeAt w.heap.size 0 A ∧ w0.rangeAt (w.heap.size + 1) 0 B ∧ Below w.heap.size w w0 := by
    rw [hw0]
    exact ⟨range_row (heap_keep (heap_alloc2_old w _ _)), range_row (heap_keep (heap_alloc2_new w _ _)), (((Below.refl _ _).alloc (Nat.le_refl _) _).alloc (by simp) _).alloc (by simp; omega) _⟩
  have HG0 : Hid (w0.heap[w.heap.size + 2]? = some (.cells Z 23 (0, 0))) := by
    show _ = _
    rw [hw0]
    have := heap_alloc_new ((w.alloc (.cells A.toArray 23)).alloc (.cells B.toArray 23)) (.cells Z 23)
    simpa using this
  rw [← hw0]
  clear hw0
  refine wp_region_held_drew (S := (fun W => W.rangeAt w.heap.size 0 A ∧ W.rangeAt (w.heap.size + 1) 0 B ∧ Below w.heap.size w W)) (by kernel_rfl) (keep2 (Below.refl _ _).drew hS) (fun hHeld => ?_)
  refine wpAnyH_take (i := 0) (oi := { dst := some 5, op := Op.slice 23 (Operand.tmp 2) none none none, type := 68, pos := "sha.go:50", after := #[], guard := none }) (v := .slice (some ⟨w.heap.size, 0, none⟩) 32 32) rfl (by kernel_rfl) (by kernel_rfl) (by kernel_rfl) (fun _ _ _ h => h) (Or.inl ⟨by rfl, by intro w hSw; go_simp⟩) hHeld ?_
  try simp only [Act.put, List.setIfInBounds_toArray, List.set_cons_zero, List.set_cons_succ]
  refine wpAnyH_take (i := 1) (oi := { dst := some 6, op := Op.convert 68 9 (Operand.tmp 5), type := 9, pos := "sha.go:50", after := #[{ on := 0, ground := Ground.data }], guard := none }) (v := .string x) rfl (by kernel_rfl) (by kernel_rfl) (by kernel_rfl) (fun _ _ _ h => h) (Or.inl ⟨by rfl, by intro W hSw; have := c0 W hSw.1; go_simp⟩) hHeld ?_
  try simp only [Act.put, List.setIfInBounds_toArray, List.set_cons_zero, List.set_cons_succ]
  refine wpAnyH_take (i := 2) (oi := { dst := some 7, op := Op.slice 23 (Operand.tmp 3) none none none, type := 68, pos := "sha.go:50", after := #[], guard := none }) (v := .slice (some ⟨w.heap.size + 1, 0, none⟩) 32 32) rfl (by kernel_rfl) (by kernel_rfl) (by kernel_rfl) (fun _ _ _ h => h) (Or.inl ⟨by rfl, by intro w hSw; go_simp⟩) hHeld ?_
  try simp only [Act.put, List.setIfInBounds_toArray, List.set_cons_zero, List.set_cons_succ]
  refine wpAnyH_take (i := 3) (oi := { dst := some 8, op := Op.convert 68 9 (Operand.tmp 7), type := 9, pos := "sha.go:50", after := #[{ on := 2, ground := Ground.data }], guard := none }) (v := .string y) rfl (by kernel_rfl) (by kernel_rfl) (by kernel_rfl) (fun _ _ _ h => h) (Or.inl ⟨by rfl, by intro W hSw; have := c1 W hSw.2.1; go_simp⟩) hHeld ?_
  try simp only [Act.put, List.setIfInBounds_toArray, List.set_cons_zero, List.set_cons_succ]
  refine wpAnyH_ready (rs := [4]) (by kernel_rfl) (by simp) ?_
  refine AllReadyH.cons (o := { dst := some 9, op := Op.buildSlice 65 3 #[(0, Operand.const (Value.string { data := #[1] })), (1, Operand.tmp 6), (2, Operand.tmp 8)], type := 65, pos := "sha.go:50", after := #[{ on := 1, ground := Ground.data }, { on := 3, ground := Ground.data }], guard := none }) rfl (fun K hK => ?_) AllReadyH.nil
  go_simp
  refine hK.out _ _ (keep2 ((Below.refl _ _).alloc (Nat.le_refl _) _) hHeld) (fun hHeld => ?_)
  clear hK K
  try simp only [Act.put, List.setIfInBounds_toArray, List.set_cons_zero, List.set_cons_succ]
  refine wpAnyH_ready (rs := [5]) (by kernel_rfl) (by simp) ?_
  refine AllReadyH.cons (o := { dst := some 10, op := Op.call { callee := Callee.value (Operand.func 21), args := #[Operand.tmp 9], argTypes := #[65] }, type := 23, pos := "sha.go:50", after := #[{ on := 4, ground := Ground.data }], guard := none }) rfl (fun K hK => ?_) AllReadyH.nil
  go_simp
  refine (KO.out _ _ rfl hS.2.2.drew).mono ?_
  rintro e w1 ⟨rfl, hb1⟩
  go_wp2_with fail
  refine hK.out _ _ (keep2 (Below.trans (Below.refl _ _).drew hb1) hS) (fun hHeld => ?_)
  clear hK K
  try simp only [Act.put, List.setIfInBounds_toArray, List.set_cons_zero, List.set_cons_succ]
  have HG1 : Hid (w1.heap[w.heap.size + 2]? = some (.cells Z 23 (0, 0))) := (hb1.block _ (heap_lt HG0.out)).trans HG0.out
  refine wpAnyH_ready (rs := [6]) (by kernel_rfl) (by simp) ?_
  refine AllReadyH.cons (o := { dst := none, op := Op.store 23 (Operand.tmp 4) (Operand.tmp 10), type := 0, pos := "sha.go:50", after := #[{ on := 5, ground := Ground.data }, { on := 5, ground := Ground.chain }, { on := 0, ground := Ground.phase }, { on := 1, ground := Ground.phase }, { on := 2, ground := Ground.phase }, { on := 3, ground := Ground.phase }, { on := 4, ground := Ground.phase }, { on := 5, ground := Ground.phase }], guard := none }) rfl (fun K hK => ?_) AllReadyH.nil
  refine step_store_row (by rfl) 23 (.tmp 4) (.tmp 10) rfl (w.heap.size + 2) D rfl rfl 23 Z HG1.out HSD.out HZD.out H1D.out ?_
  refine hK.out _ _ ⟨range_other hHeld.1 (by omega), range_other hHeld.2.1 (by omega), below_setRow hHeld.2.2 (by omega) _⟩ (fun hHeld => ?_)
  clear hK K
  try simp only [Act.put, List.setIfInBounds_toArray, List.set_cons_zero, List.set_cons_succ]
  refine wpAnyH_done (by kernel_rfl) ?_ _
  go_wp2
  refine bodyPost_ret (v := .agg D) ?_ rfl ⟨rfl, hHeld.2.2⟩
  exact results_cell_row (p := 4) (ty := 23) rfl _ _ (w.heap.size + 2) 23 D (0, 0) _ rfl (setRow_heap _ _ _ _ 23 _ HG1.out) Tryd.underlying23 rfl HSD.out
end Go.Proofs.YtehfoeedlchphaaDoor
