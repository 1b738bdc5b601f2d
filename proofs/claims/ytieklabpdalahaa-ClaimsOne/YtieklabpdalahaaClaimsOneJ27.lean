/- Texts of our own that the row of ClaimsOne leans on, part 27. -/
import Derived.Test.YtieklabpdalahaaClaimsOneJ25
import Derived.Test.YtieklabpdalahaaClaimsOneJ26

/- The two orders of the program's claims. -/
namespace Go.Proofs.Ytieklabpdalahaa
open Go.RowKit Nums Sums
set_option linter.unusedVariables false
set_option linter.unusedSimpArgs false
set_option maxRecDepth 100000
theorem build_two (w : World) (a b : Int) : (Instr.buildSlice 82 2 #[(0, .int .i64 a), (1, .int .i64 b)]).run Try.prog w = .ok (.slice (some ⟨w.heap.size, 0, none⟩) 2 2) (w.alloc (.cells #[.int .i64 a, .int .i64 b] 3)) := by
  go_simp
theorem cell_first (w : World) (x y : Value) (t : TypeId) : (w.alloc (.cells #[x, y] t)).cell? ⟨w.heap.size, 0, none⟩ = some x := range_two_new w x y t 0 x rfl
theorem cell_second (w : World) (x y : Value) (t : TypeId) : (w.alloc (.cells #[x, y] t)).cell? ⟨w.heap.size, 1, none⟩ = some y := range_two_new w x y t 1 y rfl
set_option maxHeartbeats 4000000 in
theorem ordA_any (a b : AdT) (X Y : Array Value) (HX : Hid (X = (acells a).toArray)) (HY : Hid (Y = (acells b).toArray)) (w : World) :
    Calls Try.prog 54 #[.agg X, .agg Y] w fun e w' => e = .returned (.int .i64 (orI (cmpI a.r b.r) (cmpI a.n b.n))) ∧ Below w.heap.size w w' := by
  have HS : Hid (∀ W : World, Below (w.heap.size + 2) ((w.alloc (.cells X 40)).alloc (.cells Y 40)) W → W.cell? ⟨w.heap.size, 0, none⟩ = some (.int .i64 a.r) ∧ W.cell? ⟨w.heap.size, 1, none⟩ = some (.int .i64 a.n) ∧ W.cell? ⟨w.heap.size + 1, 0, none⟩ = some (.int .i64 b.r) ∧ W.cell? ⟨w.heap.size + 1, 1, none⟩ = some (.int .i64 b.n)) := fun W hW => by
    have e1 : ((w.alloc (.cells X 40)).alloc (.cells Y 40)).heap[w.heap.size]? = some (.cells X 40 (0, 0)) := by
      rw [heap_alloc_old _ _ (by simp)]; exact heap_alloc_new w _
    have e2 : ((w.alloc (.cells X 40)).alloc (.cells Y 40)).heap[w.heap.size + 1]? = some (.cells Y 40 (0, 0)) := by
      have := heap_alloc_new (w.alloc (.cells X 40)) (.cells Y 40)
      simpa using this
    refine ⟨?_, ?_, ?_, ?_⟩
    · rw [hW.cell (show w.heap.size < w.heap.size + 2 by omega), cell_of_row _ _ 0 _ _ (0, 0) e1, HX.out]; rfl
    · rw [hW.cell (show w.heap.size < w.heap.size + 2 by omega), cell_of_row _ _ 1 _ _ (0, 0) e1, HX.out]; rfl
    · rw [hW.cell (show w.heap.size + 1 < w.heap.size + 2 by omega), cell_of_row _ _ 0 _ _ (0, 0) e2, HY.out]; rfl
    · rw [hW.cell (show w.heap.size + 1 < w.heap.size + 2 by omega), cell_of_row _ _ 1 _ _ (0, 0) e2, HY.out]; rfl
  have hb0 : Below w.heap.size w ((w.alloc (.cells X 40)).alloc (.cells Y 40)) := ((Below.refl _ _).alloc (Nat.le_refl _) _).alloc (by simp) _
  have hb1 : Below (w.heap.size + 2) ((w.alloc (.cells X 40)).alloc (.cells Y 40)) ((w.alloc (.cells X 40)).alloc (.cells Y 40)) := Below.refl _ _
  have hsz : ((w.alloc (.cells X 40)).alloc (.cells Y 40)).heap.size = w.heap.size + 2 := by simp
  have HB0 := hidk hb0
  have HB1 := hidk hb1
  have HZ := hidk hsz
  clear hb0 hb1 hsz HX HY
  go_enter Try.func54, Try.ntmps54
  go_wp2_with fail
  obtain ⟨W0, hW0⟩ : ∃ W0, ((w.alloc (.cells X 40)).alloc (.cells Y 40)) = W0 := ⟨_, rfl⟩
  rw [hW0] at HS HB0 HB1 HZ ⊢
  clear hW0
  refine wp_region_held_drew (S := (fun W => W.cell? ⟨w.heap.size, 0, none⟩ = some (.int .i64 a.r) ∧ W.cell? ⟨w.heap.size, 1, none⟩ = some (.int .i64 a.n) ∧ W.cell? ⟨w.heap.size + 1, 0, none⟩ = some (.int .i64 b.r) ∧ W.cell? ⟨w.heap.size + 1, 1, none⟩ = some (.int .i64 b.n))) (by kernel_rfl) (HS.out _ HB1.out.drew) (fun hHeld => ?_)
  refine wpAnyH_take (i := 0) (oi := { dst := some 5, op := Op.fieldAddr 40 (Operand.tmp 2) 0, type := 0, pos := "claims.go:77", after := #[], guard := none }) (v := .pointer (some ⟨w.heap.size, 0, none⟩)) rfl (by kernel_rfl) (by kernel_rfl) (by kernel_rfl) (fun _ _ _ h => h) (Or.inl ⟨by rfl, by intro w hSw; go_simp⟩) hHeld ?_
  try simp only [Act.put, List.setIfInBounds_toArray, List.set_cons_zero, List.set_cons_succ]
  refine wpAnyH_take (i := 1) (oi := { dst := some 6, op := Op.load 3 (Operand.tmp 5), type := 3, pos := "claims.go:77", after := #[{ on := 0, ground := Ground.data }], guard := none }) (v := .int .i64 a.r) rfl (by kernel_rfl) (by kernel_rfl) (by kernel_rfl) (fun _ _ _ h => h) (Or.inl ⟨by rfl, by intro W hSw; obtain ⟨k1, k2, k3, k4⟩ := hSw; go_simp⟩) hHeld ?_
  try simp only [Act.put, List.setIfInBounds_toArray, List.set_cons_zero, List.set_cons_succ]
  refine wpAnyH_take (i := 2) (oi := { dst := some 7, op := Op.fieldAddr 40 (Operand.tmp 3) 0, type := 0, pos := "claims.go:77", after := #[], guard := none }) (v := .pointer (some ⟨w.heap.size + 1, 0, none⟩)) rfl (by kernel_rfl) (by kernel_rfl) (by kernel_rfl) (fun _ _ _ h => h) (Or.inl ⟨by rfl, by intro w hSw; go_simp⟩) hHeld ?_
  try simp only [Act.put, List.setIfInBounds_toArray, List.set_cons_zero, List.set_cons_succ]
  refine wpAnyH_take (i := 3) (oi := { dst := some 8, op := Op.load 3 (Operand.tmp 7), type := 3, pos := "claims.go:77", after := #[{ on := 2, ground := Ground.data }], guard := none }) (v := .int .i64 b.r) rfl (by kernel_rfl) (by kernel_rfl) (by kernel_rfl) (fun _ _ _ h => h) (Or.inl ⟨by rfl, by intro W hSw; obtain ⟨k1, k2, k3, k4⟩ := hSw; go_simp⟩) hHeld ?_
  try simp only [Act.put, List.setIfInBounds_toArray, List.set_cons_zero, List.set_cons_succ]
  refine wpAnyH_take (i := 5) (oi := { dst := some 10, op := Op.fieldAddr 40 (Operand.tmp 2) 1, type := 0, pos := "claims.go:77", after := #[], guard := none }) (v := .pointer (some ⟨w.heap.size, 1, none⟩)) rfl (by kernel_rfl) (by kernel_rfl) (by kernel_rfl) (fun _ _ _ h => h) (Or.inl ⟨by rfl, by intro w hSw; go_simp⟩) hHeld ?_
  try simp only [Act.put, List.setIfInBounds_toArray, List.set_cons_zero, List.set_cons_succ]
  refine wpAnyH_take (i := 6) (oi := { dst := some 11, op := Op.load 3 (Operand.tmp 10), type := 3, pos := "claims.go:77", after := #[{ on := 5, ground := Ground.data }], guard := none }) (v := .int .i64 a.n) rfl (by kernel_rfl) (by kernel_rfl) (by kernel_rfl) (fun _ _ _ h => h) (Or.inl ⟨by rfl, by intro W hSw; obtain ⟨k1, k2, k3, k4⟩ := hSw; go_simp⟩) hHeld ?_
  try simp only [Act.put, List.setIfInBounds_toArray, List.set_cons_zero, List.set_cons_succ]
  refine wpAnyH_take (i := 7) (oi := { dst := some 12, op := Op.fieldAddr 40 (Operand.tmp 3) 1, type := 0, pos := "claims.go:77", after := #[], guard := none }) (v := .pointer (some ⟨w.heap.size + 1, 1, none⟩)) rfl (by kernel_rfl) (by kernel_rfl) (by kernel_rfl) (fun _ _ _ h => h) (Or.inl ⟨by rfl, by intro w hSw; go_simp⟩) hHeld ?_
  try simp only [Act.put, List.setIfInBounds_toArray, List.set_cons_zero, List.set_cons_succ]
  refine wpAnyH_take (i := 8) (oi := { dst := some 13, op := Op.load 3 (Operand.tmp 12), type := 3, pos := "claims.go:77", after := #[{ on := 7, ground := Ground.data }], guard := none }) (v := .int .i64 b.n) rfl (by kernel_rfl) (by kernel_rfl) (by kernel_rfl) (fun _ _ _ h => h) (Or.inl ⟨by rfl, by intro W hSw; obtain ⟨k1, k2, k3, k4⟩ := hSw; go_simp⟩) hHeld ?_
  try simp only [Act.put, List.setIfInBounds_toArray, List.set_cons_zero, List.set_cons_succ]
  refine wpAnyH_ready (rs := [4]) (by kernel_rfl) (by simp) ?_
  refine AllReadyH.cons (o := { dst := some 9, op := Op.call { callee := Callee.value (Operand.func 43), args := #[Operand.tmp 6, Operand.tmp 8], argTypes := #[3, 3] }, type := 3, pos := "claims.go:77", after := #[{ on := 1, ground := Ground.data }, { on := 3, ground := Ground.data }], guard := none }) rfl (fun K hK => ?_) AllReadyH.nil
  go_simp
  refine (compare_any _ _ _).mono ?_
  rintro e w4 ⟨rfl, rfl⟩
  go_wp2_with fail
  refine hK.out _ _ hHeld (fun hHeld => ?_)
  clear hK K
  try simp only [Act.put, List.setIfInBounds_toArray, List.set_cons_zero, List.set_cons_succ]
  refine wpAnyH_ready (rs := [9]) (by kernel_rfl) (by simp) ?_
  refine AllReadyH.cons (o := { dst := some 14, op := Op.call { callee := Callee.value (Operand.func 43), args := #[Operand.tmp 11, Operand.tmp 13], argTypes := #[3, 3] }, type := 3, pos := "claims.go:77", after := #[{ on := 6, ground := Ground.data }, { on := 8, ground := Ground.data }, { on := 4, ground := Ground.chain }], guard := none }) rfl (fun K hK => ?_) AllReadyH.nil
  go_simp
  refine (compare_any _ _ _).mono ?_
  rintro e w4 ⟨rfl, rfl⟩
  go_wp2_with fail
  refine hK.out _ _ hHeld (fun hHeld => ?_)
  clear hK K
  try simp only [Act.put, List.setIfInBounds_toArray, List.set_cons_zero, List.set_cons_succ]
  refine wpAnyH_ready (rs := [10]) (by kernel_rfl) (by simp) ?_
  refine AllReadyH.cons (o := { dst := some 15, op := Op.buildSlice 82 2 #[(0, Operand.tmp 9), (1, Operand.tmp 14)], type := 82, pos := "claims.go:77", after := #[{ on := 4, ground := Ground.data }, { on := 9, ground := Ground.data }], guard := none }) rfl (fun K hK => ?_) AllReadyH.nil
  refine step_build_run (by rfl) 82 2 _ rfl #[(0, .int .i64 (cmpI a.r b.r)), (1, .int .i64 (cmpI a.n b.n))] rfl _ _ (build_two _ _ _) ?_
  refine hK.out _ _ (HS.out _ (HB1.out.drew.alloc (by have := HZ.out; simp; omega) _)) (fun hHeld => ?_)
  clear hK K
  try simp only [Act.put, List.setIfInBounds_toArray, List.set_cons_zero, List.set_cons_succ]
  refine wpAnyH_ready (rs := [11]) (by kernel_rfl) (by simp) ?_
  refine AllReadyH.cons (o := { dst := some 16, op := Op.call { callee := Callee.value (Operand.func 42), args := #[Operand.tmp 15], argTypes := #[82] }, type := 3, pos := "claims.go:77", after := #[{ on := 10, ground := Ground.data }, { on := 9, ground := Ground.chain }], guard := none }) rfl (fun K hK => ?_) AllReadyH.nil
  go_simp
  refine (or_any W0.heap.size (cmpI a.r b.r) (cmpI a.n b.n) (W0.alloc (.cells #[.int .i64 (cmpI a.r b.r), .int .i64 (cmpI a.n b.n)] 3)).drew (cell_first W0 _ _ 3) (cell_second W0 _ _ 3)).mono ?_
  rintro e w4 ⟨rfl, rfl⟩
  go_wp2_with fail
  refine hK.out _ _ hHeld (fun hHeld => ?_)
  clear hK K
  try simp only [Act.put, List.setIfInBounds_toArray, List.set_cons_zero, List.set_cons_succ]
  refine wpAnyH_take (i := 12) (oi := { dst := some 4, op := Op.assign (Operand.tmp 16), type := 3, pos := "claims.go:77", after := #[{ on := 11, ground := Ground.data }, { on := 11, ground := Ground.chain }, { on := 0, ground := Ground.phase }, { on := 1, ground := Ground.phase }, { on := 2, ground := Ground.phase }, { on := 3, ground := Ground.phase }, { on := 4, ground := Ground.phase }, { on := 5, ground := Ground.phase }, { on := 6, ground := Ground.phase }, { on := 7, ground := Ground.phase }, { on := 8, ground := Ground.phase }, { on := 9, ground := Ground.phase }, { on := 10, ground := Ground.phase }, { on := 11, ground := Ground.phase }], guard := none }) (v := .int .i64 (orI (cmpI a.r b.r) (cmpI a.n b.n))) rfl (by kernel_rfl) (by kernel_rfl) (by kernel_rfl) (fun _ _ _ h => h) (Or.inl ⟨by rfl, by intro w hSw; go_simp⟩) hHeld ?_
  try simp only [Act.put, List.setIfInBounds_toArray, List.set_cons_zero, List.set_cons_succ]
  refine wpAnyH_done (by kernel_rfl) ?_ _
  go_wp2
  go_ret
  exact ⟨rfl, (HB0.out.alloc (by have := HZ.out; simp; omega) _).drew⟩
set_option maxHeartbeats 4000000 in
theorem ordC_any (a b : ClT) (X Y : Array Value) (HX : Hid (X = (ccells a).toArray)) (HY : Hid (Y = (ccells b).toArray)) (w : World) :
    Calls Try.prog 41 #[.agg X, .agg Y] w fun e w' => e = .returned (.int .i64 (orI (cmpI a.r b.r) (cmpI a.e b.e))) ∧ Below w.heap.size w w' := by
  have HS : Hid (∀ W : World, Below (w.heap.size + 2) ((w.alloc (.cells X 26)).alloc (.cells Y 26)) W → W.cell? ⟨w.heap.size, 0, none⟩ = some (.int .i64 a.r) ∧ W.cell? ⟨w.heap.size, 1, none⟩ = some (.int .i64 a.e) ∧ W.cell? ⟨w.heap.size + 1, 0, none⟩ = some (.int .i64 b.r) ∧ W.cell? ⟨w.heap.size + 1, 1, none⟩ = some (.int .i64 b.e)) := fun W hW => by
    have e1 : ((w.alloc (.cells X 26)).alloc (.cells Y 26)).heap[w.heap.size]? = some (.cells X 26 (0, 0)) := by
      rw [heap_alloc_old _ _ (by simp)]; exact heap_alloc_new w _
    have e2 : ((w.alloc (.cells X 26)).alloc (.cells Y 26)).heap[w.heap.size + 1]? = some (.cells Y 26 (0, 0)) := by
      have := heap_alloc_new (w.alloc (.cells X 26)) (.cells Y 26)
      simpa using this
    refine ⟨?_, ?_, ?_, ?_⟩
    · rw [hW.cell (show w.heap.size < w.heap.size + 2 by omega), cell_of_row _ _ 0 _ _ (0, 0) e1, HX.out]; rfl
    · rw [hW.cell (show w.heap.size < w.heap.size + 2 by omega), cell_of_row _ _ 1 _ _ (0, 0) e1, HX.out]; rfl
    · rw [hW.cell (show w.heap.size + 1 < w.heap.size + 2 by omega), cell_of_row _ _ 0 _ _ (0, 0) e2, HY.out]; rfl
    · rw [hW.cell (show w.heap.size + 1 < w.heap.size + 2 by omega), cell_of_row _ _ 1 _ _ (0, 0) e2, HY.out]; rfl
  have hb0 : Below w.heap.size w ((w.alloc (.cells X 26)).alloc (.cells Y 26)) := ((Below.refl _ _).alloc (Nat.le_refl _) _).alloc (by simp) _
  have hb1 : Below (w.heap.size + 2) ((w.alloc (.cells X 26)).alloc (.cells Y 26)) ((w.alloc (.cells X 26)).alloc (.cells Y 26)) := Below.refl _ _
  have hsz : ((w.alloc (.cells X 26)).alloc (.cells Y 26)).heap.size = w.heap.size + 2 := by simp
  have HB0 := hidk hb0
  have HB1 := hidk hb1
  have HZ := hidk hsz
  clear hb0 hb1 hsz HX HY
  go_enter Try.func41, Try.ntmps41
  go_wp2_with fail
  obtain ⟨W0, hW0⟩ : ∃ W0, ((w.alloc (.cells X 26)).alloc (.cells Y 26)) = W0 := ⟨_, rfl⟩
  rw [hW0] at HS HB0 HB1 HZ ⊢
  clear hW0
  refine wp_region_held_drew (S := (fun W => W.cell? ⟨w.heap.size, 0, none⟩ = some (.int .i64 a.r) ∧ W.cell? ⟨w.heap.size, 1, none⟩ = some (.int .i64 a.e) ∧ W.cell? ⟨w.heap.size + 1, 0, none⟩ = some (.int .i64 b.r) ∧ W.cell? ⟨w.heap.size + 1, 1, none⟩ = some (.int .i64 b.e))) (by kernel_rfl) (HS.out _ HB1.out.drew) (fun hHeld => ?_)
  refine wpAnyH_take (i := 0) (oi := { dst := some 5, op := Op.fieldAddr 26 (Operand.tmp 2) 0, type := 0, pos := "claims.go:71", after := #[], guard := none }) (v := .pointer (some ⟨w.heap.size, 0, none⟩)) rfl (by kernel_rfl) (by kernel_rfl) (by kernel_rfl) (fun _ _ _ h => h) (Or.inl ⟨by rfl, by intro w hSw; go_simp⟩) hHeld ?_
  try simp only [Act.put, List.setIfInBounds_toArray, List.set_cons_zero, List.set_cons_succ]
  refine wpAnyH_take (i := 1) (oi := { dst := some 6, op := Op.load 3 (Operand.tmp 5), type := 3, pos := "claims.go:71", after := #[{ on := 0, ground := Ground.data }], guard := none }) (v := .int .i64 a.r) rfl (by kernel_rfl) (by kernel_rfl) (by kernel_rfl) (fun _ _ _ h => h) (Or.inl ⟨by rfl, by intro W hSw; obtain ⟨k1, k2, k3, k4⟩ := hSw; go_simp⟩) hHeld ?_
  try simp only [Act.put, List.setIfInBounds_toArray, List.set_cons_zero, List.set_cons_succ]
  refine wpAnyH_take (i := 2) (oi := { dst := some 7, op := Op.fieldAddr 26 (Operand.tmp 3) 0, type := 0, pos := "claims.go:71", after := #[], guard := none }) (v := .pointer (some ⟨w.heap.size + 1, 0, none⟩)) rfl (by kernel_rfl) (by kernel_rfl) (by kernel_rfl) (fun _ _ _ h => h) (Or.inl ⟨by rfl, by intro w hSw; go_simp⟩) hHeld ?_
  try simp only [Act.put, List.setIfInBounds_toArray, List.set_cons_zero, List.set_cons_succ]
  refine wpAnyH_take (i := 3) (oi := { dst := some 8, op := Op.load 3 (Operand.tmp 7), type := 3, pos := "claims.go:71", after := #[{ on := 2, ground := Ground.data }], guard := none }) (v := .int .i64 b.r) rfl (by kernel_rfl) (by kernel_rfl) (by kernel_rfl) (fun _ _ _ h => h) (Or.inl ⟨by rfl, by intro W hSw; obtain ⟨k1, k2, k3, k4⟩ := hSw; go_simp⟩) hHeld ?_
  try simp only [Act.put, List.setIfInBounds_toArray, List.set_cons_zero, List.set_cons_succ]
  refine wpAnyH_take (i := 5) (oi := { dst := some 10, op := Op.fieldAddr 26 (Operand.tmp 2) 1, type := 0, pos := "claims.go:71", after := #[], guard := none }) (v := .pointer (some ⟨w.heap.size, 1, none⟩)) rfl (by kernel_rfl) (by kernel_rfl) (by kernel_rfl) (fun _ _ _ h => h) (Or.inl ⟨by rfl, by intro w hSw; go_simp⟩) hHeld ?_
  try simp only [Act.put, List.setIfInBounds_toArray, List.set_cons_zero, List.set_cons_succ]
  refine wpAnyH_take (i := 6) (oi := { dst := some 11, op := Op.load 3 (Operand.tmp 10), type := 3, pos := "claims.go:71", after := #[{ on := 5, ground := Ground.data }], guard := none }) (v := .int .i64 a.e) rfl (by kernel_rfl) (by kernel_rfl) (by kernel_rfl) (fun _ _ _ h => h) (Or.inl ⟨by rfl, by intro W hSw; obtain ⟨k1, k2, k3, k4⟩ := hSw; go_simp⟩) hHeld ?_
  try simp only [Act.put, List.setIfInBounds_toArray, List.set_cons_zero, List.set_cons_succ]
  refine wpAnyH_take (i := 7) (oi := { dst := some 12, op := Op.fieldAddr 26 (Operand.tmp 3) 1, type := 0, pos := "claims.go:71", after := #[], guard := none }) (v := .pointer (some ⟨w.heap.size + 1, 1, none⟩)) rfl (by kernel_rfl) (by kernel_rfl) (by kernel_rfl) (fun _ _ _ h => h) (Or.inl ⟨by rfl, by intro w hSw; go_simp⟩) hHeld ?_
  try simp only [Act.put, List.setIfInBounds_toArray, List.set_cons_zero, List.set_cons_succ]
  refine wpAnyH_take (i := 8) (oi := { dst := some 13, op := Op.load 3 (Operand.tmp 12), type := 3, pos := "claims.go:71", after := #[{ on := 7, ground := Ground.data }], guard := none }) (v := .int .i64 b.e) rfl (by kernel_rfl) (by kernel_rfl) (by kernel_rfl) (fun _ _ _ h => h) (Or.inl ⟨by rfl, by intro W hSw; obtain ⟨k1, k2, k3, k4⟩ := hSw; go_simp⟩) hHeld ?_
  try simp only [Act.put, List.setIfInBounds_toArray, List.set_cons_zero, List.set_cons_succ]
  refine wpAnyH_ready (rs := [4]) (by kernel_rfl) (by simp) ?_
  refine AllReadyH.cons (o := { dst := some 9, op := Op.call { callee := Callee.value (Operand.func 43), args := #[Operand.tmp 6, Operand.tmp 8], argTypes := #[3, 3] }, type := 3, pos := "claims.go:71", after := #[{ on := 1, ground := Ground.data }, { on := 3, ground := Ground.data }], guard := none }) rfl (fun K hK => ?_) AllReadyH.nil
  go_simp
  refine (compare_any _ _ _).mono ?_
  rintro e w4 ⟨rfl, rfl⟩
  go_wp2_with fail
  refine hK.out _ _ hHeld (fun hHeld => ?_)
  clear hK K
  try simp only [Act.put, List.setIfInBounds_toArray, List.set_cons_zero, List.set_cons_succ]
  refine wpAnyH_ready (rs := [9]) (by kernel_rfl) (by simp) ?_
  refine AllReadyH.cons (o := { dst := some 14, op := Op.call { callee := Callee.value (Operand.func 43), args := #[Operand.tmp 11, Operand.tmp 13], argTypes := #[3, 3] }, type := 3, pos := "claims.go:71", after := #[{ on := 6, ground := Ground.data }, { on := 8, ground := Ground.data }, { on := 4, ground := Ground.chain }], guard := none }) rfl (fun K hK => ?_) AllReadyH.nil
  go_simp
  refine (compare_any _ _ _).mono ?_
  rintro e w4 ⟨rfl, rfl⟩
  go_wp2_with fail
  refine hK.out _ _ hHeld (fun hHeld => ?_)
  clear hK K
  try simp only [Act.put, List.setIfInBounds_toArray, List.set_cons_zero, List.set_cons_succ]
  refine wpAnyH_ready (rs := [10]) (by kernel_rfl) (by simp) ?_
  refine AllReadyH.cons (o := { dst := some 15, op := Op.buildSlice 82 2 #[(0, Operand.tmp 9), (1, Operand.tmp 14)], type := 82, pos := "claims.go:71", after := #[{ on := 4, ground := Ground.data }, { on := 9, ground := Ground.data }], guard := none }) rfl (fun K hK => ?_) AllReadyH.nil
  refine step_build_run (by rfl) 82 2 _ rfl #[(0, .int .i64 (cmpI a.r b.r)), (1, .int .i64 (cmpI a.e b.e))] rfl _ _ (build_two _ _ _) ?_
  refine hK.out _ _ (HS.out _ (HB1.out.drew.alloc (by have := HZ.out; simp; omega) _)) (fun hHeld => ?_)
  clear hK K
  try simp only [Act.put, List.setIfInBounds_toArray, List.set_cons_zero, List.set_cons_succ]
  refine wpAnyH_ready (rs := [11]) (by kernel_rfl) (by simp) ?_
  refine AllReadyH.cons (o := { dst := some 16, op := Op.call { callee := Callee.value (Operand.func 42), args := #[Operand.tmp 15], argTypes := #[82] }, type := 3, pos := "claims.go:71", after := #[{ on := 10, ground := Ground.data }, { on := 9, ground := Ground.chain }], guard := none }) rfl (fun K hK => ?_) AllReadyH.nil
  go_simp
  refine (or_any W0.heap.size (cmpI a.r b.r) (cmpI a.e b.e) (W0.alloc (.cells #[.int .i64 (cmpI a.r b.r), .int .i64 (cmpI a.e b.e)] 3)).drew (cell_first W0 _ _ 3) (cell_second W0 _ _ 3)).mono ?_
  rintro e w4 ⟨rfl, rfl⟩
  go_wp2_with fail
  refine hK.out _ _ hHeld (fun hHeld => ?_)
  clear hK K
  try simp only [Act.put, List.setIfInBounds_toArray, List.set_cons_zero, List.set_cons_succ]
  refine wpAnyH_take (i := 12) (oi := { dst := some 4, op := Op.assign (Operand.tmp 16), type := 3, pos := "claims.go:71", after := #[{ on := 11, ground := Ground.data }, { on := 11, ground := Ground.chain }, { on := 0, ground := Ground.phase }, { on := 1, ground := Ground.phase }, { on := 2, ground := Ground.phase }, { on := 3, ground := Ground.phase }, { on := 4, ground := Ground.phase }, { on := 5, ground := Ground.phase }, { on := 6, ground := Ground.phase }, { on := 7, ground := Ground.phase }, { on := 8, ground := Ground.phase }, { on := 9, ground := Ground.phase }, { on := 10, ground := Ground.phase }, { on := 11, ground := Ground.phase }], guard := none }) (v := .int .i64 (orI (cmpI a.r b.r) (cmpI a.e b.e))) rfl (by kernel_rfl) (by kernel_rfl) (by kernel_rfl) (fun _ _ _ h => h) (Or.inl ⟨by rfl, by intro w hSw; go_simp⟩) hHeld ?_
  try simp only [Act.put, List.setIfInBounds_toArray, List.set_cons_zero, List.set_cons_succ]
  refine wpAnyH_done (by kernel_rfl) ?_ _
  go_wp2
  go_ret
  exact ⟨rfl, (HB0.out.alloc (by have := HZ.out; simp; omega) _).drew⟩
end Go.Proofs.Ytieklabpdalahaa

/- The library's slices.Index and Contains, at addresses and at claims. -/
namespace Go.Proofs.Ytieklabpdalahaa
open Go.RowKit Nums Sums
set_option linter.unusedVariables false
set_option linter.unusedSimpArgs false
set_option maxRecDepth 100000
/-- The first place at which p holds, or -1. -/
def posI {α : Type} (p : α → Bool) (l : List α) : Int := match l.findIdx? p with | some i => (i : Int) | none => -1
theorem posI_yes {α : Type} {p : α → Bool} {l : List α} (k : Nat) (hk : k < l.length) (h0 : ∀ y ∈ l.take k, p y = false) (h1 : p l[k] = true) : posI p l = (k : Int) := by
  have e : l.findIdx? p = some k := by
    rw [List.findIdx?_eq_some_iff_getElem]
    refine ⟨hk, h1, fun j hj => ?_⟩
    have hjl : j < l.length := by omega
    have := h0 l[j] (List.mem_take_iff_getElem.2 ⟨j, by omega, rfl⟩)
    simp [this]
  unfold posI
  rw [e]
theorem posI_no {α : Type} {p : α → Bool} {l : List α} (h : ∀ y ∈ l, p y = false) : posI p l = -1 := by
  have e : l.findIdx? p = none := by rw [List.findIdx?_eq_none_iff]; exact h
  unfold posI
  rw [e]
theorem posI_nonneg {α : Type} {p : α → Bool} {l : List α} : 0 ≤ posI p l ↔ ∃ y ∈ l, p y = true := by
  unfold posI
  cases e : l.findIdx? p with
  | none =>
    rw [List.findIdx?_eq_none_iff] at e
    exact ⟨fun h => absurd h (by simp), fun ⟨y, hy, h⟩ => by rw [e y hy] at h; cases h⟩
  | some i =>
    rw [List.findIdx?_eq_some_iff_getElem] at e
    obtain ⟨hi, h1, _⟩ := e
    exact ⟨fun _ => ⟨l[i], List.getElem_mem hi, h1⟩, fun _ => by simp⟩
theorem posI_at {α : Type} {p : α → Bool} {l : List α} (h : 0 ≤ posI p l) : ∃ k : Nat, ∃ hk : k < l.length, posI p l = (k : Int) ∧ p l[k] = true ∧ ∀ j (hj : j < k), p (l[j]'(by omega)) = false := by
  unfold posI at *
  cases e : l.findIdx? p with
  | none => rw [e] at h; simp at h
  | some i =>
    rw [List.findIdx?_eq_some_iff_getElem] at e
    obtain ⟨hi, h1, h2⟩ := e
    exact ⟨i, hi, rfl, h1, fun j hj => by have := h2 j hj; simpa using this⟩
theorem posI_neg {α : Type} {p : α → Bool} {l : List α} (h : posI p l < 0) : posI p l = -1 ∧ ∀ y ∈ l, p y = false := by
  have hn : ∀ y ∈ l, p y = false := fun y hy => by
    cases e : p y
    · rfl
    · have := posI_nonneg.2 ⟨y, hy, e⟩
      omega
  exact ⟨posI_no hn, hn⟩
theorem take_pos {α : Type} {p : α → Bool} {l : List α} {k : Nat} (hk : k < l.length) (h : ∀ y ∈ l.take k, p y = false) (hx : p l[k] = false) : ∀ y ∈ l.take (k + 1), p y = false := by
  rw [List.take_succ_eq_append_getElem hk]
  intro y h2
  rcases List.mem_append.1 h2 with h3 | h3
  · exact h y h3
  · rw [List.mem_singleton.1 h3]; exact hx
theorem eqAddrX (a b : AdT) (_ : OkA a) (_ : OkA b) (X Y : Array Value) (HX : Hid (X = (acells a).toArray)) (HY : Hid (Y = (acells b).toArray)) (x : Bool) (hx : x = true ↔ a = b) (w : World) : (binOp .eql 40 (.agg X) (.agg Y)).run Try.prog w = .ok (.bool x) w := by
  rw [HX.out, HY.out]
  exact eqAddr a b x hx w
set_option maxHeartbeats 4000000 in
theorem idxA_any (ad : Option Addr) (len cap : Nat) (l : List AdT) (x : AdT) (X : Array Value) (HX : Hid (X = (acells x).toArray)) (hx : OkA x) (w : World) (h : AReads w ad len cap l) (hlen : len ≤ 1000000) :
    Calls Try.prog 58 #[.slice ad len cap, .agg X] w fun e w' => e = .returned (.int .i64 (posI (fun y => eqAB x y) l)) ∧ Below w.heap.size w w' := by
  have H := hidk h
  have HL := hidk h.ln
  have hmx : len ≤ 9223372036854775807 := by omega
  have HSX : Hid ((Try.prog.info? 40).map (·.size) = some X.size) := by show _ = _; rw [sizeA, HX.out]; simp [acells_length _ hx]
  have HB0 : Hid (Below w.heap.size w (w.alloc (.cells X 40))) := (Below.refl _ _).alloc (Nat.le_refl _) _
  have HB1 : Hid (Below (w.heap.size + 1) (w.alloc (.cells X 40)) (w.alloc (.cells X 40))) := Below.refl _ _
  have HBOX : Hid (∀ W, Below (w.heap.size + 1) (w.alloc (.cells X 40)) W → W.rangeAt w.heap.size 0 X.toList) := fun W hW => range_below (range_row (t := 40) (fr := (0, 0)) (by rw [Array.toArray_toList]; exact heap_alloc_new w _)) hW (Nat.lt_succ_self _)
  clear h
  go_enter Try.func58, Try.ntmps58
  go_wp2
  go_loopw [5, 8] (fun _ v wr => ∃ k : Nat, k ≤ len ∧ v = .int .i64 k ∧ Hid (Below (w.heap.size + 1) (w.alloc (.cells X 40)) wr) ∧ Hid (∀ y ∈ l.take k, eqAB x y = false)) (fun _ v _ => len - (intOf v).toNat)
  case atStart => exact ⟨0, by omega, rfl, HB1, fun y hy => by simp at hy⟩
  case round =>
    obtain ⟨k, hk, rfl, HB, HN⟩ := hrel
    by_cases hlt : k < len
    · have hd : decide ((k : Int) < (len : Int)) = true := by rw [decide_eq_true_eq]; omega
      have hw1 := wrap_int ((k : Int) + 1) (by omega) (by omega)
      obtain ⟨g, o, rfl, hg⟩ := H.out.at (by omega)
      have hkl : k < l.length := by have := HL.out; omega
      obtain ⟨Y, HY⟩ : ∃ Y, Hid (Y = (acells l[k]).toArray) := ⟨_, hidk rfl⟩
      have hoy := H.out.ok _ (List.getElem_mem hkl)
      have HSY : Hid ((Try.prog.info? 40).map (·.size) = some Y.size) := by show _ = _; rw [sizeA, HY.out]; simp [acells_length _ hoy]
      have HRY : Hid (wr.rangeAt g (o + 2 * k) Y.toList) := by
        show World.rangeAt _ _ _ _
        rw [HY.out]
        exact (H.out.keep (HB0.out.trans (HB.out.mono (by omega)))).range k hkl
      have HBX := hidk (HBOX.out _ HB.out)
      have ix := fun W => index_ad W g o len cap k .i64 hlt
      obtain ⟨b, hb⟩ : ∃ b, eqAB x l[k] = b := ⟨_, rfl⟩
      have hq := fun W => eqAddrX x l[k] hx hoy X Y HX HY b (by rw [← hb]; exact eqAB_iff _ _) W
      have HYE : Hid (b = true → posI (fun y => eqAB x y) l = (k : Int)) := fun hh => posI_yes k hkl HN.out (by rw [← hh]; exact hb)
      have HNO : Hid (b = false → ∀ y ∈ l.take (k + 1), eqAB x y = false) := fun hh => take_pos hkl HN.out (by rw [← hh]; exact hb)
      clear hb HN HY hoy hkl HBOX
      cases b
      · replace HNO := hidk (HNO.out rfl)
        clear HYE
        go_wp2
        refine wp_region_held_drew (S := (fun W => W.rangeAt g (o + 2 * k) Y.toList ∧ W.rangeAt w.heap.size 0 X.toList)) (by kernel_rfl) ⟨HRY.out, HBX.out⟩ (fun hHeld => ?_)
        refine wpAnyH_take (i := 0) (oi := { dst := some 11, op := Op.load 40 (Operand.tmp 3), type := 40, pos := "slices.go:98", after := #[], guard := none }) (v := .agg X) rfl (by kernel_rfl) (by kernel_rfl) (by kernel_rfl) (fun _ _ _ h => h) (yieldsIf_mid (by rfl) 40 (.tmp 3) rfl w.heap.size 0 rfl X _ (fun _ h => h.2) Try.underlying40 rfl HSX.out) hHeld ?_
        try simp only [Act.put, List.setIfInBounds_toArray, List.set_cons_zero, List.set_cons_succ]
        refine wpAnyH_take (i := 1) (oi := { dst := some 12, op := Op.move (Operand.tmp 0), type := 38, pos := "slices.go:98", after := #[], guard := none }) (v := .slice (some ⟨g, o, none⟩) len cap) rfl (by kernel_rfl) (by kernel_rfl) (by kernel_rfl) (fun _ _ _ h => h) (Or.inl ⟨by rfl, by intro w hSw; go_simp⟩) hHeld ?_
        try simp only [Act.put, List.setIfInBounds_toArray, List.set_cons_zero, List.set_cons_succ]
        refine wpAnyH_take (i := 2) (oi := { dst := some 13, op := Op.move (Operand.tmp 5), type := 3, pos := "slices.go:98", after := #[], guard := none }) (v := .int .i64 k) rfl (by kernel_rfl) (by kernel_rfl) (by kernel_rfl) (fun _ _ _ h => h) (Or.inl ⟨by rfl, by intro w hSw; go_simp⟩) hHeld ?_
        try simp only [Act.put, List.setIfInBounds_toArray, List.set_cons_zero, List.set_cons_succ]
        refine wpAnyH_take (i := 3) (oi := { dst := some 14, op := Op.indexAddr 38 (Operand.tmp 12) (Operand.tmp 13), type := 0, pos := "slices.go:98", after := #[{ on := 1, ground := Ground.data }, { on := 2, ground := Ground.data }], guard := none }) (v := .pointer (some ⟨g, o + 2 * k, none⟩)) rfl (by kernel_rfl) (by kernel_rfl) (by kernel_rfl) (fun _ _ _ h => h) (Or.inl ⟨by rfl, by intro W hSw; have := ix W; go_simp⟩) hHeld ?_
        try simp only [Act.put, List.setIfInBounds_toArray, List.set_cons_zero, List.set_cons_succ]
        refine wpAnyH_take (i := 4) (oi := { dst := some 15, op := Op.load 40 (Operand.tmp 14), type := 40, pos := "slices.go:98", after := #[{ on := 3, ground := Ground.data }], guard := none }) (v := .agg Y) rfl (by kernel_rfl) (by kernel_rfl) (by kernel_rfl) (fun _ _ _ h => h) (yieldsIf_mid (by rfl) 40 (.tmp 14) rfl g (o + 2 * k) rfl Y _ (fun _ h => h.1) Try.underlying40 rfl HSY.out) hHeld ?_
        try simp only [Act.put, List.setIfInBounds_toArray, List.set_cons_zero, List.set_cons_succ]
        refine wpAnyH_take (i := 5) (oi := { dst := some 16, op := Op.binOp BinOp.eql 40 (Operand.tmp 11) (Operand.tmp 15) 40, type := 4, pos := "slices.go:98", after := #[{ on := 0, ground := Ground.data }, { on := 4, ground := Ground.data }], guard := none }) (v := .bool false) rfl (by kernel_rfl) (by kernel_rfl) (by kernel_rfl) (fun _ _ _ h => h) (Or.inl ⟨by rfl, by intro W hSw; have := hq W; go_simp⟩) hHeld ?_
        try simp only [Act.put, List.setIfInBounds_toArray, List.set_cons_zero, List.set_cons_succ]
        refine wpAnyH_done (by kernel_rfl) ?_ _
        go_wp2
        go_roundw
        case rel => exact ⟨k + 1, by omega, by go_num, HB.out.drew, HNO⟩
        case measure => simp [intOf]; omega
      · replace HYE := hidk (HYE.out rfl)
        clear HNO
        go_wp2
        refine wp_region_held_drew (S := (fun W => W.rangeAt g (o + 2 * k) Y.toList ∧ W.rangeAt w.heap.size 0 X.toList)) (by kernel_rfl) ⟨HRY.out, HBX.out⟩ (fun hHeld => ?_)
        refine wpAnyH_take (i := 0) (oi := { dst := some 11, op := Op.load 40 (Operand.tmp 3), type := 40, pos := "slices.go:98", after := #[], guard := none }) (v := .agg X) rfl (by kernel_rfl) (by kernel_rfl) (by kernel_rfl) (fun _ _ _ h => h) (yieldsIf_mid (by rfl) 40 (.tmp 3) rfl w.heap.size 0 rfl X _ (fun _ h => h.2) Try.underlying40 rfl HSX.out) hHeld ?_
        try simp only [Act.put, List.setIfInBounds_toArray, List.set_cons_zero, List.set_cons_succ]
        refine wpAnyH_take (i := 1) (oi := { dst := some 12, op := Op.move (Operand.tmp 0), type := 38, pos := "slices.go:98", after := #[], guard := none }) (v := .slice (some ⟨g, o, none⟩) len cap) rfl (by kernel_rfl) (by kernel_rfl) (by kernel_rfl) (fun _ _ _ h => h) (Or.inl ⟨by rfl, by intro w hSw; go_simp⟩) hHeld ?_
        try simp only [Act.put, List.setIfInBounds_toArray, List.set_cons_zero, List.set_cons_succ]
        refine wpAnyH_take (i := 2) (oi := { dst := some 13, op := Op.move (Operand.tmp 5), type := 3, pos := "slices.go:98", after := #[], guard := none }) (v := .int .i64 k) rfl (by kernel_rfl) (by kernel_rfl) (by kernel_rfl) (fun _ _ _ h => h) (Or.inl ⟨by rfl, by intro w hSw; go_simp⟩) hHeld ?_
        try simp only [Act.put, List.setIfInBounds_toArray, List.set_cons_zero, List.set_cons_succ]
        refine wpAnyH_take (i := 3) (oi := { dst := some 14, op := Op.indexAddr 38 (Operand.tmp 12) (Operand.tmp 13), type := 0, pos := "slices.go:98", after := #[{ on := 1, ground := Ground.data }, { on := 2, ground := Ground.data }], guard := none }) (v := .pointer (some ⟨g, o + 2 * k, none⟩)) rfl (by kernel_rfl) (by kernel_rfl) (by kernel_rfl) (fun _ _ _ h => h) (Or.inl ⟨by rfl, by intro W hSw; have := ix W; go_simp⟩) hHeld ?_
        try simp only [Act.put, List.setIfInBounds_toArray, List.set_cons_zero, List.set_cons_succ]
        refine wpAnyH_take (i := 4) (oi := { dst := some 15, op := Op.load 40 (Operand.tmp 14), type := 40, pos := "slices.go:98", after := #[{ on := 3, ground := Ground.data }], guard := none }) (v := .agg Y) rfl (by kernel_rfl) (by kernel_rfl) (by kernel_rfl) (fun _ _ _ h => h) (yieldsIf_mid (by rfl) 40 (.tmp 14) rfl g (o + 2 * k) rfl Y _ (fun _ h => h.1) Try.underlying40 rfl HSY.out) hHeld ?_
        try simp only [Act.put, List.setIfInBounds_toArray, List.set_cons_zero, List.set_cons_succ]
        refine wpAnyH_take (i := 5) (oi := { dst := some 16, op := Op.binOp BinOp.eql 40 (Operand.tmp 11) (Operand.tmp 15) 40, type := 4, pos := "slices.go:98", after := #[{ on := 0, ground := Ground.data }, { on := 4, ground := Ground.data }], guard := none }) (v := .bool true) rfl (by kernel_rfl) (by kernel_rfl) (by kernel_rfl) (fun _ _ _ h => h) (Or.inl ⟨by rfl, by intro W hSw; have := hq W; go_simp⟩) hHeld ?_
        try simp only [Act.put, List.setIfInBounds_toArray, List.set_cons_zero, List.set_cons_succ]
        refine wpAnyH_done (by kernel_rfl) ?_ _
        go_wp2
        go_ret
        exact ⟨by rw [HYE.out]; rfl, HB0.out.trans (HB.out.drew.mono (by omega))⟩
    · obtain rfl : len = k := by omega
      have hd : decide ((len : Int) < (len : Int)) = false := by rw [decide_eq_false_iff_not]; omega
      have HE : Hid (posI (fun y => eqAB x y) l = -1) := posI_no (by have := HN.out; rwa [List.take_of_length_le (by have := HL.out; omega)] at this)
      go_wp2
      go_ret
      exact ⟨by rw [HE.out]; rfl, HB0.out.trans (HB.out.mono (by omega))⟩
set_option maxHeartbeats 1000000 in
theorem hasA_any (ad : Option Addr) (len cap : Nat) (l : List AdT) (x : AdT) (X : Array Value) (HX : Hid (X = (acells x).toArray)) (hx : OkA x) (w : World) (h : AReads w ad len cap l) (hlen : len ≤ 1000000) (b : Bool) (hb : b = true ↔ x ∈ l) :
    Calls Try.prog 49 #[.slice ad len cap, .agg X] w fun e w' => e = .returned (.bool b) ∧ Below w.heap.size w w' := by
  have HB0 : Hid (Below w.heap.size w (w.alloc (.cells X 40))) := (Below.refl _ _).alloc (Nat.le_refl _) _
  have IX := hidk (idxA_any ad len cap l x X HX hx _ (h.keep HB0.out) hlen)
  obtain ⟨p, hp⟩ : ∃ p, posI (fun y => eqAB x y) l = p := ⟨_, rfl⟩
  rw [hp] at IX
  have hd : decide (0 ≤ p) = b := by
    rw [Bool.eq_iff_iff, hb, decide_eq_true_eq, ← hp, posI_nonneg]
    exact ⟨fun ⟨y, hy, e⟩ => by rw [(eqAB_iff x y).1 e]; exact hy, fun hy => ⟨x, hy, (eqAB_iff x x).2 rfl⟩⟩
  have HSX : Hid ((Try.prog.info? 40).map (·.size) = some X.size) := by show _ = _; rw [sizeA, HX.out]; simp [acells_length _ hx]
  have HRX : Hid ((w.alloc (.cells X 40)).rangeAt w.heap.size 0 X.toList) := range_row (t := 40) (fr := (0, 0)) (by rw [Array.toArray_toList]; exact heap_alloc_new w _)
  clear h hp hb HX
  go_enter Try.func49, Try.ntmps49
  go_wp2_with (first
    | (show wpList _ _ _ ({ dst := some 6, op := _, type := _, pos := _, after := _, guard := _ } :: _) _ _; refine wpList_mid_w (by rfl) 40 (.tmp 3) rfl w.heap.size 0 rfl X _ HRX.out Try.underlying40 rfl HSX.out ?_; try simp only [Act.put, List.setIfInBounds_toArray, List.set_cons_zero, List.set_cons_succ])
    | (go_at_call 58; refine IX.out.mono ?_; rintro e w1 ⟨rfl, hb1⟩)
    | fail)
  go_ret
  exact ⟨rfl, HB0.out.trans (hb1.mono (by simp))⟩
set_option maxHeartbeats 4000000 in
theorem idxC_any (ad : Option Addr) (len cap : Nat) (l : List ClT) (x : ClT) (X : Array Value) (HX : Hid (X = (ccells x).toArray)) (hx : OkC x) (w : World) (h : CReads w ad len cap l) (hlen : len ≤ 1000000) :
    Calls Try.prog 56 #[.slice ad len cap, .agg X] w fun e w' => e = .returned (.int .i64 (posI (fun y => eqCB x y) l)) ∧ Below w.heap.size w w' := by
  have H := hidk h
  have HL := hidk h.ln
  have hmx : len ≤ 9223372036854775807 := by omega
  have HSX : Hid ((Try.prog.info? 26).map (·.size) = some X.size) := by show _ = _; rw [sizeC, HX.out]; simp [ccells_length _ hx]
  have HB0 : Hid (Below w.heap.size w (w.alloc (.cells X 26))) := (Below.refl _ _).alloc (Nat.le_refl _) _
  have HB1 : Hid (Below (w.heap.size + 1) (w.alloc (.cells X 26)) (w.alloc (.cells X 26))) := Below.refl _ _
  have HBOX : Hid (∀ W, Below (w.heap.size + 1) (w.alloc (.cells X 26)) W → W.rangeAt w.heap.size 0 X.toList) := fun W hW => range_below (range_row (t := 26) (fr := (0, 0)) (by rw [Array.toArray_toList]; exact heap_alloc_new w _)) hW (Nat.lt_succ_self _)
  clear h
  go_enter Try.func56, Try.ntmps56
  go_wp2
  go_loopw [5, 8] (fun _ v wr => ∃ k : Nat, k ≤ len ∧ v = .int .i64 k ∧ Hid (Below (w.heap.size + 1) (w.alloc (.cells X 26)) wr) ∧ Hid (∀ y ∈ l.take k, eqCB x y = false)) (fun _ v _ => len - (intOf v).toNat)
  case atStart => exact ⟨0, by omega, rfl, HB1, fun y hy => by simp at hy⟩
  case round =>
    obtain ⟨k, hk, rfl, HB, HN⟩ := hrel
    by_cases hlt : k < len
    · have hd : decide ((k : Int) < (len : Int)) = true := by rw [decide_eq_true_eq]; omega
      have hw1 := wrap_int ((k : Int) + 1) (by omega) (by omega)
      obtain ⟨g, o, rfl, hg⟩ := H.out.at (by omega)
      have hkl : k < l.length := by have := HL.out; omega
      obtain ⟨Y, HY⟩ : ∃ Y, Hid (Y = (ccells l[k]).toArray) := ⟨_, hidk rfl⟩
      have hoy := H.out.ok _ (List.getElem_mem hkl)
      have HSY : Hid ((Try.prog.info? 26).map (·.size) = some Y.size) := by show _ = _; rw [sizeC, HY.out]; simp [ccells_length _ hoy]
      have HRY : Hid (wr.rangeAt g (o + 36 * k) Y.toList) := by
        show World.rangeAt _ _ _ _
        rw [HY.out]
        exact (H.out.keep (HB0.out.trans (HB.out.mono (by omega)))).range k hkl
      have HBX := hidk (HBOX.out _ HB.out)
      have ix := fun W => index_cl W g o len cap k .i64 hlt
      obtain ⟨b, hb⟩ : ∃ b, eqCB x l[k] = b := ⟨_, rfl⟩
      have hq := fun W => eqClaim x l[k] hx hoy X Y HX HY b (by rw [← hb]; exact eqCB_iff _ _) W
      have HYE : Hid (b = true → posI (fun y => eqCB x y) l = (k : Int)) := fun hh => posI_yes k hkl HN.out (by rw [← hh]; exact hb)
      have HNO : Hid (b = false → ∀ y ∈ l.take (k + 1), eqCB x y = false) := fun hh => take_pos hkl HN.out (by rw [← hh]; exact hb)
      clear hb HN HY hoy hkl HBOX
      cases b
      · replace HNO := hidk (HNO.out rfl)
        clear HYE
        go_wp2
        refine wp_region_held_drew (S := (fun W => W.rangeAt g (o + 36 * k) Y.toList ∧ W.rangeAt w.heap.size 0 X.toList)) (by kernel_rfl) ⟨HRY.out, HBX.out⟩ (fun hHeld => ?_)
        refine wpAnyH_take (i := 0) (oi := { dst := some 11, op := Op.load 26 (Operand.tmp 3), type := 26, pos := "slices.go:98", after := #[], guard := none }) (v := .agg X) rfl (by kernel_rfl) (by kernel_rfl) (by kernel_rfl) (fun _ _ _ h => h) (yieldsIf_mid (by rfl) 26 (.tmp 3) rfl w.heap.size 0 rfl X _ (fun _ h => h.2) Try.underlying26 rfl HSX.out) hHeld ?_
        try simp only [Act.put, List.setIfInBounds_toArray, List.set_cons_zero, List.set_cons_succ]
        refine wpAnyH_take (i := 1) (oi := { dst := some 12, op := Op.move (Operand.tmp 0), type := 22, pos := "slices.go:98", after := #[], guard := none }) (v := .slice (some ⟨g, o, none⟩) len cap) rfl (by kernel_rfl) (by kernel_rfl) (by kernel_rfl) (fun _ _ _ h => h) (Or.inl ⟨by rfl, by intro w hSw; go_simp⟩) hHeld ?_
        try simp only [Act.put, List.setIfInBounds_toArray, List.set_cons_zero, List.set_cons_succ]
        refine wpAnyH_take (i := 2) (oi := { dst := some 13, op := Op.move (Operand.tmp 5), type := 3, pos := "slices.go:98", after := #[], guard := none }) (v := .int .i64 k) rfl (by kernel_rfl) (by kernel_rfl) (by kernel_rfl) (fun _ _ _ h => h) (Or.inl ⟨by rfl, by intro w hSw; go_simp⟩) hHeld ?_
        try simp only [Act.put, List.setIfInBounds_toArray, List.set_cons_zero, List.set_cons_succ]
        refine wpAnyH_take (i := 3) (oi := { dst := some 14, op := Op.indexAddr 22 (Operand.tmp 12) (Operand.tmp 13), type := 0, pos := "slices.go:98", after := #[{ on := 1, ground := Ground.data }, { on := 2, ground := Ground.data }], guard := none }) (v := .pointer (some ⟨g, o + 36 * k, none⟩)) rfl (by kernel_rfl) (by kernel_rfl) (by kernel_rfl) (fun _ _ _ h => h) (Or.inl ⟨by rfl, by intro W hSw; have := ix W; go_simp⟩) hHeld ?_
        try simp only [Act.put, List.setIfInBounds_toArray, List.set_cons_zero, List.set_cons_succ]
        refine wpAnyH_take (i := 4) (oi := { dst := some 15, op := Op.load 26 (Operand.tmp 14), type := 26, pos := "slices.go:98", after := #[{ on := 3, ground := Ground.data }], guard := none }) (v := .agg Y) rfl (by kernel_rfl) (by kernel_rfl) (by kernel_rfl) (fun _ _ _ h => h) (yieldsIf_mid (by rfl) 26 (.tmp 14) rfl g (o + 36 * k) rfl Y _ (fun _ h => h.1) Try.underlying26 rfl HSY.out) hHeld ?_
        try simp only [Act.put, List.setIfInBounds_toArray, List.set_cons_zero, List.set_cons_succ]
        refine wpAnyH_take (i := 5) (oi := { dst := some 16, op := Op.binOp BinOp.eql 26 (Operand.tmp 11) (Operand.tmp 15) 26, type := 4, pos := "slices.go:98", after := #[{ on := 0, ground := Ground.data }, { on := 4, ground := Ground.data }], guard := none }) (v := .bool false) rfl (by kernel_rfl) (by kernel_rfl) (by kernel_rfl) (fun _ _ _ h => h) (Or.inl ⟨by rfl, by intro W hSw; have := hq W; go_simp⟩) hHeld ?_
        try simp only [Act.put, List.setIfInBounds_toArray, List.set_cons_zero, List.set_cons_succ]
        refine wpAnyH_done (by kernel_rfl) ?_ _
        go_wp2
        go_roundw
        case rel => exact ⟨k + 1, by omega, by go_num, HB.out.drew, HNO⟩
        case measure => simp [intOf]; omega
      · replace HYE := hidk (HYE.out rfl)
        clear HNO
        go_wp2
        refine wp_region_held_drew (S := (fun W => W.rangeAt g (o + 36 * k) Y.toList ∧ W.rangeAt w.heap.size 0 X.toList)) (by kernel_rfl) ⟨HRY.out, HBX.out⟩ (fun hHeld => ?_)
        refine wpAnyH_take (i := 0) (oi := { dst := some 11, op := Op.load 26 (Operand.tmp 3), type := 26, pos := "slices.go:98", after := #[], guard := none }) (v := .agg X) rfl (by kernel_rfl) (by kernel_rfl) (by kernel_rfl) (fun _ _ _ h => h) (yieldsIf_mid (by rfl) 26 (.tmp 3) rfl w.heap.size 0 rfl X _ (fun _ h => h.2) Try.underlying26 rfl HSX.out) hHeld ?_
        try simp only [Act.put, List.setIfInBounds_toArray, List.set_cons_zero, List.set_cons_succ]
        refine wpAnyH_take (i := 1) (oi := { dst := some 12, op := Op.move (Operand.tmp 0), type := 22, pos := "slices.go:98", after := #[], guard := none }) (v := .slice (some ⟨g, o, none⟩) len cap) rfl (by kernel_rfl) (by kernel_rfl) (by kernel_rfl) (fun _ _ _ h => h) (Or.inl ⟨by rfl, by intro w hSw; go_simp⟩) hHeld ?_
        try simp only [Act.put, List.setIfInBounds_toArray, List.set_cons_zero, List.set_cons_succ]
        refine wpAnyH_take (i := 2) (oi := { dst := some 13, op := Op.move (Operand.tmp 5), type := 3, pos := "slices.go:98", after := #[], guard := none }) (v := .int .i64 k) rfl (by kernel_rfl) (by kernel_rfl) (by kernel_rfl) (fun _ _ _ h => h) (Or.inl ⟨by rfl, by intro w hSw; go_simp⟩) hHeld ?_
        try simp only [Act.put, List.setIfInBounds_toArray, List.set_cons_zero, List.set_cons_succ]
        refine wpAnyH_take (i := 3) (oi := { dst := some 14, op := Op.indexAddr 22 (Operand.tmp 12) (Operand.tmp 13), type := 0, pos := "slices.go:98", after := #[{ on := 1, ground := Ground.data }, { on := 2, ground := Ground.data }], guard := none }) (v := .pointer (some ⟨g, o + 36 * k, none⟩)) rfl (by kernel_rfl) (by kernel_rfl) (by kernel_rfl) (fun _ _ _ h => h) (Or.inl ⟨by rfl, by intro W hSw; have := ix W; go_simp⟩) hHeld ?_
        try simp only [Act.put, List.setIfInBounds_toArray, List.set_cons_zero, List.set_cons_succ]
        refine wpAnyH_take (i := 4) (oi := { dst := some 15, op := Op.load 26 (Operand.tmp 14), type := 26, pos := "slices.go:98", after := #[{ on := 3, ground := Ground.data }], guard := none }) (v := .agg Y) rfl (by kernel_rfl) (by kernel_rfl) (by kernel_rfl) (fun _ _ _ h => h) (yieldsIf_mid (by rfl) 26 (.tmp 14) rfl g (o + 36 * k) rfl Y _ (fun _ h => h.1) Try.underlying26 rfl HSY.out) hHeld ?_
        try simp only [Act.put, List.setIfInBounds_toArray, List.set_cons_zero, List.set_cons_succ]
        refine wpAnyH_take (i := 5) (oi := { dst := some 16, op := Op.binOp BinOp.eql 26 (Operand.tmp 11) (Operand.tmp 15) 26, type := 4, pos := "slices.go:98", after := #[{ on := 0, ground := Ground.data }, { on := 4, ground := Ground.data }], guard := none }) (v := .bool true) rfl (by kernel_rfl) (by kernel_rfl) (by kernel_rfl) (fun _ _ _ h => h) (Or.inl ⟨by rfl, by intro W hSw; have := hq W; go_simp⟩) hHeld ?_
        try simp only [Act.put, List.setIfInBounds_toArray, List.set_cons_zero, List.set_cons_succ]
        refine wpAnyH_done (by kernel_rfl) ?_ _
        go_wp2
        go_ret
        exact ⟨by rw [HYE.out]; rfl, HB0.out.trans (HB.out.drew.mono (by omega))⟩
    · obtain rfl : len = k := by omega
      have hd : decide ((len : Int) < (len : Int)) = false := by rw [decide_eq_false_iff_not]; omega
      have HE : Hid (posI (fun y => eqCB x y) l = -1) := posI_no (by have := HN.out; rwa [List.take_of_length_le (by have := HL.out; omega)] at this)
      go_wp2
      go_ret
      exact ⟨by rw [HE.out]; rfl, HB0.out.trans (HB.out.mono (by omega))⟩
set_option maxHeartbeats 1000000 in
theorem hasC_any (ad : Option Addr) (len cap : Nat) (l : List ClT) (x : ClT) (X : Array Value) (HX : Hid (X = (ccells x).toArray)) (hx : OkC x) (w : World) (h : CReads w ad len cap l) (hlen : len ≤ 1000000) (b : Bool) (hb : b = true ↔ x ∈ l) :
    Calls Try.prog 44 #[.slice ad len cap, .agg X] w fun e w' => e = .returned (.bool b) ∧ Below w.heap.size w w' := by
  have HB0 : Hid (Below w.heap.size w (w.alloc (.cells X 26))) := (Below.refl _ _).alloc (Nat.le_refl _) _
  have IX := hidk (idxC_any ad len cap l x X HX hx _ (h.keep HB0.out) hlen)
  obtain ⟨p, hp⟩ : ∃ p, posI (fun y => eqCB x y) l = p := ⟨_, rfl⟩
  rw [hp] at IX
  have hd : decide (0 ≤ p) = b := by
    rw [Bool.eq_iff_iff, hb, decide_eq_true_eq, ← hp, posI_nonneg]
    exact ⟨fun ⟨y, hy, e⟩ => by rw [(eqCB_iff x y).1 e]; exact hy, fun hy => ⟨x, hy, (eqCB_iff x x).2 rfl⟩⟩
  have HSX : Hid ((Try.prog.info? 26).map (·.size) = some X.size) := by show _ = _; rw [sizeC, HX.out]; simp [ccells_length _ hx]
  have HRX : Hid ((w.alloc (.cells X 26)).rangeAt w.heap.size 0 X.toList) := range_row (t := 26) (fr := (0, 0)) (by rw [Array.toArray_toList]; exact heap_alloc_new w _)
  clear h hp hb HX
  go_enter Try.func44, Try.ntmps44
  go_wp2_with (first
    | (show wpList _ _ _ ({ dst := some 6, op := _, type := _, pos := _, after := _, guard := _ } :: _) _ _; refine wpList_mid_w (by rfl) 26 (.tmp 3) rfl w.heap.size 0 rfl X _ HRX.out Try.underlying26 rfl HSX.out ?_; try simp only [Act.put, List.setIfInBounds_toArray, List.set_cons_zero, List.set_cons_succ])
    | (go_at_call 56; refine IX.out.mono ?_; rintro e w1 ⟨rfl, hb1⟩)
    | fail)
  go_ret
  exact ⟨rfl, HB0.out.trans (hb1.mono (by simp))⟩
end Go.Proofs.Ytieklabpdalahaa
