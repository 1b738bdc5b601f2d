/- Texts of our own that the row of AnchorsAdmits leans on, part 28. -/
import Derived.Test.YtjalebncfnekiaaGreatDoorAnchorsAdmitsJ0
import Derived.Test.YtjalebncfnekiaaGreatDoorAnchorsAdmitsJ26
/- What the document's both answers. -/
namespace Go.Proofs.YtjalebncfnekiaaGreatDoor.P5
open Go.RowKit Sums
set_option maxRecDepth 100000
set_option linter.unusedVariables false
set_option linter.unusedSimpArgs false
def Came3 (w W : World) (X Z : Array Value) : Prop := Below w.heap.size w W ∧ W.heap[w.heap.size]? = some (.cells X 25 (0, 0)) ∧ W.heap[w.heap.size + 1]? = some (.cells Z 25 (0, 0)) ∧ W.heap[w.heap.size + 2]? = some (.cells Z 25 (0, 0))
theorem came3 (w : World) (X Z : Array Value) : Came3 w (((w.alloc (.cells X 25)).alloc (.cells Z 25)).alloc (.cells Z 25)) X Z := by
  refine ⟨((((Below.refl _ _).alloc (Nat.le_refl _) _).alloc (by simp) _).alloc (by simp; omega) _), heap_keep (heap_keep (heap_alloc_new w _)), heap_keep ?_, ?_⟩
  · have := heap_alloc_new (w.alloc (.cells X 25)) (.cells Z 25)
    simpa using this
  · have := heap_alloc_new ((w.alloc (.cells X 25)).alloc (.cells Z 25)) (.cells Z 25)
    simpa using this
theorem Came3.keep {w W W' : World} {X Z : Array Value} (h : Came3 w W X Z) (hb : Below W.heap.size W W') : Came3 w W' X Z :=
  ⟨h.1.trans (hb.mono h.1.size), (hb.block _ (heap_lt h.2.1)).trans h.2.1, (hb.block _ (heap_lt h.2.2.1)).trans h.2.2.1, (hb.block _ (heap_lt h.2.2.2)).trans h.2.2.2⟩
theorem Came3.two {w W W1 W2 : World} {X Z A B : Array Value} (h : Came3 w W X Z) (h1 : Wrote (w.heap.size + 1) A 25 W W1) (h2 : Wrote (w.heap.size + 2) B 25 W1 W2) : W2.heap[w.heap.size + 1]? = some (.cells A 25 (0, 0)) ∧ W2.heap[w.heap.size + 2]? = some (.cells B 25 (0, 0)) ∧ Below w.heap.size w W2 :=
  ⟨(h2.other _ (by omega)).trans h1.row, h2.row, h2.below _ _ (h1.below _ _ h.1 (by omega)) (by omega)⟩
set_option maxHeartbeats 4000000 in
theorem refBoth_known (M N : Nat) (x : List UInt8) (kn : Bool) (a : Option Addr) (len cap : Nat) (w : World) (hN : N ≤ 100000) (hMN : M ≤ N) (hl : len ≤ maxLen) (h : M = N) (hk : kn = true) (hx : x.length = 32) (X : Array Value) (HX : Hid (X = (cellsOf x).toArray)) (b : Bool) (Hb : Hid (b = decide (len = 0))) :
    Calls Tryz.prog 45 #[.int .i64 M, .int .i64 N, .agg X, .bool kn, .slice a len cap] w fun e w' => e = .returned (.tuple #[.agg X, .agg X, .bool b]) ∧ Below w.heap.size w w' := by
  obtain ⟨Z, HZ, HA, HS, H1, H32⟩ := noughts27
  have HSX : Hid ((Tryz.prog.info? 25).map (·.size) = some X.size) := by show _ = _; rw [size23, HX.out]; simp [cellsOf_length, hx]
  have H1X : Hid (X.all (·.oneCell') = true) := by show _ = _; rw [HX.out]; exact cellsOf_all _
  have HZX : Hid (Z.size = X.size) := by show _ = _; rw [H32.out, HX.out]; simp [cellsOf_length, hx]
  have hlx : len ≤ 9223372036854775807 := by unfold maxLen at hl; omega
  subst h hk
  by_cases h0 : len = 0
  · subst h0
    obtain rfl : b = true := by rw [Hb.out]; rfl
    clear Hb HX hl
    go_enter Tryz.func45, Tryz.ntmps45
    go_wp2_with (first
      | (refine wpList_alloc_row rfl 25 rfl Z HA.out ?_; try simp only [Act.put, pS1, pS2, pS3])
      | fail)
    try simp only [alloc_size, Nat.add_assoc, Nat.reduceAdd]
    have HB := hidk (came3 w X Z)
    generalize ((w.alloc (.cells X 25)).alloc (.cells Z 25)).alloc (.cells Z 25) = wb at HB ⊢
    refine wp_region_held_drew (S := (fun W => W.heap[w.heap.size]? = some (.cells X 25 (0, 0)))) (by kernel_rfl) (show wb.drew.heap[w.heap.size]? = _ from HB.out.2.1) (fun hHeld => ?_)
    refine zW 0 (.agg X) rfl (yieldsIf_row (by rfl) 25 (.tmp 7) rfl w.heap.size rfl 25 X (0, 0) _ (fun _ h => h) Tryz.underlying25 rfl HSX.out) hHeld ?_
    try simp only [Act.put, pS1, pS2, pS3]
    refine zW 1 (.agg X) rfl (yieldsIf_row (by rfl) 25 (.tmp 7) rfl w.heap.size rfl 25 X (0, 0) _ (fun _ h => h) Tryz.underlying25 rfl HSX.out) hHeld ?_
    try simp only [Act.put, pS1, pS2, pS3]
    refine zW 2 (.int .i64 0) rfl (Or.inl ⟨by rfl, by intro w hSw; go_simp⟩) hHeld ?_
    try simp only [Act.put, pS1, pS2, pS3]
    refine zW 3 (.bool true) rfl (Or.inl ⟨by rfl, by intro w hSw; go_simp⟩) hHeld ?_
    try simp only [Act.put, pS1, pS2, pS3]
    refine wpAnyH_ready (rs := [4]) (by kernel_rfl) (by simp) ?_
    refine AllReadyH.cons (o := { dst := none, op := .store 25 (.tmp 10) (.tmp 30), type := 0, pos := "ref.go:45", after := #[zD 0, zP 0, { on := 1, ground := Ground.textOnly Departure.lateStores }, { on := 2, ground := Ground.textOnly Departure.lateStores }, { on := 3, ground := Ground.textOnly Departure.lateStores }], guard := none }) rfl (fun K hK => ?_) AllReadyH.nil
    refine step_set_var (by rfl) 25 (.tmp 10) (.tmp 30) rfl (w.heap.size + 1) X rfl rfl 25 Z HB.out.2.2.1 HSX.out HZX.out H1X.out ?_
    intro w4 F4
    refine hK.out _ _ ((F4.out.other _ (by omega)).trans hHeld) (fun hHeld => ?_)
    clear hK K
    try simp only [Act.put, pS1, pS2, pS3]
    refine wpAnyH_ready (rs := [5]) (by kernel_rfl) (by simp) ?_
    refine AllReadyH.cons (o := { dst := none, op := .store 25 (.tmp 11) (.tmp 31), type := 0, pos := "ref.go:45", after := #[zD 1, zC 4, zP 0, zP 1, { on := 2, ground := Ground.textOnly Departure.lateStores }, { on := 3, ground := Ground.textOnly Departure.lateStores }, zP 4], guard := none }) rfl (fun K hK => ?_) AllReadyH.nil
    refine step_set_var (by rfl) 25 (.tmp 11) (.tmp 31) rfl (w.heap.size + 2) X rfl rfl 25 Z ((F4.out.other _ (by omega)).trans HB.out.2.2.2) HSX.out HZX.out H1X.out ?_
    intro w5 F5
    refine hK.out _ _ ((F5.out.other _ (by omega)).trans hHeld) (fun hHeld => ?_)
    clear hK K
    try simp only [Act.put, pS1, pS2, pS3]
    refine zW 6 (.bool true) rfl (Or.inl ⟨by rfl, by intro w hSw; go_simp⟩) hHeld ?_
    try simp only [Act.put, pS1, pS2, pS3]
    refine wpAnyH_done (by kernel_rfl) ?_ _
    obtain ⟨r1, r2, r3⟩ := Came3.two (W := wb.drew) ⟨HB.out.1.drew, HB.out.2⟩ F4.out F5.out
    replace r1 := hidk r1
    replace r2 := hidk r2
    replace r3 := hidk r3
    clear hHeld F4 F5 HB
    go_wp2
    refine bodyPost_ret (v := .tuple #[.agg X, .agg X, .bool true]) ?_ rfl ⟨rfl, r3.out⟩
    exact results_row_row_tmp (p1 := 10) (p2 := 11) (q := 12) (ty := 25) rfl _ _ (w.heap.size + 1) (w.heap.size + 2) 25 25 X X (0, 0) (0, 0) _ rfl rfl r1.out r2.out Tryz.underlying25 rfl HSX.out HSX.out
  · have c0 : ((len : Int) == 0) = false := by rw [beq_eq_false_iff_ne]; omega
    obtain rfl : b = false := by rw [Hb.out]; simp [h0]
    clear Hb HX hl
    go_enter Tryz.func45, Tryz.ntmps45
    go_wp2_with (first
      | (refine wpList_alloc_row rfl 25 rfl Z HA.out ?_; try simp only [Act.put, pS1, pS2, pS3])
      | fail)
    try simp only [alloc_size, Nat.add_assoc, Nat.reduceAdd]
    have HB := hidk (came3 w X Z)
    generalize ((w.alloc (.cells X 25)).alloc (.cells Z 25)).alloc (.cells Z 25) = wb at HB ⊢
    refine wp_region_held_drew (S := (fun W => W.heap[w.heap.size]? = some (.cells X 25 (0, 0)))) (by kernel_rfl) (show wb.drew.heap[w.heap.size]? = _ from HB.out.2.1) (fun hHeld => ?_)
    refine zW 0 (.agg X) rfl (yieldsIf_row (by rfl) 25 (.tmp 7) rfl w.heap.size rfl 25 X (0, 0) _ (fun _ h => h) Tryz.underlying25 rfl HSX.out) hHeld ?_
    try simp only [Act.put, pS1, pS2, pS3]
    refine zW 1 (.agg X) rfl (yieldsIf_row (by rfl) 25 (.tmp 7) rfl w.heap.size rfl 25 X (0, 0) _ (fun _ h => h) Tryz.underlying25 rfl HSX.out) hHeld ?_
    try simp only [Act.put, pS1, pS2, pS3]
    refine zW 2 (.int .i64 len) rfl (Or.inl ⟨by rfl, by intro w hSw; go_simp⟩) hHeld ?_
    try simp only [Act.put, pS1, pS2, pS3]
    refine zW 3 (.bool false) rfl (Or.inl ⟨by rfl, by intro w hSw; go_simp⟩) hHeld ?_
    try simp only [Act.put, pS1, pS2, pS3]
    refine wpAnyH_ready (rs := [4]) (by kernel_rfl) (by simp) ?_
    refine AllReadyH.cons (o := { dst := none, op := .store 25 (.tmp 10) (.tmp 30), type := 0, pos := "ref.go:45", after := #[zD 0, zP 0, { on := 1, ground := Ground.textOnly Departure.lateStores }, { on := 2, ground := Ground.textOnly Departure.lateStores }, { on := 3, ground := Ground.textOnly Departure.lateStores }], guard := none }) rfl (fun K hK => ?_) AllReadyH.nil
    refine step_set_var (by rfl) 25 (.tmp 10) (.tmp 30) rfl (w.heap.size + 1) X rfl rfl 25 Z HB.out.2.2.1 HSX.out HZX.out H1X.out ?_
    intro w4 F4
    refine hK.out _ _ ((F4.out.other _ (by omega)).trans hHeld) (fun hHeld => ?_)
    clear hK K
    try simp only [Act.put, pS1, pS2, pS3]
    refine wpAnyH_ready (rs := [5]) (by kernel_rfl) (by simp) ?_
    refine AllReadyH.cons (o := { dst := none, op := .store 25 (.tmp 11) (.tmp 31), type := 0, pos := "ref.go:45", after := #[zD 1, zC 4, zP 0, zP 1, { on := 2, ground := Ground.textOnly Departure.lateStores }, { on := 3, ground := Ground.textOnly Departure.lateStores }, zP 4], guard := none }) rfl (fun K hK => ?_) AllReadyH.nil
    refine step_set_var (by rfl) 25 (.tmp 11) (.tmp 31) rfl (w.heap.size + 2) X rfl rfl 25 Z ((F4.out.other _ (by omega)).trans HB.out.2.2.2) HSX.out HZX.out H1X.out ?_
    intro w5 F5
    refine hK.out _ _ ((F5.out.other _ (by omega)).trans hHeld) (fun hHeld => ?_)
    clear hK K
    try simp only [Act.put, pS1, pS2, pS3]
    refine zW 6 (.bool false) rfl (Or.inl ⟨by rfl, by intro w hSw; go_simp⟩) hHeld ?_
    try simp only [Act.put, pS1, pS2, pS3]
    refine wpAnyH_done (by kernel_rfl) ?_ _
    obtain ⟨r1, r2, r3⟩ := Came3.two (W := wb.drew) ⟨HB.out.1.drew, HB.out.2⟩ F4.out F5.out
    replace r1 := hidk r1
    replace r2 := hidk r2
    replace r3 := hidk r3
    clear hHeld F4 F5 HB
    go_wp2
    refine bodyPost_ret (v := .tuple #[.agg X, .agg X, .bool false]) ?_ rfl ⟨rfl, r3.out⟩
    exact results_row_row_tmp (p1 := 10) (p2 := 11) (q := 12) (ty := 25) rfl _ _ (w.heap.size + 1) (w.heap.size + 2) 25 25 X X (0, 0) (0, 0) _ rfl rfl r1.out r2.out Tryz.underlying25 rfl HSX.out HSX.out
set_option maxHeartbeats 4000000 in
theorem refBoth_none (M N : Nat) (x : List UInt8) (kn : Bool) (a : Option Addr) (len cap : Nat) (w : World) (hN : N ≤ 100000) (hMN : M ≤ N) (hl : len ≤ maxLen) (h : ¬ (M = N ∧ kn = true)) (h0 : len = 0) (hx : x.length = 32) (X : Array Value) (HX : Hid (X = (cellsOf x).toArray)) (b : Bool) (Hb : Hid (b = false)) :
    Calls Tryz.prog 45 #[.int .i64 M, .int .i64 N, .agg X, .bool kn, .slice a len cap] w fun e w' => e = .returned (.tuple #[.agg X, .agg X, .bool b]) ∧ Below w.heap.size w w' := by
  obtain ⟨Z, HZ, HA, HS, H1, H32⟩ := noughts27
  have HSX : Hid ((Tryz.prog.info? 25).map (·.size) = some X.size) := by show _ = _; rw [size23, HX.out]; simp [cellsOf_length, hx]
  have H1X : Hid (X.all (·.oneCell') = true) := by show _ = _; rw [HX.out]; exact cellsOf_all _
  have HZX : Hid (Z.size = X.size) := by show _ = _; rw [H32.out, HX.out]; simp [cellsOf_length, hx]
  have hlx : len ≤ 9223372036854775807 := by unfold maxLen at hl; omega
  subst h0
  obtain rfl : b = false := Hb.out
  clear Hb HX hl
  by_cases he : M = N
  · subst he
    obtain rfl : kn = false := by cases kn with | false => rfl | true => exact absurd ⟨rfl, rfl⟩ h
    clear h
    go_enter Tryz.func45, Tryz.ntmps45
    go_wp2_with (first
      | (refine wpList_alloc_row rfl 25 rfl Z HA.out ?_; try simp only [Act.put, pS1, pS2, pS3])
      | fail)
    try simp only [alloc_size, Nat.add_assoc, Nat.reduceAdd]
    have HB := hidk (came3 w X Z)
    generalize ((w.alloc (.cells X 25)).alloc (.cells Z 25)).alloc (.cells Z 25) = wb at HB ⊢
    refine wp_region_held_drew (S := (fun W => W.heap[w.heap.size]? = some (.cells X 25 (0, 0)))) (by kernel_rfl) (show wb.drew.heap[w.heap.size]? = _ from HB.out.2.1) (fun hHeld => ?_)
    refine zW 0 (.agg X) rfl (yieldsIf_row (by rfl) 25 (.tmp 7) rfl w.heap.size rfl 25 X (0, 0) _ (fun _ h => h) Tryz.underlying25 rfl HSX.out) hHeld ?_
    try simp only [Act.put, pS1, pS2, pS3]
    refine zW 1 (.agg X) rfl (yieldsIf_row (by rfl) 25 (.tmp 7) rfl w.heap.size rfl 25 X (0, 0) _ (fun _ h => h) Tryz.underlying25 rfl HSX.out) hHeld ?_
    try simp only [Act.put, pS1, pS2, pS3]
    refine wpAnyH_ready (rs := [2]) (by kernel_rfl) (by simp) ?_
    refine AllReadyH.cons (o := { dst := none, op := .store 25 (.tmp 10) (.tmp 36), type := 0, pos := "ref.go:48", after := #[zD 0, zP 0, { on := 1, ground := Ground.textOnly Departure.lateStores }], guard := none }) rfl (fun K hK => ?_) AllReadyH.nil
    refine step_set_var (by rfl) 25 (.tmp 10) (.tmp 36) rfl (w.heap.size + 1) X rfl rfl 25 Z HB.out.2.2.1 HSX.out HZX.out H1X.out ?_
    intro w4 F4
    refine hK.out _ _ ((F4.out.other _ (by omega)).trans hHeld) (fun hHeld => ?_)
    clear hK K
    try simp only [Act.put, pS1, pS2, pS3]
    refine wpAnyH_ready (rs := [3]) (by kernel_rfl) (by simp) ?_
    refine AllReadyH.cons (o := { dst := none, op := .store 25 (.tmp 11) (.tmp 37), type := 0, pos := "ref.go:48", after := #[zD 1, zC 2, zP 0, zP 1, zP 2], guard := none }) rfl (fun K hK => ?_) AllReadyH.nil
    refine step_set_var (by rfl) 25 (.tmp 11) (.tmp 37) rfl (w.heap.size + 2) X rfl rfl 25 Z ((F4.out.other _ (by omega)).trans HB.out.2.2.2) HSX.out HZX.out H1X.out ?_
    intro w5 F5
    refine hK.out _ _ ((F5.out.other _ (by omega)).trans hHeld) (fun hHeld => ?_)
    clear hK K
    try simp only [Act.put, pS1, pS2, pS3]
    refine zW 4 (.bool false) rfl (Or.inl ⟨by rfl, by intro w hSw; go_simp⟩) hHeld ?_
    try simp only [Act.put, pS1, pS2, pS3]
    refine wpAnyH_done (by kernel_rfl) ?_ _
    obtain ⟨r1, r2, r3⟩ := Came3.two (W := wb.drew) ⟨HB.out.1.drew, HB.out.2⟩ F4.out F5.out
    replace r1 := hidk r1
    replace r2 := hidk r2
    replace r3 := hidk r3
    clear hHeld F4 F5 HB
    go_wp2
    refine bodyPost_ret (v := .tuple #[.agg X, .agg X, .bool false]) ?_ rfl ⟨rfl, r3.out⟩
    exact results_row_row_tmp (p1 := 10) (p2 := 11) (q := 12) (ty := 25) rfl _ _ (w.heap.size + 1) (w.heap.size + 2) 25 25 X X (0, 0) (0, 0) _ rfl rfl r1.out r2.out Tryz.underlying25 rfl HSX.out HSX.out
  · have c1 : ((M : Int) == (N : Int)) = false := by rw [beq_eq_false_iff_ne]; omega
    clear h
    go_enter Tryz.func45, Tryz.ntmps45
    go_wp2_with (first
      | (refine wpList_alloc_row rfl 25 rfl Z HA.out ?_; try simp only [Act.put, pS1, pS2, pS3])
      | fail)
    try simp only [alloc_size, Nat.add_assoc, Nat.reduceAdd]
    have HB := hidk (came3 w X Z)
    generalize ((w.alloc (.cells X 25)).alloc (.cells Z 25)).alloc (.cells Z 25) = wb at HB ⊢
    refine wp_region_held_drew (S := (fun W => W.heap[w.heap.size]? = some (.cells X 25 (0, 0)))) (by kernel_rfl) (show wb.drew.heap[w.heap.size]? = _ from HB.out.2.1) (fun hHeld => ?_)
    refine zW 0 (.agg X) rfl (yieldsIf_row (by rfl) 25 (.tmp 7) rfl w.heap.size rfl 25 X (0, 0) _ (fun _ h => h) Tryz.underlying25 rfl HSX.out) hHeld ?_
    try simp only [Act.put, pS1, pS2, pS3]
    refine zW 1 (.agg X) rfl (yieldsIf_row (by rfl) 25 (.tmp 7) rfl w.heap.size rfl 25 X (0, 0) _ (fun _ h => h) Tryz.underlying25 rfl HSX.out) hHeld ?_
    try simp only [Act.put, pS1, pS2, pS3]
    refine wpAnyH_ready (rs := [2]) (by kernel_rfl) (by simp) ?_
    refine AllReadyH.cons (o := { dst := none, op := .store 25 (.tmp 10) (.tmp 36), type := 0, pos := "ref.go:48", after := #[zD 0, zP 0, { on := 1, ground := Ground.textOnly Departure.lateStores }], guard := none }) rfl (fun K hK => ?_) AllReadyH.nil
    refine step_set_var (by rfl) 25 (.tmp 10) (.tmp 36) rfl (w.heap.size + 1) X rfl rfl 25 Z HB.out.2.2.1 HSX.out HZX.out H1X.out ?_
    intro w4 F4
    refine hK.out _ _ ((F4.out.other _ (by omega)).trans hHeld) (fun hHeld => ?_)
    clear hK K
    try simp only [Act.put, pS1, pS2, pS3]
    refine wpAnyH_ready (rs := [3]) (by kernel_rfl) (by simp) ?_
    refine AllReadyH.cons (o := { dst := none, op := .store 25 (.tmp 11) (.tmp 37), type := 0, pos := "ref.go:48", after := #[zD 1, zC 2, zP 0, zP 1, zP 2], guard := none }) rfl (fun K hK => ?_) AllReadyH.nil
    refine step_set_var (by rfl) 25 (.tmp 11) (.tmp 37) rfl (w.heap.size + 2) X rfl rfl 25 Z ((F4.out.other _ (by omega)).trans HB.out.2.2.2) HSX.out HZX.out H1X.out ?_
    intro w5 F5
    refine hK.out _ _ ((F5.out.other _ (by omega)).trans hHeld) (fun hHeld => ?_)
    clear hK K
    try simp only [Act.put, pS1, pS2, pS3]
    refine zW 4 (.bool false) rfl (Or.inl ⟨by rfl, by intro w hSw; go_simp⟩) hHeld ?_
    try simp only [Act.put, pS1, pS2, pS3]
    refine wpAnyH_done (by kernel_rfl) ?_ _
    obtain ⟨r1, r2, r3⟩ := Came3.two (W := wb.drew) ⟨HB.out.1.drew, HB.out.2⟩ F4.out F5.out
    replace r1 := hidk r1
    replace r2 := hidk r2
    replace r3 := hidk r3
    clear hHeld F4 F5 HB
    go_wp2
    refine bodyPost_ret (v := .tuple #[.agg X, .agg X, .bool false]) ?_ rfl ⟨rfl, r3.out⟩
    exact results_row_row_tmp (p1 := 10) (p2 := 11) (q := 12) (ty := 25) rfl _ _ (w.heap.size + 1) (w.heap.size + 2) 25 25 X X (0, 0) (0, 0) _ rfl rfl r1.out r2.out Tryz.underlying25 rfl HSX.out HSX.out
set_option maxHeartbeats 16000000 in
theorem refBoth_any (k : Nat) : ∀ (p : List (List UInt8)) (hk : p.length = k) (M N : Nat) (x : List UInt8) (kn : Bool) (a : Option Addr) (len cap : Nat) (w : World) (hM1 : 1 ≤ M) (hMN : M ≤ N) (hN : N ≤ 100000) (hR : LReads w a len cap p) (hx : x.length = 32) (hK : Table 0 w) (X : Array Value) (HX : Hid (X = (cellsOf x).toArray))
    (FA FB : Array Value) (HFA : Hid (FA = (cellsOf (bothR p.reverse M N x kn).1).toArray)) (HFB : Hid (FB = (cellsOf (bothR p.reverse M N x kn).2.1).toArray)) (b : Bool) (Hb : Hid (b = (bothR p.reverse M N x kn).2.2)),
    Calls Tryz.prog 45 #[.int .i64 M, .int .i64 N, .agg X, .bool kn, .slice a len cap] w fun e w' => e = .returned (.tuple #[.agg FA, .agg FB, .bool b]) ∧ Below w.heap.size w w' := by
  induction k with
  | zero =>
    intro p hk M N x kn a len cap w hM1 hMN hN hR hx hK X HX FA FB HFA HFB b Hb
    have hp : p = [] := List.eq_nil_of_length_eq_zero hk
    subst hp
    have hl : len = 0 := by have := hR.1; simpa using this.symm
    subst hl
    have hA : FA = X := by rw [HFA.out, HX.out]; rfl
    have hB : FB = X := by rw [HFB.out, HX.out]; rfl
    subst hA
    subst hB
    have Hb' : b = (decide (M = N) && kn) := by rw [Hb.out]; rfl
    by_cases h : M = N ∧ kn = true
    · exact refBoth_known M N x kn a 0 cap w hN hMN (Nat.zero_le _) h.1 h.2 hx _ HX b (by show _ = _; rw [Hb', h.2]; simp [h.1])
    · refine refBoth_none M N x kn a 0 cap w hN hMN (Nat.zero_le _) h rfl hx _ HX b ?_
      show _ = _
      rw [Hb']
      cases kn with
      | false => simp
      | true => simp; exact fun e => h ⟨e, rfl⟩
  | succ m ih =>
    intro p hk M N x kn a len cap w hM1 hMN hN hR hx hK X HX FA FB HFA HFB b Hb
    have hlen := hR.1
    obtain rfl : len = m + 1 := by omega
    obtain ⟨q, d, rfl⟩ : ∃ q d, p = q ++ [d] := ⟨p.dropLast, p.getLast (by intro e; subst e; simp at hk), (List.dropLast_concat_getLast _).symm⟩
    have hqm : q.length = m := by simpa using hk
    have hr : (q ++ [d]).reverse = d :: q.reverse := by simp
    rw [hr] at HFA HFB Hb
    by_cases hkn : M = N ∧ kn = true
    · obtain ⟨rfl, rfl⟩ := hkn
      rw [bothR_known] at HFA HFB Hb
      have hA : FA = X := by rw [HFA.out, HX.out]
      have hB : FB = X := by rw [HFB.out, HX.out]
      subst hA
      subst hB
      exact refBoth_known M M x true a (m + 1) cap w hN hMN hR.2.2.2.1 rfl rfl hx _ HX b (by show _ = _; rw [Hb.out]; simp)
    · obtain ⟨g, o, rfl, hg⟩ := hR.at (by omega)
      have hq : LReads w (some ⟨g, o, none⟩) m cap q := by
        have := hR.take m (by omega)
        rwa [List.take_left' hqm] at this
      have hd32 : d.length = 32 := hR.2.1 d (by simp)
      have hqd : Digs32 q.reverse := fun z hz => hR.2.1 z (by simp at hz; simp [hz])
      have hdq : Digs32 (d :: q.reverse) := fun z hz => by
        rcases List.mem_cons.1 hz with rfl | h
        · exact hd32
        · exact hqd z h
      obtain ⟨Z, HZ, HA, HS, H1, H32⟩ := noughts27
      have HSX : Hid ((Tryz.prog.info? 25).map (·.size) = some X.size) := by show _ = _; rw [size23, HX.out]; simp [cellsOf_length, hx]
      have hfl := bothR_length sumD_length (d :: q.reverse) M N x kn hx hdq
      have HSFA : Hid ((Tryz.prog.info? 25).map (·.size) = some FA.size) := by show _ = _; rw [size23, HFA.out]; simp [cellsOf_length, hfl.1]
      have H1FA : Hid (FA.all (·.oneCell') = true) := by show _ = _; rw [HFA.out]; exact cellsOf_all _
      have HZFA : Hid (Z.size = FA.size) := by show _ = _; rw [H32.out, HFA.out]; simp [cellsOf_length, hfl.1]
      have HSFB : Hid ((Tryz.prog.info? 25).map (·.size) = some FB.size) := by show _ = _; rw [size23, HFB.out]; simp [cellsOf_length, hfl.2]
      have H1FB : Hid (FB.all (·.oneCell') = true) := by show _ = _; rw [HFB.out]; exact cellsOf_all _
      have HZFB : Hid (Z.size = FB.size) := by show _ = _; rw [H32.out, HFB.out]; simp [cellsOf_length, hfl.2]
      obtain ⟨E, HE, HSE, H1E, H32E⟩ := dig_row' d hd32
      obtain ⟨L, hL⟩ : ∃ L : List Value, E = L.toArray := ⟨E.toList, by simp⟩
      have EL : L = cellsOf d := List.toArray_inj (by rw [← hL]; exact HE.out)
      have zL : Hid ((Tryz.prog.info? 25).map (·.size) = some L.length) := by show _ = _; rw [size23, EL, cellsOf_length, hd32]
      have HRG : Hid (∀ W, Below w.heap.size w W → W.rangeAt g (o + 32 * m) L) := fun W hb => by
        have := (hR.keep hb).range m (by simp; omega)
        have e : (q ++ [d])[m]'(by simp; omega) = d := by simp [← hqm]
        rw [e] at this
        rw [EL]; exact this
      have HZE : Hid (Z.size = L.toArray.size) := by show _ = _; rw [← hL, H32.out, H32E.out]
      rw [hL] at HSE H1E HE
      have ix := fun W => index_list W g o (m + 1) cap m .i64 (by omega)
      have slc := fun W => slice_left W g o (m + 1) cap m (by have := hR.2.2.1; omega)
      have hmx : m + 1 ≤ 9223372036854775807 := by have := hR.2.2.2.1; unfold maxLen at this; omega
      have e1 := wrap_int ((m : Int) + 1 - 1) (by omega) (by omega)
      have c2 : ((m : Int) + 1 == 0) = false := by rw [beq_eq_false_iff_ne]; omega
      have HQ := hidk hq
      have HK := hidk hK
      have IHP := ih q hqm
      have HR0 := hidk (HRG.out _ (came3 w X Z).1)
      clear hq hK hR hL EL ih H32E hfl
      by_cases he : M = N
      · subst he
        obtain rfl : kn = false := by cases kn with | false => rfl | true => exact absurd ⟨rfl, rfl⟩ hkn
        rw [bothR_all] at HFA HFB Hb
        have hA : FA = L.toArray := by rw [HFA.out, HE.out]
        have hB : FB = L.toArray := by rw [HFB.out, HE.out]
        subst hA
        subst hB
        have hbm : b = decide (m = 0) := by
          rw [Hb.out]
          cases q with
          | nil => simp at hqm; subst hqm; rfl
          | cons y q => simp at hqm; subst hqm; simp
        have c3 : ((m : Int) + 1 == 1) = b := by
          rw [hbm]
          by_cases h0 : m = 0
          · subst h0; rfl
          · rw [decide_eq_false h0, beq_eq_false_iff_ne]; omega
        clear IHP HFA HFB Hb HQ HK hkn hbm HE
        go_enter Tryz.func45, Tryz.ntmps45
        go_wp2_with (first
          | (refine wpList_new_row rfl rfl 25 rfl (.tmp 14) (.tmp 42) rfl Z L.toArray HA.out (fun _ => rfl) (fun _ => rfl) HSE.out HZE.out H1E.out ?_; intro gd wb F1; try simp only [Act.put, pS1, pS2, pS3])
          | (refine wpList_load_mid rfl 25 (.tmp 41) rfl g (o + 32 * m) rfl L _ HR0.out Tryz.underlying25 rfl zL.out ?_; try simp only [Act.put, pS1, pS2, pS3])
          | (refine wpList_alloc_row rfl 25 rfl Z HA.out ?_; try simp only [Act.put, pS1, pS2, pS3]; try simp only [alloc_size, Nat.add_assoc, Nat.reduceAdd])
          | fail)
        have HB3 := hidk ((came3 w X Z).keep F1.out.2.2)
        have HL : Hid (wb.heap[gd]? = some (.cells L.toArray 25 (0, 0))) := F1.out.2.1
        have HGD : Hid (w.heap.size + 2 < gd) := by show _ < _; rw [F1.out.1]; exact heap_lt (came3 w X Z).2.2.2
        clear F1 HR0 HRG
        refine wp_region_held_drew (S := (fun W => W.heap[gd]? = some (.cells L.toArray 25 (0, 0)))) (by kernel_rfl) (show wb.drew.heap[gd]? = _ from HL.out) (fun hHeld => ?_)
        refine zW 0 (.agg L.toArray) rfl (yieldsIf_row (by rfl) 25 (.tmp 14) rfl gd rfl 25 L.toArray (0, 0) _ (fun _ h => h) Tryz.underlying25 rfl HSE.out) hHeld ?_
        try simp only [Act.put, pS1, pS2, pS3]
        refine zW 1 (.agg L.toArray) rfl (yieldsIf_row (by rfl) 25 (.tmp 14) rfl gd rfl 25 L.toArray (0, 0) _ (fun _ h => h) Tryz.underlying25 rfl HSE.out) hHeld ?_
        try simp only [Act.put, pS1, pS2, pS3]
        refine zW 2 (.int .i64 ((m : Int) + 1)) rfl (Or.inl ⟨by rfl, by intro w hSw; go_simp⟩) hHeld ?_
        try simp only [Act.put, pS1, pS2, pS3]
        refine zW 3 (.bool b) rfl (Or.inl ⟨by rfl, by intro w hSw; go_simp⟩) hHeld ?_
        try simp only [Act.put, pS1, pS2, pS3]
        refine wpAnyH_ready (rs := [4]) (by kernel_rfl) (by simp) ?_
        refine AllReadyH.cons (o := { dst := none, op := .store 25 (.tmp 10) (.tmp 46), type := 0, pos := "ref.go:52", after := #[zD 0, zP 0, { on := 1, ground := Ground.textOnly Departure.lateStores }, { on := 2, ground := Ground.textOnly Departure.lateStores }, { on := 3, ground := Ground.textOnly Departure.lateStores }], guard := none }) rfl (fun K hK => ?_) AllReadyH.nil
        refine step_set_var (by rfl) 25 (.tmp 10) (.tmp 46) rfl (w.heap.size + 1) L.toArray rfl rfl 25 Z HB3.out.2.2.1 HSE.out HZE.out H1E.out ?_
        intro w4 F4
        refine hK.out _ _ ((F4.out.other _ (by have := HGD.out; omega)).trans hHeld) (fun hHeld => ?_)
        clear hK K
        try simp only [Act.put, pS1, pS2, pS3]
        refine wpAnyH_ready (rs := [5]) (by kernel_rfl) (by simp) ?_
        refine AllReadyH.cons (o := { dst := none, op := .store 25 (.tmp 11) (.tmp 47), type := 0, pos := "ref.go:52", after := #[zD 1, zC 4, zP 0, zP 1, { on := 2, ground := Ground.textOnly Departure.lateStores }, { on := 3, ground := Ground.textOnly Departure.lateStores }, zP 4], guard := none }) rfl (fun K hK => ?_) AllReadyH.nil
        refine step_set_var (by rfl) 25 (.tmp 11) (.tmp 47) rfl (w.heap.size + 2) L.toArray rfl rfl 25 Z ((F4.out.other _ (by omega)).trans HB3.out.2.2.2) HSE.out HZE.out H1E.out ?_
        intro w5 F5
        refine hK.out _ _ ((F5.out.other _ (by have := HGD.out; omega)).trans hHeld) (fun hHeld => ?_)
        clear hK K
        try simp only [Act.put, pS1, pS2, pS3]
        refine zW 6 (.bool b) rfl (Or.inl ⟨by rfl, by intro w hSw; go_simp⟩) hHeld ?_
        try simp only [Act.put, pS1, pS2, pS3]
        refine wpAnyH_done (by kernel_rfl) ?_ _
        obtain ⟨r1, r2, r3⟩ := Came3.two (W := wb.drew) ⟨HB3.out.1.drew, HB3.out.2⟩ F4.out F5.out
        replace r1 := hidk r1
        replace r2 := hidk r2
        replace r3 := hidk r3
        clear hHeld F4 F5 HB3
        go_wp2
        refine bodyPost_ret (v := .tuple #[.agg L.toArray, .agg L.toArray, .bool b]) ?_ rfl ⟨rfl, r3.out⟩
        exact results_row_row_tmp (p1 := 10) (p2 := 11) (q := 12) (ty := 25) rfl _ _ (w.heap.size + 1) (w.heap.size + 2) 25 25 L.toArray L.toArray (0, 0) (0, 0) _ rfl rfl r1.out r2.out Tryz.underlying25 rfl HSE.out HSE.out
      · have s1 := split_lt N (by omega)
        have s2 := split_pos N (by omega)
        have SP : Hid (∀ W, Calls Tryz.prog 70 #[.int .i64 N] W fun e w' => e = .returned (.int .i64 (split N)) ∧ W = w') := fun W => by
          have := refSplit_any N W (by omega)
          rwa [Int.toNat_natCast] at this
        have c1 : ((M : Int) == (N : Int)) = false := by rw [beq_eq_false_iff_ne]; omega
        obtain ⟨s, HSs⟩ : ∃ s, Hid (s = split N) := ⟨_, (rfl : split N = _)⟩
        rw [← HSs.out] at SP s1 s2
        obtain ⟨b1, Hb1⟩ : ∃ b1, Hid (b1 = b) := ⟨_, (rfl : b = _)⟩
        by_cases hlt : M ≤ s
        · rw [bothR_left d q.reverse M N x kn he (by rw [← HSs.out]; exact hlt), ← HSs.out] at HFA HFB Hb
          have hyl := bothR_length sumD_length q.reverse M s x kn hx hqd
          obtain ⟨A1, HA1, HSA, H1A, H32A⟩ := dig_row' (bothR q.reverse M s x kn).1 hyl.1
          obtain ⟨B1, HB1, HSB, H1B, H32B⟩ := dig_row' (bothR q.reverse M s x kn).2.1 hyl.2
          have HZA : Hid (Z.size = A1.size) := by show _ = _; rw [H32.out, H32A.out]
          have HZB : Hid (Z.size = B1.size) := by show _ = _; rw [H32.out, H32B.out]
          have HFA1 : Hid (FA = A1) := by show _ = _; rw [HFA.out, HA1.out]
          have IH : Hid (∀ W, Below w.heap.size w W → Calls Tryz.prog 45 #[.int .i64 M, .int .i64 s, .agg X, .bool kn, .slice (some ⟨g, o, none⟩) m cap] W fun e w' => e = .returned (.tuple #[.agg A1, .agg B1, .bool b1]) ∧ Below W.heap.size W w') := fun W hb =>
            IHP M s x kn _ m cap W hM1 hlt (by omega) (HQ.out.keep hb) hx (HK.out.keep hb) X HX A1 B1 HA1 HB1 b1 (by show _ = _; rw [Hb1.out, Hb.out])
          have KB : Hid (∀ W, Below w.heap.size w W → Calls Tryz.prog 71 #[.agg B1, .agg L.toArray] W fun e w' => e = .returned (.agg FB) ∧ Below W.heap.size W w') := fun W hb => by
            rw [HB1.out, HE.out]
            exact refKnot_any _ _ hyl.2 hd32 W (HK.out.keep hb) FB (by show _ = _; rw [HFB.out]; rfl)
          have hdi : decide ((M : Int) ≤ (s : Int)) = true := by rw [decide_eq_true_eq]; omega
          clear IHP HFA HFB Hb HK HQ HSs HA1 HB1 hyl H32A H32B hkn
          go_enter Tryz.func45, Tryz.ntmps45
          go_wp2_with (first
            | (refine wpList_new_row rfl rfl 25 rfl (.tmp 14) (.tmp 42) rfl Z L.toArray HA.out (fun _ => rfl) (fun _ => rfl) HSE.out HZE.out H1E.out ?_; intro gd wb F1; try simp only [Act.put, pS1, pS2, pS3])
            | (refine wpList_load_mid rfl 25 (.tmp 41) rfl g (o + 32 * m) rfl L _ HR0.out Tryz.underlying25 rfl zL.out ?_; try simp only [Act.put, pS1, pS2, pS3])
            | (refine wpList_alloc_row rfl 25 rfl Z HA.out ?_; try simp only [Act.put, pS1, pS2, pS3]; try simp only [alloc_size, Nat.add_assoc, Nat.reduceAdd])
            | fail)
          have HB3 := hidk ((came3 w X Z).keep F1.out.2.2)
          have HL : Hid (wb.heap[gd]? = some (.cells L.toArray 25 (0, 0))) := F1.out.2.1
          have HGD : Hid (w.heap.size + 2 < gd) := by show _ < _; rw [F1.out.1]; exact heap_lt (came3 w X Z).2.2.2
          clear F1 HR0 HRG
          go_wp2_with fail
          refine (SP.out _).mono ?_
          rintro e w1 ⟨rfl, rfl⟩
          clear SP
          go_wp2
          have HBW : Hid (Below wb.heap.size wb wb.drew) := (Below.refl _ _).drew
          refine wp_region_held_drew (S := (fun W => W.heap[w.heap.size]? = some (.cells X 25 (0, 0)))) (by kernel_rfl) (show wb.drew.heap[w.heap.size]? = _ from HB3.out.2.1) (fun hHeld => ?_)
          refine zX 0 (.int .i64 M) rfl hHeld ?_
          try simp only [Act.put, pS1, pS2, pS3]
          refine zX 1 (.int .i64 s) rfl hHeld ?_
          try simp only [Act.put, pS1, pS2, pS3]
          refine zW 2 (.agg X) rfl (yieldsIf_row (by rfl) 25 (.tmp 7) rfl w.heap.size rfl 25 X (0, 0) _ (fun _ h => h) Tryz.underlying25 rfl HSX.out) hHeld ?_
          try simp only [Act.put, pS1, pS2, pS3]
          refine zX 3 (.bool kn) rfl hHeld ?_
          try simp only [Act.put, pS1, pS2, pS3]
          refine zX 4 (.slice (some ⟨g, o, none⟩) (m + 1) cap) rfl hHeld ?_
          try simp only [Act.put, pS1, pS2, pS3]
          refine zX 5 (.int .i64 ((m : Int) + 1)) rfl hHeld ?_
          try simp only [Act.put, pS1, pS2, pS3]
          refine zW 6 (.int .i64 m) rfl (Or.inl ⟨by rfl, by intro W hSw; go_simp; exact wrap_int _ (by omega) (by omega)⟩) hHeld ?_
          try simp only [Act.put, pS1, pS2, pS3]
          refine zW 7 (.slice (some ⟨g, o, none⟩) m cap) rfl (Or.inl ⟨by rfl, by intro W hSw; have := slc W; go_simp⟩) hHeld ?_
          try simp only [Act.put, pS1, pS2, pS3]
          refine wpAnyH_ready (rs := [8, 13, 14]) (by kernel_rfl) (by simp) ?_
          refine (AllReadyH.cons (o := { dst := some 64, op := .call { callee := .value (.func 45), args := #[.tmp 56, .tmp 57, .tmp 58, .tmp 59, .tmp 63], argTypes := #[3, 3, 25, 4, 30] }, type := 80, pos := "ref.go:56", after := #[zD 0, zD 1, zD 2, zD 3, zD 7], guard := none }) rfl (fun K hK => ?_) (AllReadyH.cons (o := { dst := some 16, op := .alloc 25, type := 0, pos := "ref.go:56", after := #[], guard := none }) rfl (fun K hK => ?_) (AllReadyH.cons (o := { dst := some 17, op := .alloc 25, type := 0, pos := "ref.go:56", after := #[], guard := none }) rfl (fun K hK => ?_) AllReadyH.nil)))
          · go_simp
            refine (IH.out _ (HB3.out.1.trans (HBW.out.mono HB3.out.1.size))).mono ?_
            rintro e w8 ⟨rfl, hbc⟩
            try replace V1 := hidk (And.intro V1.out.1 ((hbc.block _ (heap_lt V1.out.2)).trans V1.out.2))
            try replace V2 := hidk (And.intro V2.out.1 ((hbc.block _ (heap_lt V2.out.2)).trans V2.out.2))
            replace HBW := hidk (HBW.out.trans (hbc.mono HBW.out.size))
            go_wp2_with fail
            refine hK.out _ _ ((hbc.block _ (heap_lt hHeld)).trans hHeld) (fun hHeld => ?_)
            clear hK K
            try simp only [Act.put, pS1, pS2, pS3]
            refine zX 9 (.tuple #[.agg A1, .agg B1, .bool b1]) rfl hHeld ?_
            try simp only [Act.put, pS1, pS2, pS3]
            refine zX 10 (.agg A1) rfl hHeld ?_
            try simp only [Act.put, pS1, pS2, pS3]
            refine zX 11 (.agg B1) rfl hHeld ?_
            try simp only [Act.put, pS1, pS2, pS3]
            refine zX 12 (.bool b1) rfl hHeld ?_
            try simp only [Act.put, pS1, pS2, pS3]
            refine wpAnyH_ready (rs := [13, 14]) (by kernel_rfl) (by simp) ?_
            refine (AllReadyH.cons (o := { dst := some 16, op := .alloc 25, type := 0, pos := "ref.go:56", after := #[], guard := none }) rfl (fun K hK => ?_) (AllReadyH.cons (o := { dst := some 17, op := .alloc 25, type := 0, pos := "ref.go:56", after := #[], guard := none }) rfl (fun K hK => ?_) AllReadyH.nil))
            · refine step_new_var (by rfl) 25 rfl Z HA.out ?_
              intro g1 w13 F13
              try have NE : Hid (g1 ≠ g2) := (by show _ ≠ _; rw [F13.out.new]; exact (Nat.ne_of_lt (heap_lt V2.out.2)).symm)
              try replace V2 := hidk (And.intro V2.out.1 ((F13.out.below.block _ (heap_lt V2.out.2)).trans V2.out.2))
              have V1 : Hid (wb.heap.size ≤ g1 ∧ w13.heap[g1]? = some (.cells Z 25 (0, 0))) := ⟨by rw [F13.out.new]; exact HBW.out.size, F13.out.row⟩
              replace HBW := hidk (HBW.out.trans (F13.out.below.mono HBW.out.size))
              refine hK.out _ _ ((F13.out.below.block _ (heap_lt hHeld)).trans hHeld) (fun hHeld => ?_)
              clear hK K
              try simp only [Act.put, pS1, pS2, pS3]
              refine wpAnyH_ready (rs := [14]) (by kernel_rfl) (by simp) ?_
              refine (AllReadyH.cons (o := { dst := some 17, op := .alloc 25, type := 0, pos := "ref.go:56", after := #[], guard := none }) rfl (fun K hK => ?_) AllReadyH.nil)
              refine step_new_var (by rfl) 25 rfl Z HA.out ?_
              intro g2 w14 F14
              try have NE : Hid (g1 ≠ g2) := (by show _ ≠ _; rw [F14.out.new]; exact Nat.ne_of_lt (heap_lt V1.out.2))
              try replace V1 := hidk (And.intro V1.out.1 ((F14.out.below.block _ (heap_lt V1.out.2)).trans V1.out.2))
              have V2 : Hid (wb.heap.size ≤ g2 ∧ w14.heap[g2]? = some (.cells Z 25 (0, 0))) := ⟨by rw [F14.out.new]; exact HBW.out.size, F14.out.row⟩
              replace HBW := hidk (HBW.out.trans (F14.out.below.mono HBW.out.size))
              refine hK.out _ _ ((F14.out.below.block _ (heap_lt hHeld)).trans hHeld) (fun hHeld => ?_)
              clear hK K
              try simp only [Act.put, pS1, pS2, pS3]
              refine wpAnyH_ready (rs := [15]) (by kernel_rfl) (by simp) ?_
              refine (AllReadyH.cons (o := { dst := none, op := .store 25 (.tmp 16) (.tmp 65), type := 0, pos := "ref.go:56", after := #[zD 13, zD 10, zC 8, zP 0, zP 1, zP 2, zP 3, zP 4, zP 5, zP 6, zP 7, zP 8, zP 9, zP 10, { on := 11, ground := Ground.textOnly Departure.lateStores }, { on := 12, ground := Ground.textOnly Departure.lateStores }, zP 13, zP 14], guard := none }) rfl (fun K hK => ?_) AllReadyH.nil)
              refine step_set_var (by rfl) 25 (.tmp 16) (.tmp 65) rfl g1 A1 rfl rfl 25 Z V1.out.2 HSA.out HZA.out H1A.out ?_
              intro w15 F15
              replace V2 := hidk (And.intro V2.out.1 ((F15.out.other _ (Ne.symm NE.out)).trans V2.out.2))
              replace HBW := hidk (F15.out.below _ _ HBW.out V1.out.1)
              refine hK.out _ _ ((F15.out.other _ (by have := V1.out.1; have := heap_lt HB3.out.2.1; omega)).trans hHeld) (fun hHeld => ?_)
              clear hK K
              try simp only [Act.put, pS1, pS2, pS3]
              refine wpAnyH_ready (rs := [16]) (by kernel_rfl) (by simp) ?_
              refine (AllReadyH.cons (o := { dst := none, op := .store 25 (.tmp 17) (.tmp 66), type := 0, pos := "ref.go:56", after := #[zD 14, zD 11, zC 15, zP 0, zP 1, zP 2, zP 3, zP 4, zP 5, zP 6, zP 7, zP 8, zP 9, zP 10, zP 11, { on := 12, ground := Ground.textOnly Departure.lateStores }, zP 13, zP 14, zP 15], guard := none }) rfl (fun K hK => ?_) AllReadyH.nil)
              refine step_set_var (by rfl) 25 (.tmp 17) (.tmp 66) rfl g2 B1 rfl rfl 25 Z V2.out.2 HSB.out HZB.out H1B.out ?_
              intro w16 F16
              have R1 : Hid (w16.heap[g1]? = some (.cells A1 25 (0, 0))) := (F16.out.other _ NE.out).trans F15.out.row
              have R2 : Hid (w16.heap[g2]? = some (.cells B1 25 (0, 0))) := F16.out.row
              replace HBW := hidk (F16.out.below _ _ HBW.out V2.out.1)
              refine hK.out _ _ ((F16.out.other _ (by have := V2.out.1; have := heap_lt HB3.out.2.1; omega)).trans hHeld) (fun hHeld => ?_)
              clear hK K
              try simp only [Act.put, pS1, pS2, pS3]
              refine zX 17 (.bool b1) rfl hHeld ?_
              try simp only [Act.put, pS1, pS2, pS3]
              refine wpAnyH_done (by kernel_rfl) ?_ _
              have HB5 := hidk (HB3.out.keep HBW.out)
              have HL5 : Hid (w16.heap[gd]? = some (.cells L.toArray 25 (0, 0))) := (HBW.out.block _ (heap_lt HL.out)).trans HL.out
              have G1 : w.heap.size + 2 < g1 := Nat.lt_of_lt_of_le (heap_lt HB3.out.2.2.2) V1.out.1
              have G2 : w.heap.size + 2 < g2 := Nat.lt_of_lt_of_le (heap_lt HB3.out.2.2.2) V2.out.1
              have G3 : w.heap.size + 2 < gd := HGD.out
              have hS : w16.drew.heap[g1]? = some (.cells A1 25 (0, 0)) ∧ w16.drew.heap[g2]? = some (.cells B1 25 (0, 0)) ∧ w16.drew.heap[gd]? = some (.cells L.toArray 25 (0, 0)) := ⟨R1.out, R2.out, HL5.out⟩
              have HB6 : Hid (Came3 w w16.drew X Z) := ⟨HB5.out.1.drew, HB5.out.2⟩
              clear hHeld HB3 HL IH HBW V1 V2 NE R1 R2 HL5 HB5 HGD
              go_wp2
              refine wp_region_held_drew (S := (fun W => W.heap[g1]? = some (.cells A1 25 (0, 0)) ∧ W.heap[g2]? = some (.cells B1 25 (0, 0)) ∧ W.heap[gd]? = some (.cells L.toArray 25 (0, 0)))) (by kernel_rfl) hS (fun hHeld => ?_)
              refine zW 0 (.agg A1) rfl (yieldsIf_row (by rfl) 25 (.tmp 16) rfl g1 rfl 25 A1 (0, 0) _ (fun _ h => h.1) Tryz.underlying25 rfl HSA.out) hHeld ?_
              try simp only [Act.put, pS1, pS2, pS3]
              refine zW 1 (.agg B1) rfl (yieldsIf_row (by rfl) 25 (.tmp 17) rfl g2 rfl 25 B1 (0, 0) _ (fun _ h => h.2.1) Tryz.underlying25 rfl HSB.out) hHeld ?_
              try simp only [Act.put, pS1, pS2, pS3]
              refine zW 2 (.agg L.toArray) rfl (yieldsIf_row (by rfl) 25 (.tmp 14) rfl gd rfl 25 L.toArray (0, 0) _ (fun _ h => h.2.2) Tryz.underlying25 rfl HSE.out) hHeld ?_
              try simp only [Act.put, pS1, pS2, pS3]
              refine zW 4 (.bool b1) rfl (Or.inl ⟨by rfl, by intro w hSw; go_simp⟩) hHeld ?_
              try simp only [Act.put, pS1, pS2, pS3]
              refine wpAnyH_ready (rs := [3]) (by kernel_rfl) (by simp) ?_
              refine AllReadyH.cons (o := { dst := some 71, op := .call { callee := .value (.func 71), args := #[.tmp 69, .tmp 70], argTypes := #[25, 25] }, type := 25, pos := "ref.go:57", after := #[zD 1, zD 2], guard := none }) rfl (fun K hK => ?_) AllReadyH.nil
              go_simp
              refine (KB.out _ HB6.out.1).mono ?_
              rintro e wk ⟨rfl, hbk⟩
              have HB7 := hidk (HB6.out.keep hbk)
              go_wp2_with fail
              refine hK.out _ _ ⟨(hbk.block _ (heap_lt hHeld.1)).trans hHeld.1, (hbk.block _ (heap_lt hHeld.2.1)).trans hHeld.2.1, (hbk.block _ (heap_lt hHeld.2.2)).trans hHeld.2.2⟩ (fun hHeld => ?_)
              clear hK K
              try simp only [Act.put, pS1, pS2, pS3]
              refine wpAnyH_ready (rs := [5]) (by kernel_rfl) (by simp) ?_
              refine AllReadyH.cons (o := { dst := none, op := .store 25 (.tmp 10) (.tmp 68), type := 0, pos := "ref.go:57", after := #[zD 0, zC 3, zP 0, { on := 1, ground := Ground.textOnly Departure.lateStores }, { on := 2, ground := Ground.textOnly Departure.lateStores }, { on := 3, ground := Ground.textOnly Departure.lateStoresUnsure }, { on := 4, ground := Ground.textOnly Departure.lateStores }], guard := none }) rfl (fun K hK => ?_) AllReadyH.nil
              refine step_set_var (by rfl) 25 (.tmp 10) (.tmp 68) rfl (w.heap.size + 1) A1 rfl rfl 25 Z HB7.out.2.2.1 HSA.out HZA.out H1A.out ?_
              intro wx Fx
              refine hK.out _ _ ⟨(Fx.out.other _ (by omega)).trans hHeld.1, (Fx.out.other _ (by omega)).trans hHeld.2.1, (Fx.out.other _ (by omega)).trans hHeld.2.2⟩ (fun hHeld => ?_)
              clear hK K
              try simp only [Act.put, pS1, pS2, pS3]
              refine wpAnyH_ready (rs := [6]) (by kernel_rfl) (by simp) ?_
              refine AllReadyH.cons (o := { dst := none, op := .store 25 (.tmp 11) (.tmp 71), type := 0, pos := "ref.go:57", after := #[zD 3, zC 5, zP 0, zP 1, zP 2, zP 3, { on := 4, ground := Ground.textOnly Departure.lateStores }, zP 5], guard := none }) rfl (fun K hK => ?_) AllReadyH.nil
              refine step_set_var (by rfl) 25 (.tmp 11) (.tmp 71) rfl (w.heap.size + 2) FB rfl rfl 25 Z ((Fx.out.other _ (by omega)).trans HB7.out.2.2.2) HSFB.out HZFB.out H1FB.out ?_
              intro wy Fy
              refine hK.out _ _ ⟨(Fy.out.other _ (by omega)).trans hHeld.1, (Fy.out.other _ (by omega)).trans hHeld.2.1, (Fy.out.other _ (by omega)).trans hHeld.2.2⟩ (fun hHeld => ?_)
              clear hK K
              try simp only [Act.put, pS1, pS2, pS3]
              refine zW 7 (.bool b1) rfl (Or.inl ⟨by rfl, by intro w hSw; go_simp⟩) hHeld ?_
              try simp only [Act.put, pS1, pS2, pS3]
              refine wpAnyH_done (by kernel_rfl) ?_ _
              obtain ⟨r1, r2, r3⟩ := Came3.two HB7.out Fx.out Fy.out
              replace r1 := hidk r1
              replace r2 := hidk r2
              replace r3 := hidk r3
              clear hHeld Fx Fy HB7 HB6
              go_wp2
              refine bodyPost_ret (v := .tuple #[.agg A1, .agg FB, .bool b1]) ?_ rfl ⟨by rw [Hb1.out, HFA1.out], r3.out⟩
              exact results_row_row_tmp (p1 := 10) (p2 := 11) (q := 12) (ty := 25) rfl _ _ (w.heap.size + 1) (w.heap.size + 2) 25 25 A1 FB (0, 0) (0, 0) _ rfl rfl r1.out r2.out Tryz.underlying25 rfl HSA.out HSFB.out
            · refine step_new_var (by rfl) 25 rfl Z HA.out ?_
              intro g2 w14 F14
              try have NE : Hid (g1 ≠ g2) := (by show _ ≠ _; rw [F14.out.new]; exact Nat.ne_of_lt (heap_lt V1.out.2))
              try replace V1 := hidk (And.intro V1.out.1 ((F14.out.below.block _ (heap_lt V1.out.2)).trans V1.out.2))
              have V2 : Hid (wb.heap.size ≤ g2 ∧ w14.heap[g2]? = some (.cells Z 25 (0, 0))) := ⟨by rw [F14.out.new]; exact HBW.out.size, F14.out.row⟩
              replace HBW := hidk (HBW.out.trans (F14.out.below.mono HBW.out.size))
              refine hK.out _ _ ((F14.out.below.block _ (heap_lt hHeld)).trans hHeld) (fun hHeld => ?_)
              clear hK K
              try simp only [Act.put, pS1, pS2, pS3]
              refine wpAnyH_ready (rs := [13]) (by kernel_rfl) (by simp) ?_
              refine (AllReadyH.cons (o := { dst := some 16, op := .alloc 25, type := 0, pos := "ref.go:56", after := #[], guard := none }) rfl (fun K hK => ?_) AllReadyH.nil)
              refine step_new_var (by rfl) 25 rfl Z HA.out ?_
              intro g1 w13 F13
              try have NE : Hid (g1 ≠ g2) := (by show _ ≠ _; rw [F13.out.new]; exact (Nat.ne_of_lt (heap_lt V2.out.2)).symm)
              try replace V2 := hidk (And.intro V2.out.1 ((F13.out.below.block _ (heap_lt V2.out.2)).trans V2.out.2))
              have V1 : Hid (wb.heap.size ≤ g1 ∧ w13.heap[g1]? = some (.cells Z 25 (0, 0))) := ⟨by rw [F13.out.new]; exact HBW.out.size, F13.out.row⟩
              replace HBW := hidk (HBW.out.trans (F13.out.below.mono HBW.out.size))
              refine hK.out _ _ ((F13.out.below.block _ (heap_lt hHeld)).trans hHeld) (fun hHeld => ?_)
              clear hK K
              try simp only [Act.put, pS1, pS2, pS3]
              refine wpAnyH_ready (rs := [15]) (by kernel_rfl) (by simp) ?_
              refine (AllReadyH.cons (o := { dst := none, op := .store 25 (.tmp 16) (.tmp 65), type := 0, pos := "ref.go:56", after := #[zD 13, zD 10, zC 8, zP 0, zP 1, zP 2, zP 3, zP 4, zP 5, zP 6, zP 7, zP 8, zP 9, zP 10, { on := 11, ground := Ground.textOnly Departure.lateStores }, { on := 12, ground := Ground.textOnly Departure.lateStores }, zP 13, zP 14], guard := none }) rfl (fun K hK => ?_) AllReadyH.nil)
              refine step_set_var (by rfl) 25 (.tmp 16) (.tmp 65) rfl g1 A1 rfl rfl 25 Z V1.out.2 HSA.out HZA.out H1A.out ?_
              intro w15 F15
              replace V2 := hidk (And.intro V2.out.1 ((F15.out.other _ (Ne.symm NE.out)).trans V2.out.2))
              replace HBW := hidk (F15.out.below _ _ HBW.out V1.out.1)
              refine hK.out _ _ ((F15.out.other _ (by have := V1.out.1; have := heap_lt HB3.out.2.1; omega)).trans hHeld) (fun hHeld => ?_)
              clear hK K
              try simp only [Act.put, pS1, pS2, pS3]
              refine wpAnyH_ready (rs := [16]) (by kernel_rfl) (by simp) ?_
              refine (AllReadyH.cons (o := { dst := none, op := .store 25 (.tmp 17) (.tmp 66), type := 0, pos := "ref.go:56", after := #[zD 14, zD 11, zC 15, zP 0, zP 1, zP 2, zP 3, zP 4, zP 5, zP 6, zP 7, zP 8, zP 9, zP 10, zP 11, { on := 12, ground := Ground.textOnly Departure.lateStores }, zP 13, zP 14, zP 15], guard := none }) rfl (fun K hK => ?_) AllReadyH.nil)
              refine step_set_var (by rfl) 25 (.tmp 17) (.tmp 66) rfl g2 B1 rfl rfl 25 Z V2.out.2 HSB.out HZB.out H1B.out ?_
              intro w16 F16
              have R1 : Hid (w16.heap[g1]? = some (.cells A1 25 (0, 0))) := (F16.out.other _ NE.out).trans F15.out.row
              have R2 : Hid (w16.heap[g2]? = some (.cells B1 25 (0, 0))) := F16.out.row
              replace HBW := hidk (F16.out.below _ _ HBW.out V2.out.1)
              refine hK.out _ _ ((F16.out.other _ (by have := V2.out.1; have := heap_lt HB3.out.2.1; omega)).trans hHeld) (fun hHeld => ?_)
              clear hK K
              try simp only [Act.put, pS1, pS2, pS3]
              refine zX 17 (.bool b1) rfl hHeld ?_
              try simp only [Act.put, pS1, pS2, pS3]
              refine wpAnyH_done (by kernel_rfl) ?_ _
              have HB5 := hidk (HB3.out.keep HBW.out)
              have HL5 : Hid (w16.heap[gd]? = some (.cells L.toArray 25 (0, 0))) := (HBW.out.block _ (heap_lt HL.out)).trans HL.out
              have G1 : w.heap.size + 2 < g1 := Nat.lt_of_lt_of_le (heap_lt HB3.out.2.2.2) V1.out.1
              have G2 : w.heap.size + 2 < g2 := Nat.lt_of_lt_of_le (heap_lt HB3.out.2.2.2) V2.out.1
              have G3 : w.heap.size + 2 < gd := HGD.out
              have hS : w16.drew.heap[g1]? = some (.cells A1 25 (0, 0)) ∧ w16.drew.heap[g2]? = some (.cells B1 25 (0, 0)) ∧ w16.drew.heap[gd]? = some (.cells L.toArray 25 (0, 0)) := ⟨R1.out, R2.out, HL5.out⟩
              have HB6 : Hid (Came3 w w16.drew X Z) := ⟨HB5.out.1.drew, HB5.out.2⟩
              clear hHeld HB3 HL IH HBW V1 V2 NE R1 R2 HL5 HB5 HGD
              go_wp2
              refine wp_region_held_drew (S := (fun W => W.heap[g1]? = some (.cells A1 25 (0, 0)) ∧ W.heap[g2]? = some (.cells B1 25 (0, 0)) ∧ W.heap[gd]? = some (.cells L.toArray 25 (0, 0)))) (by kernel_rfl) hS (fun hHeld => ?_)
              refine zW 0 (.agg A1) rfl (yieldsIf_row (by rfl) 25 (.tmp 16) rfl g1 rfl 25 A1 (0, 0) _ (fun _ h => h.1) Tryz.underlying25 rfl HSA.out) hHeld ?_
              try simp only [Act.put, pS1, pS2, pS3]
              refine zW 1 (.agg B1) rfl (yieldsIf_row (by rfl) 25 (.tmp 17) rfl g2 rfl 25 B1 (0, 0) _ (fun _ h => h.2.1) Tryz.underlying25 rfl HSB.out) hHeld ?_
              try simp only [Act.put, pS1, pS2, pS3]
              refine zW 2 (.agg L.toArray) rfl (yieldsIf_row (by rfl) 25 (.tmp 14) rfl gd rfl 25 L.toArray (0, 0) _ (fun _ h => h.2.2) Tryz.underlying25 rfl HSE.out) hHeld ?_
              try simp only [Act.put, pS1, pS2, pS3]
              refine zW 4 (.bool b1) rfl (Or.inl ⟨by rfl, by intro w hSw; go_simp⟩) hHeld ?_
              try simp only [Act.put, pS1, pS2, pS3]
              refine wpAnyH_ready (rs := [3]) (by kernel_rfl) (by simp) ?_
              refine AllReadyH.cons (o := { dst := some 71, op := .call { callee := .value (.func 71), args := #[.tmp 69, .tmp 70], argTypes := #[25, 25] }, type := 25, pos := "ref.go:57", after := #[zD 1, zD 2], guard := none }) rfl (fun K hK => ?_) AllReadyH.nil
              go_simp
              refine (KB.out _ HB6.out.1).mono ?_
              rintro e wk ⟨rfl, hbk⟩
              have HB7 := hidk (HB6.out.keep hbk)
              go_wp2_with fail
              refine hK.out _ _ ⟨(hbk.block _ (heap_lt hHeld.1)).trans hHeld.1, (hbk.block _ (heap_lt hHeld.2.1)).trans hHeld.2.1, (hbk.block _ (heap_lt hHeld.2.2)).trans hHeld.2.2⟩ (fun hHeld => ?_)
              clear hK K
              try simp only [Act.put, pS1, pS2, pS3]
              refine wpAnyH_ready (rs := [5]) (by kernel_rfl) (by simp) ?_
              refine AllReadyH.cons (o := { dst := none, op := .store 25 (.tmp 10) (.tmp 68), type := 0, pos := "ref.go:57", after := #[zD 0, zC 3, zP 0, { on := 1, ground := Ground.textOnly Departure.lateStores }, { on := 2, ground := Ground.textOnly Departure.lateStores }, { on := 3, ground := Ground.textOnly Departure.lateStoresUnsure }, { on := 4, ground := Ground.textOnly Departure.lateStores }], guard := none }) rfl (fun K hK => ?_) AllReadyH.nil
              refine step_set_var (by rfl) 25 (.tmp 10) (.tmp 68) rfl (w.heap.size + 1) A1 rfl rfl 25 Z HB7.out.2.2.1 HSA.out HZA.out H1A.out ?_
              intro wx Fx
              refine hK.out _ _ ⟨(Fx.out.other _ (by omega)).trans hHeld.1, (Fx.out.other _ (by omega)).trans hHeld.2.1, (Fx.out.other _ (by omega)).trans hHeld.2.2⟩ (fun hHeld => ?_)
              clear hK K
              try simp only [Act.put, pS1, pS2, pS3]
              refine wpAnyH_ready (rs := [6]) (by kernel_rfl) (by simp) ?_
              refine AllReadyH.cons (o := { dst := none, op := .store 25 (.tmp 11) (.tmp 71), type := 0, pos := "ref.go:57", after := #[zD 3, zC 5, zP 0, zP 1, zP 2, zP 3, { on := 4, ground := Ground.textOnly Departure.lateStores }, zP 5], guard := none }) rfl (fun K hK => ?_) AllReadyH.nil
              refine step_set_var (by rfl) 25 (.tmp 11) (.tmp 71) rfl (w.heap.size + 2) FB rfl rfl 25 Z ((Fx.out.other _ (by omega)).trans HB7.out.2.2.2) HSFB.out HZFB.out H1FB.out ?_
              intro wy Fy
              refine hK.out _ _ ⟨(Fy.out.other _ (by omega)).trans hHeld.1, (Fy.out.other _ (by omega)).trans hHeld.2.1, (Fy.out.other _ (by omega)).trans hHeld.2.2⟩ (fun hHeld => ?_)
              clear hK K
              try simp only [Act.put, pS1, pS2, pS3]
              refine zW 7 (.bool b1) rfl (Or.inl ⟨by rfl, by intro w hSw; go_simp⟩) hHeld ?_
              try simp only [Act.put, pS1, pS2, pS3]
              refine wpAnyH_done (by kernel_rfl) ?_ _
              obtain ⟨r1, r2, r3⟩ := Came3.two HB7.out Fx.out Fy.out
              replace r1 := hidk r1
              replace r2 := hidk r2
              replace r3 := hidk r3
              clear hHeld Fx Fy HB7 HB6
              go_wp2
              refine bodyPost_ret (v := .tuple #[.agg A1, .agg FB, .bool b1]) ?_ rfl ⟨by rw [Hb1.out, HFA1.out], r3.out⟩
              exact results_row_row_tmp (p1 := 10) (p2 := 11) (q := 12) (ty := 25) rfl _ _ (w.heap.size + 1) (w.heap.size + 2) 25 25 A1 FB (0, 0) (0, 0) _ rfl rfl r1.out r2.out Tryz.underlying25 rfl HSA.out HSFB.out
          · refine step_new_var (by rfl) 25 rfl Z HA.out ?_
            intro g1 w13 F13
            try have NE : Hid (g1 ≠ g2) := (by show _ ≠ _; rw [F13.out.new]; exact (Nat.ne_of_lt (heap_lt V2.out.2)).symm)
            try replace V2 := hidk (And.intro V2.out.1 ((F13.out.below.block _ (heap_lt V2.out.2)).trans V2.out.2))
            have V1 : Hid (wb.heap.size ≤ g1 ∧ w13.heap[g1]? = some (.cells Z 25 (0, 0))) := ⟨by rw [F13.out.new]; exact HBW.out.size, F13.out.row⟩
            replace HBW := hidk (HBW.out.trans (F13.out.below.mono HBW.out.size))
            refine hK.out _ _ ((F13.out.below.block _ (heap_lt hHeld)).trans hHeld) (fun hHeld => ?_)
            clear hK K
            try simp only [Act.put, pS1, pS2, pS3]
            refine wpAnyH_ready (rs := [8, 14]) (by kernel_rfl) (by simp) ?_
            refine (AllReadyH.cons (o := { dst := some 64, op := .call { callee := .value (.func 45), args := #[.tmp 56, .tmp 57, .tmp 58, .tmp 59, .tmp 63], argTypes := #[3, 3, 25, 4, 30] }, type := 80, pos := "ref.go:56", after := #[zD 0, zD 1, zD 2, zD 3, zD 7], guard := none }) rfl (fun K hK => ?_) (AllReadyH.cons (o := { dst := some 17, op := .alloc 25, type := 0, pos := "ref.go:56", after := #[], guard := none }) rfl (fun K hK => ?_) AllReadyH.nil))
            · go_simp
              refine (IH.out _ (HB3.out.1.trans (HBW.out.mono HB3.out.1.size))).mono ?_
              rintro e w8 ⟨rfl, hbc⟩
              try replace V1 := hidk (And.intro V1.out.1 ((hbc.block _ (heap_lt V1.out.2)).trans V1.out.2))
              try replace V2 := hidk (And.intro V2.out.1 ((hbc.block _ (heap_lt V2.out.2)).trans V2.out.2))
              replace HBW := hidk (HBW.out.trans (hbc.mono HBW.out.size))
              go_wp2_with fail
              refine hK.out _ _ ((hbc.block _ (heap_lt hHeld)).trans hHeld) (fun hHeld => ?_)
              clear hK K
              try simp only [Act.put, pS1, pS2, pS3]
              refine zX 9 (.tuple #[.agg A1, .agg B1, .bool b1]) rfl hHeld ?_
              try simp only [Act.put, pS1, pS2, pS3]
              refine zX 10 (.agg A1) rfl hHeld ?_
              try simp only [Act.put, pS1, pS2, pS3]
              refine zX 11 (.agg B1) rfl hHeld ?_
              try simp only [Act.put, pS1, pS2, pS3]
              refine zX 12 (.bool b1) rfl hHeld ?_
              try simp only [Act.put, pS1, pS2, pS3]
              refine wpAnyH_ready (rs := [14]) (by kernel_rfl) (by simp) ?_
              refine (AllReadyH.cons (o := { dst := some 17, op := .alloc 25, type := 0, pos := "ref.go:56", after := #[], guard := none }) rfl (fun K hK => ?_) AllReadyH.nil)
              refine step_new_var (by rfl) 25 rfl Z HA.out ?_
              intro g2 w14 F14
              try have NE : Hid (g1 ≠ g2) := (by show _ ≠ _; rw [F14.out.new]; exact Nat.ne_of_lt (heap_lt V1.out.2))
              try replace V1 := hidk (And.intro V1.out.1 ((F14.out.below.block _ (heap_lt V1.out.2)).trans V1.out.2))
              have V2 : Hid (wb.heap.size ≤ g2 ∧ w14.heap[g2]? = some (.cells Z 25 (0, 0))) := ⟨by rw [F14.out.new]; exact HBW.out.size, F14.out.row⟩
              replace HBW := hidk (HBW.out.trans (F14.out.below.mono HBW.out.size))
              refine hK.out _ _ ((F14.out.below.block _ (heap_lt hHeld)).trans hHeld) (fun hHeld => ?_)
              clear hK K
              try simp only [Act.put, pS1, pS2, pS3]
              refine wpAnyH_ready (rs := [15]) (by kernel_rfl) (by simp) ?_
              refine (AllReadyH.cons (o := { dst := none, op := .store 25 (.tmp 16) (.tmp 65), type := 0, pos := "ref.go:56", after := #[zD 13, zD 10, zC 8, zP 0, zP 1, zP 2, zP 3, zP 4, zP 5, zP 6, zP 7, zP 8, zP 9, zP 10, { on := 11, ground := Ground.textOnly Departure.lateStores }, { on := 12, ground := Ground.textOnly Departure.lateStores }, zP 13, zP 14], guard := none }) rfl (fun K hK => ?_) AllReadyH.nil)
              refine step_set_var (by rfl) 25 (.tmp 16) (.tmp 65) rfl g1 A1 rfl rfl 25 Z V1.out.2 HSA.out HZA.out H1A.out ?_
              intro w15 F15
              replace V2 := hidk (And.intro V2.out.1 ((F15.out.other _ (Ne.symm NE.out)).trans V2.out.2))
              replace HBW := hidk (F15.out.below _ _ HBW.out V1.out.1)
              refine hK.out _ _ ((F15.out.other _ (by have := V1.out.1; have := heap_lt HB3.out.2.1; omega)).trans hHeld) (fun hHeld => ?_)
              clear hK K
              try simp only [Act.put, pS1, pS2, pS3]
              refine wpAnyH_ready (rs := [16]) (by kernel_rfl) (by simp) ?_
              refine (AllReadyH.cons (o := { dst := none, op := .store 25 (.tmp 17) (.tmp 66), type := 0, pos := "ref.go:56", after := #[zD 14, zD 11, zC 15, zP 0, zP 1, zP 2, zP 3, zP 4, zP 5, zP 6, zP 7, zP 8, zP 9, zP 10, zP 11, { on := 12, ground := Ground.textOnly Departure.lateStores }, zP 13, zP 14, zP 15], guard := none }) rfl (fun K hK => ?_) AllReadyH.nil)
              refine step_set_var (by rfl) 25 (.tmp 17) (.tmp 66) rfl g2 B1 rfl rfl 25 Z V2.out.2 HSB.out HZB.out H1B.out ?_
              intro w16 F16
              have R1 : Hid (w16.heap[g1]? = some (.cells A1 25 (0, 0))) := (F16.out.other _ NE.out).trans F15.out.row
              have R2 : Hid (w16.heap[g2]? = some (.cells B1 25 (0, 0))) := F16.out.row
              replace HBW := hidk (F16.out.below _ _ HBW.out V2.out.1)
              refine hK.out _ _ ((F16.out.other _ (by have := V2.out.1; have := heap_lt HB3.out.2.1; omega)).trans hHeld) (fun hHeld => ?_)
              clear hK K
              try simp only [Act.put, pS1, pS2, pS3]
              refine zX 17 (.bool b1) rfl hHeld ?_
              try simp only [Act.put, pS1, pS2, pS3]
              refine wpAnyH_done (by kernel_rfl) ?_ _
              have HB5 := hidk (HB3.out.keep HBW.out)
              have HL5 : Hid (w16.heap[gd]? = some (.cells L.toArray 25 (0, 0))) := (HBW.out.block _ (heap_lt HL.out)).trans HL.out
              have G1 : w.heap.size + 2 < g1 := Nat.lt_of_lt_of_le (heap_lt HB3.out.2.2.2) V1.out.1
              have G2 : w.heap.size + 2 < g2 := Nat.lt_of_lt_of_le (heap_lt HB3.out.2.2.2) V2.out.1
              have G3 : w.heap.size + 2 < gd := HGD.out
              have hS : w16.drew.heap[g1]? = some (.cells A1 25 (0, 0)) ∧ w16.drew.heap[g2]? = some (.cells B1 25 (0, 0)) ∧ w16.drew.heap[gd]? = some (.cells L.toArray 25 (0, 0)) := ⟨R1.out, R2.out, HL5.out⟩
              have HB6 : Hid (Came3 w w16.drew X Z) := ⟨HB5.out.1.drew, HB5.out.2⟩
              clear hHeld HB3 HL IH HBW V1 V2 NE R1 R2 HL5 HB5 HGD
              go_wp2
              refine wp_region_held_drew (S := (fun W => W.heap[g1]? = some (.cells A1 25 (0, 0)) ∧ W.heap[g2]? = some (.cells B1 25 (0, 0)) ∧ W.heap[gd]? = some (.cells L.toArray 25 (0, 0)))) (by kernel_rfl) hS (fun hHeld => ?_)
              refine zW 0 (.agg A1) rfl (yieldsIf_row (by rfl) 25 (.tmp 16) rfl g1 rfl 25 A1 (0, 0) _ (fun _ h => h.1) Tryz.underlying25 rfl HSA.out) hHeld ?_
              try simp only [Act.put, pS1, pS2, pS3]
              refine zW 1 (.agg B1) rfl (yieldsIf_row (by rfl) 25 (.tmp 17) rfl g2 rfl 25 B1 (0, 0) _ (fun _ h => h.2.1) Tryz.underlying25 rfl HSB.out) hHeld ?_
              try simp only [Act.put, pS1, pS2, pS3]
              refine zW 2 (.agg L.toArray) rfl (yieldsIf_row (by rfl) 25 (.tmp 14) rfl gd rfl 25 L.toArray (0, 0) _ (fun _ h => h.2.2) Tryz.underlying25 rfl HSE.out) hHeld ?_
              try simp only [Act.put, pS1, pS2, pS3]
              refine zW 4 (.bool b1) rfl (Or.inl ⟨by rfl, by intro w hSw; go_simp⟩) hHeld ?_
              try simp only [Act.put, pS1, pS2, pS3]
              refine wpAnyH_ready (rs := [3]) (by kernel_rfl) (by simp) ?_
              refine AllReadyH.cons (o := { dst := some 71, op := .call { callee := .value (.func 71), args := #[.tmp 69, .tmp 70], argTypes := #[25, 25] }, type := 25, pos := "ref.go:57", after := #[zD 1, zD 2], guard := none }) rfl (fun K hK => ?_) AllReadyH.nil
              go_simp
              refine (KB.out _ HB6.out.1).mono ?_
              rintro e wk ⟨rfl, hbk⟩
              have HB7 := hidk (HB6.out.keep hbk)
              go_wp2_with fail
              refine hK.out _ _ ⟨(hbk.block _ (heap_lt hHeld.1)).trans hHeld.1, (hbk.block _ (heap_lt hHeld.2.1)).trans hHeld.2.1, (hbk.block _ (heap_lt hHeld.2.2)).trans hHeld.2.2⟩ (fun hHeld => ?_)
              clear hK K
              try simp only [Act.put, pS1, pS2, pS3]
              refine wpAnyH_ready (rs := [5]) (by kernel_rfl) (by simp) ?_
              refine AllReadyH.cons (o := { dst := none, op := .store 25 (.tmp 10) (.tmp 68), type := 0, pos := "ref.go:57", after := #[zD 0, zC 3, zP 0, { on := 1, ground := Ground.textOnly Departure.lateStores }, { on := 2, ground := Ground.textOnly Departure.lateStores }, { on := 3, ground := Ground.textOnly Departure.lateStoresUnsure }, { on := 4, ground := Ground.textOnly Departure.lateStores }], guard := none }) rfl (fun K hK => ?_) AllReadyH.nil
              refine step_set_var (by rfl) 25 (.tmp 10) (.tmp 68) rfl (w.heap.size + 1) A1 rfl rfl 25 Z HB7.out.2.2.1 HSA.out HZA.out H1A.out ?_
              intro wx Fx
              refine hK.out _ _ ⟨(Fx.out.other _ (by omega)).trans hHeld.1, (Fx.out.other _ (by omega)).trans hHeld.2.1, (Fx.out.other _ (by omega)).trans hHeld.2.2⟩ (fun hHeld => ?_)
              clear hK K
              try simp only [Act.put, pS1, pS2, pS3]
              refine wpAnyH_ready (rs := [6]) (by kernel_rfl) (by simp) ?_
              refine AllReadyH.cons (o := { dst := none, op := .store 25 (.tmp 11) (.tmp 71), type := 0, pos := "ref.go:57", after := #[zD 3, zC 5, zP 0, zP 1, zP 2, zP 3, { on := 4, ground := Ground.textOnly Departure.lateStores }, zP 5], guard := none }) rfl (fun K hK => ?_) AllReadyH.nil
              refine step_set_var (by rfl) 25 (.tmp 11) (.tmp 71) rfl (w.heap.size + 2) FB rfl rfl 25 Z ((Fx.out.other _ (by omega)).trans HB7.out.2.2.2) HSFB.out HZFB.out H1FB.out ?_
              intro wy Fy
              refine hK.out _ _ ⟨(Fy.out.other _ (by omega)).trans hHeld.1, (Fy.out.other _ (by omega)).trans hHeld.2.1, (Fy.out.other _ (by omega)).trans hHeld.2.2⟩ (fun hHeld => ?_)
              clear hK K
              try simp only [Act.put, pS1, pS2, pS3]
              refine zW 7 (.bool b1) rfl (Or.inl ⟨by rfl, by intro w hSw; go_simp⟩) hHeld ?_
              try simp only [Act.put, pS1, pS2, pS3]
              refine wpAnyH_done (by kernel_rfl) ?_ _
              obtain ⟨r1, r2, r3⟩ := Came3.two HB7.out Fx.out Fy.out
              replace r1 := hidk r1
              replace r2 := hidk r2
              replace r3 := hidk r3
              clear hHeld Fx Fy HB7 HB6
              go_wp2
              refine bodyPost_ret (v := .tuple #[.agg A1, .agg FB, .bool b1]) ?_ rfl ⟨by rw [Hb1.out, HFA1.out], r3.out⟩
              exact results_row_row_tmp (p1 := 10) (p2 := 11) (q := 12) (ty := 25) rfl _ _ (w.heap.size + 1) (w.heap.size + 2) 25 25 A1 FB (0, 0) (0, 0) _ rfl rfl r1.out r2.out Tryz.underlying25 rfl HSA.out HSFB.out
            · refine step_new_var (by rfl) 25 rfl Z HA.out ?_
              intro g2 w14 F14
              try have NE : Hid (g1 ≠ g2) := (by show _ ≠ _; rw [F14.out.new]; exact Nat.ne_of_lt (heap_lt V1.out.2))
              try replace V1 := hidk (And.intro V1.out.1 ((F14.out.below.block _ (heap_lt V1.out.2)).trans V1.out.2))
              have V2 : Hid (wb.heap.size ≤ g2 ∧ w14.heap[g2]? = some (.cells Z 25 (0, 0))) := ⟨by rw [F14.out.new]; exact HBW.out.size, F14.out.row⟩
              replace HBW := hidk (HBW.out.trans (F14.out.below.mono HBW.out.size))
              refine hK.out _ _ ((F14.out.below.block _ (heap_lt hHeld)).trans hHeld) (fun hHeld => ?_)
              clear hK K
              try simp only [Act.put, pS1, pS2, pS3]
              refine wpAnyH_ready (rs := [8]) (by kernel_rfl) (by simp) ?_
              refine (AllReadyH.cons (o := { dst := some 64, op := .call { callee := .value (.func 45), args := #[.tmp 56, .tmp 57, .tmp 58, .tmp 59, .tmp 63], argTypes := #[3, 3, 25, 4, 30] }, type := 80, pos := "ref.go:56", after := #[zD 0, zD 1, zD 2, zD 3, zD 7], guard := none }) rfl (fun K hK => ?_) AllReadyH.nil)
              go_simp
              refine (IH.out _ (HB3.out.1.trans (HBW.out.mono HB3.out.1.size))).mono ?_
              rintro e w8 ⟨rfl, hbc⟩
              try replace V1 := hidk (And.intro V1.out.1 ((hbc.block _ (heap_lt V1.out.2)).trans V1.out.2))
              try replace V2 := hidk (And.intro V2.out.1 ((hbc.block _ (heap_lt V2.out.2)).trans V2.out.2))
              replace HBW := hidk (HBW.out.trans (hbc.mono HBW.out.size))
              go_wp2_with fail
              refine hK.out _ _ ((hbc.block _ (heap_lt hHeld)).trans hHeld) (fun hHeld => ?_)
              clear hK K
              try simp only [Act.put, pS1, pS2, pS3]
              refine zX 9 (.tuple #[.agg A1, .agg B1, .bool b1]) rfl hHeld ?_
              try simp only [Act.put, pS1, pS2, pS3]
              refine zX 10 (.agg A1) rfl hHeld ?_
              try simp only [Act.put, pS1, pS2, pS3]
              refine zX 11 (.agg B1) rfl hHeld ?_
              try simp only [Act.put, pS1, pS2, pS3]
              refine zX 12 (.bool b1) rfl hHeld ?_
              try simp only [Act.put, pS1, pS2, pS3]
              refine wpAnyH_ready (rs := [15]) (by kernel_rfl) (by simp) ?_
              refine (AllReadyH.cons (o := { dst := none, op := .store 25 (.tmp 16) (.tmp 65), type := 0, pos := "ref.go:56", after := #[zD 13, zD 10, zC 8, zP 0, zP 1, zP 2, zP 3, zP 4, zP 5, zP 6, zP 7, zP 8, zP 9, zP 10, { on := 11, ground := Ground.textOnly Departure.lateStores }, { on := 12, ground := Ground.textOnly Departure.lateStores }, zP 13, zP 14], guard := none }) rfl (fun K hK => ?_) AllReadyH.nil)
              refine step_set_var (by rfl) 25 (.tmp 16) (.tmp 65) rfl g1 A1 rfl rfl 25 Z V1.out.2 HSA.out HZA.out H1A.out ?_
              intro w15 F15
              replace V2 := hidk (And.intro V2.out.1 ((F15.out.other _ (Ne.symm NE.out)).trans V2.out.2))
              replace HBW := hidk (F15.out.below _ _ HBW.out V1.out.1)
              refine hK.out _ _ ((F15.out.other _ (by have := V1.out.1; have := heap_lt HB3.out.2.1; omega)).trans hHeld) (fun hHeld => ?_)
              clear hK K
              try simp only [Act.put, pS1, pS2, pS3]
              refine wpAnyH_ready (rs := [16]) (by kernel_rfl) (by simp) ?_
              refine (AllReadyH.cons (o := { dst := none, op := .store 25 (.tmp 17) (.tmp 66), type := 0, pos := "ref.go:56", after := #[zD 14, zD 11, zC 15, zP 0, zP 1, zP 2, zP 3, zP 4, zP 5, zP 6, zP 7, zP 8, zP 9, zP 10, zP 11, { on := 12, ground := Ground.textOnly Departure.lateStores }, zP 13, zP 14, zP 15], guard := none }) rfl (fun K hK => ?_) AllReadyH.nil)
              refine step_set_var (by rfl) 25 (.tmp 17) (.tmp 66) rfl g2 B1 rfl rfl 25 Z V2.out.2 HSB.out HZB.out H1B.out ?_
              intro w16 F16
              have R1 : Hid (w16.heap[g1]? = some (.cells A1 25 (0, 0))) := (F16.out.other _ NE.out).trans F15.out.row
              have R2 : Hid (w16.heap[g2]? = some (.cells B1 25 (0, 0))) := F16.out.row
              replace HBW := hidk (F16.out.below _ _ HBW.out V2.out.1)
              refine hK.out _ _ ((F16.out.other _ (by have := V2.out.1; have := heap_lt HB3.out.2.1; omega)).trans hHeld) (fun hHeld => ?_)
              clear hK K
              try simp only [Act.put, pS1, pS2, pS3]
              refine zX 17 (.bool b1) rfl hHeld ?_
              try simp only [Act.put, pS1, pS2, pS3]
              refine wpAnyH_done (by kernel_rfl) ?_ _
              have HB5 := hidk (HB3.out.keep HBW.out)
              have HL5 : Hid (w16.heap[gd]? = some (.cells L.toArray 25 (0, 0))) := (HBW.out.block _ (heap_lt HL.out)).trans HL.out
              have G1 : w.heap.size + 2 < g1 := Nat.lt_of_lt_of_le (heap_lt HB3.out.2.2.2) V1.out.1
              have G2 : w.heap.size + 2 < g2 := Nat.lt_of_lt_of_le (heap_lt HB3.out.2.2.2) V2.out.1
              have G3 : w.heap.size + 2 < gd := HGD.out
              have hS : w16.drew.heap[g1]? = some (.cells A1 25 (0, 0)) ∧ w16.drew.heap[g2]? = some (.cells B1 25 (0, 0)) ∧ w16.drew.heap[gd]? = some (.cells L.toArray 25 (0, 0)) := ⟨R1.out, R2.out, HL5.out⟩
              have HB6 : Hid (Came3 w w16.drew X Z) := ⟨HB5.out.1.drew, HB5.out.2⟩
              clear hHeld HB3 HL IH HBW V1 V2 NE R1 R2 HL5 HB5 HGD
              go_wp2
              refine wp_region_held_drew (S := (fun W => W.heap[g1]? = some (.cells A1 25 (0, 0)) ∧ W.heap[g2]? = some (.cells B1 25 (0, 0)) ∧ W.heap[gd]? = some (.cells L.toArray 25 (0, 0)))) (by kernel_rfl) hS (fun hHeld => ?_)
              refine zW 0 (.agg A1) rfl (yieldsIf_row (by rfl) 25 (.tmp 16) rfl g1 rfl 25 A1 (0, 0) _ (fun _ h => h.1) Tryz.underlying25 rfl HSA.out) hHeld ?_
              try simp only [Act.put, pS1, pS2, pS3]
              refine zW 1 (.agg B1) rfl (yieldsIf_row (by rfl) 25 (.tmp 17) rfl g2 rfl 25 B1 (0, 0) _ (fun _ h => h.2.1) Tryz.underlying25 rfl HSB.out) hHeld ?_
              try simp only [Act.put, pS1, pS2, pS3]
              refine zW 2 (.agg L.toArray) rfl (yieldsIf_row (by rfl) 25 (.tmp 14) rfl gd rfl 25 L.toArray (0, 0) _ (fun _ h => h.2.2) Tryz.underlying25 rfl HSE.out) hHeld ?_
              try simp only [Act.put, pS1, pS2, pS3]
              refine zW 4 (.bool b1) rfl (Or.inl ⟨by rfl, by intro w hSw; go_simp⟩) hHeld ?_
              try simp only [Act.put, pS1, pS2, pS3]
              refine wpAnyH_ready (rs := [3]) (by kernel_rfl) (by simp) ?_
              refine AllReadyH.cons (o := { dst := some 71, op := .call { callee := .value (.func 71), args := #[.tmp 69, .tmp 70], argTypes := #[25, 25] }, type := 25, pos := "ref.go:57", after := #[zD 1, zD 2], guard := none }) rfl (fun K hK => ?_) AllReadyH.nil
              go_simp
              refine (KB.out _ HB6.out.1).mono ?_
              rintro e wk ⟨rfl, hbk⟩
              have HB7 := hidk (HB6.out.keep hbk)
              go_wp2_with fail
              refine hK.out _ _ ⟨(hbk.block _ (heap_lt hHeld.1)).trans hHeld.1, (hbk.block _ (heap_lt hHeld.2.1)).trans hHeld.2.1, (hbk.block _ (heap_lt hHeld.2.2)).trans hHeld.2.2⟩ (fun hHeld => ?_)
              clear hK K
              try simp only [Act.put, pS1, pS2, pS3]
              refine wpAnyH_ready (rs := [5]) (by kernel_rfl) (by simp) ?_
              refine AllReadyH.cons (o := { dst := none, op := .store 25 (.tmp 10) (.tmp 68), type := 0, pos := "ref.go:57", after := #[zD 0, zC 3, zP 0, { on := 1, ground := Ground.textOnly Departure.lateStores }, { on := 2, ground := Ground.textOnly Departure.lateStores }, { on := 3, ground := Ground.textOnly Departure.lateStoresUnsure }, { on := 4, ground := Ground.textOnly Departure.lateStores }], guard := none }) rfl (fun K hK => ?_) AllReadyH.nil
              refine step_set_var (by rfl) 25 (.tmp 10) (.tmp 68) rfl (w.heap.size + 1) A1 rfl rfl 25 Z HB7.out.2.2.1 HSA.out HZA.out H1A.out ?_
              intro wx Fx
              refine hK.out _ _ ⟨(Fx.out.other _ (by omega)).trans hHeld.1, (Fx.out.other _ (by omega)).trans hHeld.2.1, (Fx.out.other _ (by omega)).trans hHeld.2.2⟩ (fun hHeld => ?_)
              clear hK K
              try simp only [Act.put, pS1, pS2, pS3]
              refine wpAnyH_ready (rs := [6]) (by kernel_rfl) (by simp) ?_
              refine AllReadyH.cons (o := { dst := none, op := .store 25 (.tmp 11) (.tmp 71), type := 0, pos := "ref.go:57", after := #[zD 3, zC 5, zP 0, zP 1, zP 2, zP 3, { on := 4, ground := Ground.textOnly Departure.lateStores }, zP 5], guard := none }) rfl (fun K hK => ?_) AllReadyH.nil
              refine step_set_var (by rfl) 25 (.tmp 11) (.tmp 71) rfl (w.heap.size + 2) FB rfl rfl 25 Z ((Fx.out.other _ (by omega)).trans HB7.out.2.2.2) HSFB.out HZFB.out H1FB.out ?_
              intro wy Fy
              refine hK.out _ _ ⟨(Fy.out.other _ (by omega)).trans hHeld.1, (Fy.out.other _ (by omega)).trans hHeld.2.1, (Fy.out.other _ (by omega)).trans hHeld.2.2⟩ (fun hHeld => ?_)
              clear hK K
              try simp only [Act.put, pS1, pS2, pS3]
              refine zW 7 (.bool b1) rfl (Or.inl ⟨by rfl, by intro w hSw; go_simp⟩) hHeld ?_
              try simp only [Act.put, pS1, pS2, pS3]
              refine wpAnyH_done (by kernel_rfl) ?_ _
              obtain ⟨r1, r2, r3⟩ := Came3.two HB7.out Fx.out Fy.out
              replace r1 := hidk r1
              replace r2 := hidk r2
              replace r3 := hidk r3
              clear hHeld Fx Fy HB7 HB6
              go_wp2
              refine bodyPost_ret (v := .tuple #[.agg A1, .agg FB, .bool b1]) ?_ rfl ⟨by rw [Hb1.out, HFA1.out], r3.out⟩
              exact results_row_row_tmp (p1 := 10) (p2 := 11) (q := 12) (ty := 25) rfl _ _ (w.heap.size + 1) (w.heap.size + 2) 25 25 A1 FB (0, 0) (0, 0) _ rfl rfl r1.out r2.out Tryz.underlying25 rfl HSA.out HSFB.out
          · refine step_new_var (by rfl) 25 rfl Z HA.out ?_
            intro g2 w14 F14
            try have NE : Hid (g1 ≠ g2) := (by show _ ≠ _; rw [F14.out.new]; exact Nat.ne_of_lt (heap_lt V1.out.2))
            try replace V1 := hidk (And.intro V1.out.1 ((F14.out.below.block _ (heap_lt V1.out.2)).trans V1.out.2))
            have V2 : Hid (wb.heap.size ≤ g2 ∧ w14.heap[g2]? = some (.cells Z 25 (0, 0))) := ⟨by rw [F14.out.new]; exact HBW.out.size, F14.out.row⟩
            replace HBW := hidk (HBW.out.trans (F14.out.below.mono HBW.out.size))
            refine hK.out _ _ ((F14.out.below.block _ (heap_lt hHeld)).trans hHeld) (fun hHeld => ?_)
            clear hK K
            try simp only [Act.put, pS1, pS2, pS3]
            refine wpAnyH_ready (rs := [8, 13]) (by kernel_rfl) (by simp) ?_
            refine (AllReadyH.cons (o := { dst := some 64, op := .call { callee := .value (.func 45), args := #[.tmp 56, .tmp 57, .tmp 58, .tmp 59, .tmp 63], argTypes := #[3, 3, 25, 4, 30] }, type := 80, pos := "ref.go:56", after := #[zD 0, zD 1, zD 2, zD 3, zD 7], guard := none }) rfl (fun K hK => ?_) (AllReadyH.cons (o := { dst := some 16, op := .alloc 25, type := 0, pos := "ref.go:56", after := #[], guard := none }) rfl (fun K hK => ?_) AllReadyH.nil))
            · go_simp
              refine (IH.out _ (HB3.out.1.trans (HBW.out.mono HB3.out.1.size))).mono ?_
              rintro e w8 ⟨rfl, hbc⟩
              try replace V1 := hidk (And.intro V1.out.1 ((hbc.block _ (heap_lt V1.out.2)).trans V1.out.2))
              try replace V2 := hidk (And.intro V2.out.1 ((hbc.block _ (heap_lt V2.out.2)).trans V2.out.2))
              replace HBW := hidk (HBW.out.trans (hbc.mono HBW.out.size))
              go_wp2_with fail
              refine hK.out _ _ ((hbc.block _ (heap_lt hHeld)).trans hHeld) (fun hHeld => ?_)
              clear hK K
              try simp only [Act.put, pS1, pS2, pS3]
              refine zX 9 (.tuple #[.agg A1, .agg B1, .bool b1]) rfl hHeld ?_
              try simp only [Act.put, pS1, pS2, pS3]
              refine zX 10 (.agg A1) rfl hHeld ?_
              try simp only [Act.put, pS1, pS2, pS3]
              refine zX 11 (.agg B1) rfl hHeld ?_
              try simp only [Act.put, pS1, pS2, pS3]
              refine zX 12 (.bool b1) rfl hHeld ?_
              try simp only [Act.put, pS1, pS2, pS3]
              refine wpAnyH_ready (rs := [13]) (by kernel_rfl) (by simp) ?_
              refine (AllReadyH.cons (o := { dst := some 16, op := .alloc 25, type := 0, pos := "ref.go:56", after := #[], guard := none }) rfl (fun K hK => ?_) AllReadyH.nil)
              refine step_new_var (by rfl) 25 rfl Z HA.out ?_
              intro g1 w13 F13
              try have NE : Hid (g1 ≠ g2) := (by show _ ≠ _; rw [F13.out.new]; exact (Nat.ne_of_lt (heap_lt V2.out.2)).symm)
              try replace V2 := hidk (And.intro V2.out.1 ((F13.out.below.block _ (heap_lt V2.out.2)).trans V2.out.2))
              have V1 : Hid (wb.heap.size ≤ g1 ∧ w13.heap[g1]? = some (.cells Z 25 (0, 0))) := ⟨by rw [F13.out.new]; exact HBW.out.size, F13.out.row⟩
              replace HBW := hidk (HBW.out.trans (F13.out.below.mono HBW.out.size))
              refine hK.out _ _ ((F13.out.below.block _ (heap_lt hHeld)).trans hHeld) (fun hHeld => ?_)
              clear hK K
              try simp only [Act.put, pS1, pS2, pS3]
              refine wpAnyH_ready (rs := [15]) (by kernel_rfl) (by simp) ?_
              refine (AllReadyH.cons (o := { dst := none, op := .store 25 (.tmp 16) (.tmp 65), type := 0, pos := "ref.go:56", after := #[zD 13, zD 10, zC 8, zP 0, zP 1, zP 2, zP 3, zP 4, zP 5, zP 6, zP 7, zP 8, zP 9, zP 10, { on := 11, ground := Ground.textOnly Departure.lateStores }, { on := 12, ground := Ground.textOnly Departure.lateStores }, zP 13, zP 14], guard := none }) rfl (fun K hK => ?_) AllReadyH.nil)
              refine step_set_var (by rfl) 25 (.tmp 16) (.tmp 65) rfl g1 A1 rfl rfl 25 Z V1.out.2 HSA.out HZA.out H1A.out ?_
              intro w15 F15
              replace V2 := hidk (And.intro V2.out.1 ((F15.out.other _ (Ne.symm NE.out)).trans V2.out.2))
              replace HBW := hidk (F15.out.below _ _ HBW.out V1.out.1)
              refine hK.out _ _ ((F15.out.other _ (by have := V1.out.1; have := heap_lt HB3.out.2.1; omega)).trans hHeld) (fun hHeld => ?_)
              clear hK K
              try simp only [Act.put, pS1, pS2, pS3]
              refine wpAnyH_ready (rs := [16]) (by kernel_rfl) (by simp) ?_
              refine (AllReadyH.cons (o := { dst := none, op := .store 25 (.tmp 17) (.tmp 66), type := 0, pos := "ref.go:56", after := #[zD 14, zD 11, zC 15, zP 0, zP 1, zP 2, zP 3, zP 4, zP 5, zP 6, zP 7, zP 8, zP 9, zP 10, zP 11, { on := 12, ground := Ground.textOnly Departure.lateStores }, zP 13, zP 14, zP 15], guard := none }) rfl (fun K hK => ?_) AllReadyH.nil)
              refine step_set_var (by rfl) 25 (.tmp 17) (.tmp 66) rfl g2 B1 rfl rfl 25 Z V2.out.2 HSB.out HZB.out H1B.out ?_
              intro w16 F16
              have R1 : Hid (w16.heap[g1]? = some (.cells A1 25 (0, 0))) := (F16.out.other _ NE.out).trans F15.out.row
              have R2 : Hid (w16.heap[g2]? = some (.cells B1 25 (0, 0))) := F16.out.row
              replace HBW := hidk (F16.out.below _ _ HBW.out V2.out.1)
              refine hK.out _ _ ((F16.out.other _ (by have := V2.out.1; have := heap_lt HB3.out.2.1; omega)).trans hHeld) (fun hHeld => ?_)
              clear hK K
              try simp only [Act.put, pS1, pS2, pS3]
              refine zX 17 (.bool b1) rfl hHeld ?_
              try simp only [Act.put, pS1, pS2, pS3]
              refine wpAnyH_done (by kernel_rfl) ?_ _
              have HB5 := hidk (HB3.out.keep HBW.out)
              have HL5 : Hid (w16.heap[gd]? = some (.cells L.toArray 25 (0, 0))) := (HBW.out.block _ (heap_lt HL.out)).trans HL.out
              have G1 : w.heap.size + 2 < g1 := Nat.lt_of_lt_of_le (heap_lt HB3.out.2.2.2) V1.out.1
              have G2 : w.heap.size + 2 < g2 := Nat.lt_of_lt_of_le (heap_lt HB3.out.2.2.2) V2.out.1
              have G3 : w.heap.size + 2 < gd := HGD.out
              have hS : w16.drew.heap[g1]? = some (.cells A1 25 (0, 0)) ∧ w16.drew.heap[g2]? = some (.cells B1 25 (0, 0)) ∧ w16.drew.heap[gd]? = some (.cells L.toArray 25 (0, 0)) := ⟨R1.out, R2.out, HL5.out⟩
              have HB6 : Hid (Came3 w w16.drew X Z) := ⟨HB5.out.1.drew, HB5.out.2⟩
              clear hHeld HB3 HL IH HBW V1 V2 NE R1 R2 HL5 HB5 HGD
              go_wp2
              refine wp_region_held_drew (S := (fun W => W.heap[g1]? = some (.cells A1 25 (0, 0)) ∧ W.heap[g2]? = some (.cells B1 25 (0, 0)) ∧ W.heap[gd]? = some (.cells L.toArray 25 (0, 0)))) (by kernel_rfl) hS (fun hHeld => ?_)
              refine zW 0 (.agg A1) rfl (yieldsIf_row (by rfl) 25 (.tmp 16) rfl g1 rfl 25 A1 (0, 0) _ (fun _ h => h.1) Tryz.underlying25 rfl HSA.out) hHeld ?_
              try simp only [Act.put, pS1, pS2, pS3]
              refine zW 1 (.agg B1) rfl (yieldsIf_row (by rfl) 25 (.tmp 17) rfl g2 rfl 25 B1 (0, 0) _ (fun _ h => h.2.1) Tryz.underlying25 rfl HSB.out) hHeld ?_
              try simp only [Act.put, pS1, pS2, pS3]
              refine zW 2 (.agg L.toArray) rfl (yieldsIf_row (by rfl) 25 (.tmp 14) rfl gd rfl 25 L.toArray (0, 0) _ (fun _ h => h.2.2) Tryz.underlying25 rfl HSE.out) hHeld ?_
              try simp only [Act.put, pS1, pS2, pS3]
              refine zW 4 (.bool b1) rfl (Or.inl ⟨by rfl, by intro w hSw; go_simp⟩) hHeld ?_
              try simp only [Act.put, pS1, pS2, pS3]
              refine wpAnyH_ready (rs := [3]) (by kernel_rfl) (by simp) ?_
              refine AllReadyH.cons (o := { dst := some 71, op := .call { callee := .value (.func 71), args := #[.tmp 69, .tmp 70], argTypes := #[25, 25] }, type := 25, pos := "ref.go:57", after := #[zD 1, zD 2], guard := none }) rfl (fun K hK => ?_) AllReadyH.nil
              go_simp
              refine (KB.out _ HB6.out.1).mono ?_
              rintro e wk ⟨rfl, hbk⟩
              have HB7 := hidk (HB6.out.keep hbk)
              go_wp2_with fail
              refine hK.out _ _ ⟨(hbk.block _ (heap_lt hHeld.1)).trans hHeld.1, (hbk.block _ (heap_lt hHeld.2.1)).trans hHeld.2.1, (hbk.block _ (heap_lt hHeld.2.2)).trans hHeld.2.2⟩ (fun hHeld => ?_)
              clear hK K
              try simp only [Act.put, pS1, pS2, pS3]
              refine wpAnyH_ready (rs := [5]) (by kernel_rfl) (by simp) ?_
              refine AllReadyH.cons (o := { dst := none, op := .store 25 (.tmp 10) (.tmp 68), type := 0, pos := "ref.go:57", after := #[zD 0, zC 3, zP 0, { on := 1, ground := Ground.textOnly Departure.lateStores }, { on := 2, ground := Ground.textOnly Departure.lateStores }, { on := 3, ground := Ground.textOnly Departure.lateStoresUnsure }, { on := 4, ground := Ground.textOnly Departure.lateStores }], guard := none }) rfl (fun K hK => ?_) AllReadyH.nil
              refine step_set_var (by rfl) 25 (.tmp 10) (.tmp 68) rfl (w.heap.size + 1) A1 rfl rfl 25 Z HB7.out.2.2.1 HSA.out HZA.out H1A.out ?_
              intro wx Fx
              refine hK.out _ _ ⟨(Fx.out.other _ (by omega)).trans hHeld.1, (Fx.out.other _ (by omega)).trans hHeld.2.1, (Fx.out.other _ (by omega)).trans hHeld.2.2⟩ (fun hHeld => ?_)
              clear hK K
              try simp only [Act.put, pS1, pS2, pS3]
              refine wpAnyH_ready (rs := [6]) (by kernel_rfl) (by simp) ?_
              refine AllReadyH.cons (o := { dst := none, op := .store 25 (.tmp 11) (.tmp 71), type := 0, pos := "ref.go:57", after := #[zD 3, zC 5, zP 0, zP 1, zP 2, zP 3, { on := 4, ground := Ground.textOnly Departure.lateStores }, zP 5], guard := none }) rfl (fun K hK => ?_) AllReadyH.nil
              refine step_set_var (by rfl) 25 (.tmp 11) (.tmp 71) rfl (w.heap.size + 2) FB rfl rfl 25 Z ((Fx.out.other _ (by omega)).trans HB7.out.2.2.2) HSFB.out HZFB.out H1FB.out ?_
              intro wy Fy
              refine hK.out _ _ ⟨(Fy.out.other _ (by omega)).trans hHeld.1, (Fy.out.other _ (by omega)).trans hHeld.2.1, (Fy.out.other _ (by omega)).trans hHeld.2.2⟩ (fun hHeld => ?_)
              clear hK K
              try simp only [Act.put, pS1, pS2, pS3]
              refine zW 7 (.bool b1) rfl (Or.inl ⟨by rfl, by intro w hSw; go_simp⟩) hHeld ?_
              try simp only [Act.put, pS1, pS2, pS3]
              refine wpAnyH_done (by kernel_rfl) ?_ _
              obtain ⟨r1, r2, r3⟩ := Came3.two HB7.out Fx.out Fy.out
              replace r1 := hidk r1
              replace r2 := hidk r2
              replace r3 := hidk r3
              clear hHeld Fx Fy HB7 HB6
              go_wp2
              refine bodyPost_ret (v := .tuple #[.agg A1, .agg FB, .bool b1]) ?_ rfl ⟨by rw [Hb1.out, HFA1.out], r3.out⟩
              exact results_row_row_tmp (p1 := 10) (p2 := 11) (q := 12) (ty := 25) rfl _ _ (w.heap.size + 1) (w.heap.size + 2) 25 25 A1 FB (0, 0) (0, 0) _ rfl rfl r1.out r2.out Tryz.underlying25 rfl HSA.out HSFB.out
            · refine step_new_var (by rfl) 25 rfl Z HA.out ?_
              intro g1 w13 F13
              try have NE : Hid (g1 ≠ g2) := (by show _ ≠ _; rw [F13.out.new]; exact (Nat.ne_of_lt (heap_lt V2.out.2)).symm)
              try replace V2 := hidk (And.intro V2.out.1 ((F13.out.below.block _ (heap_lt V2.out.2)).trans V2.out.2))
              have V1 : Hid (wb.heap.size ≤ g1 ∧ w13.heap[g1]? = some (.cells Z 25 (0, 0))) := ⟨by rw [F13.out.new]; exact HBW.out.size, F13.out.row⟩
              replace HBW := hidk (HBW.out.trans (F13.out.below.mono HBW.out.size))
              refine hK.out _ _ ((F13.out.below.block _ (heap_lt hHeld)).trans hHeld) (fun hHeld => ?_)
              clear hK K
              try simp only [Act.put, pS1, pS2, pS3]
              refine wpAnyH_ready (rs := [8]) (by kernel_rfl) (by simp) ?_
              refine (AllReadyH.cons (o := { dst := some 64, op := .call { callee := .value (.func 45), args := #[.tmp 56, .tmp 57, .tmp 58, .tmp 59, .tmp 63], argTypes := #[3, 3, 25, 4, 30] }, type := 80, pos := "ref.go:56", after := #[zD 0, zD 1, zD 2, zD 3, zD 7], guard := none }) rfl (fun K hK => ?_) AllReadyH.nil)
              go_simp
              refine (IH.out _ (HB3.out.1.trans (HBW.out.mono HB3.out.1.size))).mono ?_
              rintro e w8 ⟨rfl, hbc⟩
              try replace V1 := hidk (And.intro V1.out.1 ((hbc.block _ (heap_lt V1.out.2)).trans V1.out.2))
              try replace V2 := hidk (And.intro V2.out.1 ((hbc.block _ (heap_lt V2.out.2)).trans V2.out.2))
              replace HBW := hidk (HBW.out.trans (hbc.mono HBW.out.size))
              go_wp2_with fail
              refine hK.out _ _ ((hbc.block _ (heap_lt hHeld)).trans hHeld) (fun hHeld => ?_)
              clear hK K
              try simp only [Act.put, pS1, pS2, pS3]
              refine zX 9 (.tuple #[.agg A1, .agg B1, .bool b1]) rfl hHeld ?_
              try simp only [Act.put, pS1, pS2, pS3]
              refine zX 10 (.agg A1) rfl hHeld ?_
              try simp only [Act.put, pS1, pS2, pS3]
              refine zX 11 (.agg B1) rfl hHeld ?_
              try simp only [Act.put, pS1, pS2, pS3]
              refine zX 12 (.bool b1) rfl hHeld ?_
              try simp only [Act.put, pS1, pS2, pS3]
              refine wpAnyH_ready (rs := [15]) (by kernel_rfl) (by simp) ?_
              refine (AllReadyH.cons (o := { dst := none, op := .store 25 (.tmp 16) (.tmp 65), type := 0, pos := "ref.go:56", after := #[zD 13, zD 10, zC 8, zP 0, zP 1, zP 2, zP 3, zP 4, zP 5, zP 6, zP 7, zP 8, zP 9, zP 10, { on := 11, ground := Ground.textOnly Departure.lateStores }, { on := 12, ground := Ground.textOnly Departure.lateStores }, zP 13, zP 14], guard := none }) rfl (fun K hK => ?_) AllReadyH.nil)
              refine step_set_var (by rfl) 25 (.tmp 16) (.tmp 65) rfl g1 A1 rfl rfl 25 Z V1.out.2 HSA.out HZA.out H1A.out ?_
              intro w15 F15
              replace V2 := hidk (And.intro V2.out.1 ((F15.out.other _ (Ne.symm NE.out)).trans V2.out.2))
              replace HBW := hidk (F15.out.below _ _ HBW.out V1.out.1)
              refine hK.out _ _ ((F15.out.other _ (by have := V1.out.1; have := heap_lt HB3.out.2.1; omega)).trans hHeld) (fun hHeld => ?_)
              clear hK K
              try simp only [Act.put, pS1, pS2, pS3]
              refine wpAnyH_ready (rs := [16]) (by kernel_rfl) (by simp) ?_
              refine (AllReadyH.cons (o := { dst := none, op := .store 25 (.tmp 17) (.tmp 66), type := 0, pos := "ref.go:56", after := #[zD 14, zD 11, zC 15, zP 0, zP 1, zP 2, zP 3, zP 4, zP 5, zP 6, zP 7, zP 8, zP 9, zP 10, zP 11, { on := 12, ground := Ground.textOnly Departure.lateStores }, zP 13, zP 14, zP 15], guard := none }) rfl (fun K hK => ?_) AllReadyH.nil)
              refine step_set_var (by rfl) 25 (.tmp 17) (.tmp 66) rfl g2 B1 rfl rfl 25 Z V2.out.2 HSB.out HZB.out H1B.out ?_
              intro w16 F16
              have R1 : Hid (w16.heap[g1]? = some (.cells A1 25 (0, 0))) := (F16.out.other _ NE.out).trans F15.out.row
              have R2 : Hid (w16.heap[g2]? = some (.cells B1 25 (0, 0))) := F16.out.row
              replace HBW := hidk (F16.out.below _ _ HBW.out V2.out.1)
              refine hK.out _ _ ((F16.out.other _ (by have := V2.out.1; have := heap_lt HB3.out.2.1; omega)).trans hHeld) (fun hHeld => ?_)
              clear hK K
              try simp only [Act.put, pS1, pS2, pS3]
              refine zX 17 (.bool b1) rfl hHeld ?_
              try simp only [Act.put, pS1, pS2, pS3]
              refine wpAnyH_done (by kernel_rfl) ?_ _
              have HB5 := hidk (HB3.out.keep HBW.out)
              have HL5 : Hid (w16.heap[gd]? = some (.cells L.toArray 25 (0, 0))) := (HBW.out.block _ (heap_lt HL.out)).trans HL.out
              have G1 : w.heap.size + 2 < g1 := Nat.lt_of_lt_of_le (heap_lt HB3.out.2.2.2) V1.out.1
              have G2 : w.heap.size + 2 < g2 := Nat.lt_of_lt_of_le (heap_lt HB3.out.2.2.2) V2.out.1
              have G3 : w.heap.size + 2 < gd := HGD.out
              have hS : w16.drew.heap[g1]? = some (.cells A1 25 (0, 0)) ∧ w16.drew.heap[g2]? = some (.cells B1 25 (0, 0)) ∧ w16.drew.heap[gd]? = some (.cells L.toArray 25 (0, 0)) := ⟨R1.out, R2.out, HL5.out⟩
              have HB6 : Hid (Came3 w w16.drew X Z) := ⟨HB5.out.1.drew, HB5.out.2⟩
              clear hHeld HB3 HL IH HBW V1 V2 NE R1 R2 HL5 HB5 HGD
              go_wp2
              refine wp_region_held_drew (S := (fun W => W.heap[g1]? = some (.cells A1 25 (0, 0)) ∧ W.heap[g2]? = some (.cells B1 25 (0, 0)) ∧ W.heap[gd]? = some (.cells L.toArray 25 (0, 0)))) (by kernel_rfl) hS (fun hHeld => ?_)
              refine zW 0 (.agg A1) rfl (yieldsIf_row (by rfl) 25 (.tmp 16) rfl g1 rfl 25 A1 (0, 0) _ (fun _ h => h.1) Tryz.underlying25 rfl HSA.out) hHeld ?_
              try simp only [Act.put, pS1, pS2, pS3]
              refine zW 1 (.agg B1) rfl (yieldsIf_row (by rfl) 25 (.tmp 17) rfl g2 rfl 25 B1 (0, 0) _ (fun _ h => h.2.1) Tryz.underlying25 rfl HSB.out) hHeld ?_
              try simp only [Act.put, pS1, pS2, pS3]
              refine zW 2 (.agg L.toArray) rfl (yieldsIf_row (by rfl) 25 (.tmp 14) rfl gd rfl 25 L.toArray (0, 0) _ (fun _ h => h.2.2) Tryz.underlying25 rfl HSE.out) hHeld ?_
              try simp only [Act.put, pS1, pS2, pS3]
              refine zW 4 (.bool b1) rfl (Or.inl ⟨by rfl, by intro w hSw; go_simp⟩) hHeld ?_
              try simp only [Act.put, pS1, pS2, pS3]
              refine wpAnyH_ready (rs := [3]) (by kernel_rfl) (by simp) ?_
              refine AllReadyH.cons (o := { dst := some 71, op := .call { callee := .value (.func 71), args := #[.tmp 69, .tmp 70], argTypes := #[25, 25] }, type := 25, pos := "ref.go:57", after := #[zD 1, zD 2], guard := none }) rfl (fun K hK => ?_) AllReadyH.nil
              go_simp
              refine (KB.out _ HB6.out.1).mono ?_
              rintro e wk ⟨rfl, hbk⟩
              have HB7 := hidk (HB6.out.keep hbk)
              go_wp2_with fail
              refine hK.out _ _ ⟨(hbk.block _ (heap_lt hHeld.1)).trans hHeld.1, (hbk.block _ (heap_lt hHeld.2.1)).trans hHeld.2.1, (hbk.block _ (heap_lt hHeld.2.2)).trans hHeld.2.2⟩ (fun hHeld => ?_)
              clear hK K
              try simp only [Act.put, pS1, pS2, pS3]
              refine wpAnyH_ready (rs := [5]) (by kernel_rfl) (by simp) ?_
              refine AllReadyH.cons (o := { dst := none, op := .store 25 (.tmp 10) (.tmp 68), type := 0, pos := "ref.go:57", after := #[zD 0, zC 3, zP 0, { on := 1, ground := Ground.textOnly Departure.lateStores }, { on := 2, ground := Ground.textOnly Departure.lateStores }, { on := 3, ground := Ground.textOnly Departure.lateStoresUnsure }, { on := 4, ground := Ground.textOnly Departure.lateStores }], guard := none }) rfl (fun K hK => ?_) AllReadyH.nil
              refine step_set_var (by rfl) 25 (.tmp 10) (.tmp 68) rfl (w.heap.size + 1) A1 rfl rfl 25 Z HB7.out.2.2.1 HSA.out HZA.out H1A.out ?_
              intro wx Fx
              refine hK.out _ _ ⟨(Fx.out.other _ (by omega)).trans hHeld.1, (Fx.out.other _ (by omega)).trans hHeld.2.1, (Fx.out.other _ (by omega)).trans hHeld.2.2⟩ (fun hHeld => ?_)
              clear hK K
              try simp only [Act.put, pS1, pS2, pS3]
              refine wpAnyH_ready (rs := [6]) (by kernel_rfl) (by simp) ?_
              refine AllReadyH.cons (o := { dst := none, op := .store 25 (.tmp 11) (.tmp 71), type := 0, pos := "ref.go:57", after := #[zD 3, zC 5, zP 0, zP 1, zP 2, zP 3, { on := 4, ground := Ground.textOnly Departure.lateStores }, zP 5], guard := none }) rfl (fun K hK => ?_) AllReadyH.nil
              refine step_set_var (by rfl) 25 (.tmp 11) (.tmp 71) rfl (w.heap.size + 2) FB rfl rfl 25 Z ((Fx.out.other _ (by omega)).trans HB7.out.2.2.2) HSFB.out HZFB.out H1FB.out ?_
              intro wy Fy
              refine hK.out _ _ ⟨(Fy.out.other _ (by omega)).trans hHeld.1, (Fy.out.other _ (by omega)).trans hHeld.2.1, (Fy.out.other _ (by omega)).trans hHeld.2.2⟩ (fun hHeld => ?_)
              clear hK K
              try simp only [Act.put, pS1, pS2, pS3]
              refine zW 7 (.bool b1) rfl (Or.inl ⟨by rfl, by intro w hSw; go_simp⟩) hHeld ?_
              try simp only [Act.put, pS1, pS2, pS3]
              refine wpAnyH_done (by kernel_rfl) ?_ _
              obtain ⟨r1, r2, r3⟩ := Came3.two HB7.out Fx.out Fy.out
              replace r1 := hidk r1
              replace r2 := hidk r2
              replace r3 := hidk r3
              clear hHeld Fx Fy HB7 HB6
              go_wp2
              refine bodyPost_ret (v := .tuple #[.agg A1, .agg FB, .bool b1]) ?_ rfl ⟨by rw [Hb1.out, HFA1.out], r3.out⟩
              exact results_row_row_tmp (p1 := 10) (p2 := 11) (q := 12) (ty := 25) rfl _ _ (w.heap.size + 1) (w.heap.size + 2) 25 25 A1 FB (0, 0) (0, 0) _ rfl rfl r1.out r2.out Tryz.underlying25 rfl HSA.out HSFB.out
        · rw [bothR_right d q.reverse M N x kn he (by rw [← HSs.out]; exact hlt), ← HSs.out] at HFA HFB Hb
          have hyl := bothR_length sumD_length q.reverse (M - s) (N - s) x false hx hqd
          obtain ⟨A1, HA1, HSA, H1A, H32A⟩ := dig_row' (bothR q.reverse (M - s) (N - s) x false).1 hyl.1
          obtain ⟨B1, HB1, HSB, H1B, H32B⟩ := dig_row' (bothR q.reverse (M - s) (N - s) x false).2.1 hyl.2
          have HZA : Hid (Z.size = A1.size) := by show _ = _; rw [H32.out, H32A.out]
          have HZB : Hid (Z.size = B1.size) := by show _ = _; rw [H32.out, H32B.out]
          have IH : Hid (∀ W, Below w.heap.size w W → Calls Tryz.prog 45 #[.int .i64 ((M : Int) - (s : Int)), .int .i64 ((N : Int) - (s : Int)), .agg X, .bool false, .slice (some ⟨g, o, none⟩) m cap] W fun e w' => e = .returned (.tuple #[.agg A1, .agg B1, .bool b1]) ∧ Below W.heap.size W w') := fun W hb => by
            rw [show (M : Int) - (s : Int) = ((M - s : Nat) : Int) by omega, show (N : Int) - (s : Int) = ((N - s : Nat) : Int) by omega]
            exact IHP (M - s) (N - s) x false _ m cap W (by omega) (by omega) (by omega) (HQ.out.keep hb) hx (HK.out.keep hb) X HX A1 B1 HA1 HB1 b1 (by show _ = _; rw [Hb1.out, Hb.out])
          have KA : Hid (∀ W, Below w.heap.size w W → Calls Tryz.prog 71 #[.agg L.toArray, .agg A1] W fun e w' => e = .returned (.agg FA) ∧ Below W.heap.size W w') := fun W hb => by
            rw [HA1.out, HE.out]
            exact refKnot_any _ _ hd32 hyl.1 W (HK.out.keep hb) FA (by show _ = _; rw [HFA.out]; rfl)
          have KB : Hid (∀ W, Below w.heap.size w W → Calls Tryz.prog 71 #[.agg L.toArray, .agg B1] W fun e w' => e = .returned (.agg FB) ∧ Below W.heap.size W w') := fun W hb => by
            rw [HB1.out, HE.out]
            exact refKnot_any _ _ hd32 hyl.2 W (HK.out.keep hb) FB (by show _ = _; rw [HFB.out]; rfl)
          have hdi : decide ((M : Int) ≤ (s : Int)) = false := by rw [decide_eq_false_iff_not]; omega
          have e2 := wrap_int ((M : Int) - (s : Int)) (by omega) (by omega)
          have e3 := wrap_int ((N : Int) - (s : Int)) (by omega) (by omega)
          clear IHP HFA HFB Hb HK HQ HSs HA1 HB1 hyl H32A H32B hkn
          go_enter Tryz.func45, Tryz.ntmps45
          go_wp2_with (first
            | (refine wpList_new_row rfl rfl 25 rfl (.tmp 14) (.tmp 42) rfl Z L.toArray HA.out (fun _ => rfl) (fun _ => rfl) HSE.out HZE.out H1E.out ?_; intro gd wb F1; try simp only [Act.put, pS1, pS2, pS3])
            | (refine wpList_load_mid rfl 25 (.tmp 41) rfl g (o + 32 * m) rfl L _ HR0.out Tryz.underlying25 rfl zL.out ?_; try simp only [Act.put, pS1, pS2, pS3])
            | (refine wpList_alloc_row rfl 25 rfl Z HA.out ?_; try simp only [Act.put, pS1, pS2, pS3]; try simp only [alloc_size, Nat.add_assoc, Nat.reduceAdd])
            | fail)
          have HB3 := hidk ((came3 w X Z).keep F1.out.2.2)
          have HL : Hid (wb.heap[gd]? = some (.cells L.toArray 25 (0, 0))) := F1.out.2.1
          have HGD : Hid (w.heap.size + 2 < gd) := by show _ < _; rw [F1.out.1]; exact heap_lt (came3 w X Z).2.2.2
          clear F1 HR0 HRG
          go_wp2_with fail
          refine (SP.out _).mono ?_
          rintro e w1 ⟨rfl, rfl⟩
          clear SP
          go_wp2
          have HBW : Hid (Below wb.heap.size wb wb.drew) := (Below.refl _ _).drew
          refine wp_region_held_drew (S := (fun W => W.heap[w.heap.size]? = some (.cells X 25 (0, 0)))) (by kernel_rfl) (show wb.drew.heap[w.heap.size]? = _ from HB3.out.2.1) (fun hHeld => ?_)
          refine zX 0 (.int .i64 M) rfl hHeld ?_
          try simp only [Act.put, pS1, pS2, pS3]
          refine zX 1 (.int .i64 s) rfl hHeld ?_
          try simp only [Act.put, pS1, pS2, pS3]
          refine zW 2 (.int .i64 ((M : Int) - (s : Int))) rfl (Or.inl ⟨by rfl, by intro W hSw; go_simp; first | done | exact wrap_int _ (by omega) (by omega)⟩) hHeld ?_
          try simp only [Act.put, pS1, pS2, pS3]
          refine zX 3 (.int .i64 N) rfl hHeld ?_
          try simp only [Act.put, pS1, pS2, pS3]
          refine zX 4 (.int .i64 s) rfl hHeld ?_
          try simp only [Act.put, pS1, pS2, pS3]
          refine zW 5 (.int .i64 ((N : Int) - (s : Int))) rfl (Or.inl ⟨by rfl, by intro W hSw; go_simp; first | done | exact wrap_int _ (by omega) (by omega)⟩) hHeld ?_
          try simp only [Act.put, pS1, pS2, pS3]
          refine zW 6 (.agg X) rfl (yieldsIf_row (by rfl) 25 (.tmp 7) rfl w.heap.size rfl 25 X (0, 0) _ (fun _ h => h) Tryz.underlying25 rfl HSX.out) hHeld ?_
          try simp only [Act.put, pS1, pS2, pS3]
          refine zX 7 (.slice (some ⟨g, o, none⟩) (m + 1) cap) rfl hHeld ?_
          try simp only [Act.put, pS1, pS2, pS3]
          refine zX 8 (.int .i64 ((m : Int) + 1)) rfl hHeld ?_
          try simp only [Act.put, pS1, pS2, pS3]
          refine zW 9 (.int .i64 m) rfl (Or.inl ⟨by rfl, by intro W hSw; go_simp; exact wrap_int _ (by omega) (by omega)⟩) hHeld ?_
          try simp only [Act.put, pS1, pS2, pS3]
          refine zW 10 (.slice (some ⟨g, o, none⟩) m cap) rfl (Or.inl ⟨by rfl, by intro W hSw; have := slc W; go_simp⟩) hHeld ?_
          try simp only [Act.put, pS1, pS2, pS3]
          refine wpAnyH_ready (rs := [11, 16, 17]) (by kernel_rfl) (by simp) ?_
          refine (AllReadyH.cons (o := { dst := some 85, op := .call { callee := .value (.func 45), args := #[.tmp 76, .tmp 79, .tmp 80, .const (.bool false), .tmp 84], argTypes := #[3, 3, 25, 4, 30] }, type := 80, pos := "ref.go:59", after := #[zD 2, zD 5, zD 6, zD 10], guard := none }) rfl (fun K hK => ?_) (AllReadyH.cons (o := { dst := some 19, op := .alloc 25, type := 0, pos := "ref.go:59", after := #[], guard := none }) rfl (fun K hK => ?_) (AllReadyH.cons (o := { dst := some 20, op := .alloc 25, type := 0, pos := "ref.go:59", after := #[], guard := none }) rfl (fun K hK => ?_) AllReadyH.nil)))
          · go_simp
            refine (IH.out _ (HB3.out.1.trans (HBW.out.mono HB3.out.1.size))).mono ?_
            rintro e w11 ⟨rfl, hbc⟩
            try replace V1 := hidk (And.intro V1.out.1 ((hbc.block _ (heap_lt V1.out.2)).trans V1.out.2))
            try replace V2 := hidk (And.intro V2.out.1 ((hbc.block _ (heap_lt V2.out.2)).trans V2.out.2))
            replace HBW := hidk (HBW.out.trans (hbc.mono HBW.out.size))
            go_wp2_with fail
            refine hK.out _ _ ((hbc.block _ (heap_lt hHeld)).trans hHeld) (fun hHeld => ?_)
            clear hK K
            try simp only [Act.put, pS1, pS2, pS3]
            refine zX 12 (.tuple #[.agg A1, .agg B1, .bool b1]) rfl hHeld ?_
            try simp only [Act.put, pS1, pS2, pS3]
            refine zX 13 (.agg A1) rfl hHeld ?_
            try simp only [Act.put, pS1, pS2, pS3]
            refine zX 14 (.agg B1) rfl hHeld ?_
            try simp only [Act.put, pS1, pS2, pS3]
            refine zX 15 (.bool b1) rfl hHeld ?_
            try simp only [Act.put, pS1, pS2, pS3]
            refine wpAnyH_ready (rs := [16, 17]) (by kernel_rfl) (by simp) ?_
            refine (AllReadyH.cons (o := { dst := some 19, op := .alloc 25, type := 0, pos := "ref.go:59", after := #[], guard := none }) rfl (fun K hK => ?_) (AllReadyH.cons (o := { dst := some 20, op := .alloc 25, type := 0, pos := "ref.go:59", after := #[], guard := none }) rfl (fun K hK => ?_) AllReadyH.nil))
            · refine step_new_var (by rfl) 25 rfl Z HA.out ?_
              intro g1 w16 F16
              try have NE : Hid (g1 ≠ g2) := (by show _ ≠ _; rw [F16.out.new]; exact (Nat.ne_of_lt (heap_lt V2.out.2)).symm)
              try replace V2 := hidk (And.intro V2.out.1 ((F16.out.below.block _ (heap_lt V2.out.2)).trans V2.out.2))
              have V1 : Hid (wb.heap.size ≤ g1 ∧ w16.heap[g1]? = some (.cells Z 25 (0, 0))) := ⟨by rw [F16.out.new]; exact HBW.out.size, F16.out.row⟩
              replace HBW := hidk (HBW.out.trans (F16.out.below.mono HBW.out.size))
              refine hK.out _ _ ((F16.out.below.block _ (heap_lt hHeld)).trans hHeld) (fun hHeld => ?_)
              clear hK K
              try simp only [Act.put, pS1, pS2, pS3]
              refine wpAnyH_ready (rs := [17]) (by kernel_rfl) (by simp) ?_
              refine (AllReadyH.cons (o := { dst := some 20, op := .alloc 25, type := 0, pos := "ref.go:59", after := #[], guard := none }) rfl (fun K hK => ?_) AllReadyH.nil)
              refine step_new_var (by rfl) 25 rfl Z HA.out ?_
              intro g2 w17 F17
              try have NE : Hid (g1 ≠ g2) := (by show _ ≠ _; rw [F17.out.new]; exact Nat.ne_of_lt (heap_lt V1.out.2))
              try replace V1 := hidk (And.intro V1.out.1 ((F17.out.below.block _ (heap_lt V1.out.2)).trans V1.out.2))
              have V2 : Hid (wb.heap.size ≤ g2 ∧ w17.heap[g2]? = some (.cells Z 25 (0, 0))) := ⟨by rw [F17.out.new]; exact HBW.out.size, F17.out.row⟩
              replace HBW := hidk (HBW.out.trans (F17.out.below.mono HBW.out.size))
              refine hK.out _ _ ((F17.out.below.block _ (heap_lt hHeld)).trans hHeld) (fun hHeld => ?_)
              clear hK K
              try simp only [Act.put, pS1, pS2, pS3]
              refine wpAnyH_ready (rs := [18]) (by kernel_rfl) (by simp) ?_
              refine (AllReadyH.cons (o := { dst := none, op := .store 25 (.tmp 19) (.tmp 86), type := 0, pos := "ref.go:59", after := #[zD 16, zD 13, zC 11, zP 0, zP 1, zP 2, zP 3, zP 4, zP 5, zP 6, zP 7, zP 8, zP 9, zP 10, zP 11, zP 12, zP 13, { on := 14, ground := Ground.textOnly Departure.lateStores }, { on := 15, ground := Ground.textOnly Departure.lateStores }, zP 16, zP 17], guard := none }) rfl (fun K hK => ?_) AllReadyH.nil)
              refine step_set_var (by rfl) 25 (.tmp 19) (.tmp 86) rfl g1 A1 rfl rfl 25 Z V1.out.2 HSA.out HZA.out H1A.out ?_
              intro w18 F18
              replace V2 := hidk (And.intro V2.out.1 ((F18.out.other _ (Ne.symm NE.out)).trans V2.out.2))
              replace HBW := hidk (F18.out.below _ _ HBW.out V1.out.1)
              refine hK.out _ _ ((F18.out.other _ (by have := V1.out.1; have := heap_lt HB3.out.2.1; omega)).trans hHeld) (fun hHeld => ?_)
              clear hK K
              try simp only [Act.put, pS1, pS2, pS3]
              refine wpAnyH_ready (rs := [19]) (by kernel_rfl) (by simp) ?_
              refine (AllReadyH.cons (o := { dst := none, op := .store 25 (.tmp 20) (.tmp 87), type := 0, pos := "ref.go:59", after := #[zD 17, zD 14, zC 18, zP 0, zP 1, zP 2, zP 3, zP 4, zP 5, zP 6, zP 7, zP 8, zP 9, zP 10, zP 11, zP 12, zP 13, zP 14, { on := 15, ground := Ground.textOnly Departure.lateStores }, zP 16, zP 17, zP 18], guard := none }) rfl (fun K hK => ?_) AllReadyH.nil)
              refine step_set_var (by rfl) 25 (.tmp 20) (.tmp 87) rfl g2 B1 rfl rfl 25 Z V2.out.2 HSB.out HZB.out H1B.out ?_
              intro w19 F19
              have R1 : Hid (w19.heap[g1]? = some (.cells A1 25 (0, 0))) := (F19.out.other _ NE.out).trans F18.out.row
              have R2 : Hid (w19.heap[g2]? = some (.cells B1 25 (0, 0))) := F19.out.row
              replace HBW := hidk (F19.out.below _ _ HBW.out V2.out.1)
              refine hK.out _ _ ((F19.out.other _ (by have := V2.out.1; have := heap_lt HB3.out.2.1; omega)).trans hHeld) (fun hHeld => ?_)
              clear hK K
              try simp only [Act.put, pS1, pS2, pS3]
              refine zX 20 (.bool b1) rfl hHeld ?_
              try simp only [Act.put, pS1, pS2, pS3]
              refine wpAnyH_done (by kernel_rfl) ?_ _
              have HB5 := hidk (HB3.out.keep HBW.out)
              have HL5 : Hid (w19.heap[gd]? = some (.cells L.toArray 25 (0, 0))) := (HBW.out.block _ (heap_lt HL.out)).trans HL.out
              have G1 : w.heap.size + 2 < g1 := Nat.lt_of_lt_of_le (heap_lt HB3.out.2.2.2) V1.out.1
              have G2 : w.heap.size + 2 < g2 := Nat.lt_of_lt_of_le (heap_lt HB3.out.2.2.2) V2.out.1
              have G3 : w.heap.size + 2 < gd := HGD.out
              have hS : w19.drew.heap[g1]? = some (.cells A1 25 (0, 0)) ∧ w19.drew.heap[g2]? = some (.cells B1 25 (0, 0)) ∧ w19.drew.heap[gd]? = some (.cells L.toArray 25 (0, 0)) := ⟨R1.out, R2.out, HL5.out⟩
              have HB6 : Hid (Came3 w w19.drew X Z) := ⟨HB5.out.1.drew, HB5.out.2⟩
              clear hHeld HB3 HL IH HBW V1 V2 NE R1 R2 HL5 HB5 HGD
              go_wp2
              refine wp_region_held_drew (S := (fun W => W.heap[g1]? = some (.cells A1 25 (0, 0)) ∧ W.heap[g2]? = some (.cells B1 25 (0, 0)) ∧ W.heap[gd]? = some (.cells L.toArray 25 (0, 0)))) (by kernel_rfl) hS (fun hHeld => ?_)
              refine zW 0 (.agg L.toArray) rfl (yieldsIf_row (by rfl) 25 (.tmp 14) rfl gd rfl 25 L.toArray (0, 0) _ (fun _ h => h.2.2) Tryz.underlying25 rfl HSE.out) hHeld ?_
              try simp only [Act.put, pS1, pS2, pS3]
              refine zW 1 (.agg A1) rfl (yieldsIf_row (by rfl) 25 (.tmp 19) rfl g1 rfl 25 A1 (0, 0) _ (fun _ h => h.1) Tryz.underlying25 rfl HSA.out) hHeld ?_
              try simp only [Act.put, pS1, pS2, pS3]
              refine zW 3 (.agg L.toArray) rfl (yieldsIf_row (by rfl) 25 (.tmp 14) rfl gd rfl 25 L.toArray (0, 0) _ (fun _ h => h.2.2) Tryz.underlying25 rfl HSE.out) hHeld ?_
              try simp only [Act.put, pS1, pS2, pS3]
              refine zW 4 (.agg B1) rfl (yieldsIf_row (by rfl) 25 (.tmp 20) rfl g2 rfl 25 B1 (0, 0) _ (fun _ h => h.2.1) Tryz.underlying25 rfl HSB.out) hHeld ?_
              try simp only [Act.put, pS1, pS2, pS3]
              refine zW 6 (.bool b1) rfl (Or.inl ⟨by rfl, by intro w hSw; go_simp⟩) hHeld ?_
              try simp only [Act.put, pS1, pS2, pS3]
              refine wpAnyH_ready (rs := [2]) (by kernel_rfl) (by simp) ?_
              refine AllReadyH.cons (o := { dst := some 91, op := .call { callee := .value (.func 71), args := #[.tmp 89, .tmp 90], argTypes := #[25, 25] }, type := 25, pos := "ref.go:60", after := #[zD 0, zD 1], guard := none }) rfl (fun K hK => ?_) AllReadyH.nil
              go_simp
              refine (KA.out _ HB6.out.1).mono ?_
              rintro e wj ⟨rfl, hbj⟩
              have HB6j := hidk (HB6.out.keep hbj)
              go_wp2_with fail
              refine hK.out _ _ ⟨(hbj.block _ (heap_lt hHeld.1)).trans hHeld.1, (hbj.block _ (heap_lt hHeld.2.1)).trans hHeld.2.1, (hbj.block _ (heap_lt hHeld.2.2)).trans hHeld.2.2⟩ (fun hHeld => ?_)
              clear hK K
              try simp only [Act.put, pS1, pS2, pS3]
              refine wpAnyH_ready (rs := [5]) (by kernel_rfl) (by simp) ?_
              refine AllReadyH.cons (o := { dst := some 94, op := .call { callee := .value (.func 71), args := #[.tmp 92, .tmp 93], argTypes := #[25, 25] }, type := 25, pos := "ref.go:60", after := #[zD 3, zD 4, zC 2], guard := none }) rfl (fun K hK => ?_) AllReadyH.nil
              go_simp
              refine (KB.out _ HB6j.out.1).mono ?_
              rintro e wk ⟨rfl, hbk⟩
              have HB7 := hidk (HB6j.out.keep hbk)
              go_wp2_with fail
              refine hK.out _ _ ⟨(hbk.block _ (heap_lt hHeld.1)).trans hHeld.1, (hbk.block _ (heap_lt hHeld.2.1)).trans hHeld.2.1, (hbk.block _ (heap_lt hHeld.2.2)).trans hHeld.2.2⟩ (fun hHeld => ?_)
              clear hK K
              try simp only [Act.put, pS1, pS2, pS3]
              refine wpAnyH_ready (rs := [7]) (by kernel_rfl) (by simp) ?_
              refine AllReadyH.cons (o := { dst := none, op := .store 25 (.tmp 10) (.tmp 91), type := 0, pos := "ref.go:60", after := #[zD 2, zC 5, zP 0, zP 1, zP 2, { on := 3, ground := Ground.textOnly Departure.lateStores }, { on := 4, ground := Ground.textOnly Departure.lateStores }, { on := 5, ground := Ground.textOnly Departure.lateStoresUnsure }, { on := 6, ground := Ground.textOnly Departure.lateStores }], guard := none }) rfl (fun K hK => ?_) AllReadyH.nil
              refine step_set_var (by rfl) 25 (.tmp 10) (.tmp 91) rfl (w.heap.size + 1) FA rfl rfl 25 Z HB7.out.2.2.1 HSFA.out HZFA.out H1FA.out ?_
              intro wx Fx
              refine hK.out _ _ ⟨(Fx.out.other _ (by omega)).trans hHeld.1, (Fx.out.other _ (by omega)).trans hHeld.2.1, (Fx.out.other _ (by omega)).trans hHeld.2.2⟩ (fun hHeld => ?_)
              clear hK K
              try simp only [Act.put, pS1, pS2, pS3]
              refine wpAnyH_ready (rs := [8]) (by kernel_rfl) (by simp) ?_
              refine AllReadyH.cons (o := { dst := none, op := .store 25 (.tmp 11) (.tmp 94), type := 0, pos := "ref.go:60", after := #[zD 5, zC 7, zP 0, zP 1, zP 2, zP 3, zP 4, zP 5, { on := 6, ground := Ground.textOnly Departure.lateStores }, zP 7], guard := none }) rfl (fun K hK => ?_) AllReadyH.nil
              refine step_set_var (by rfl) 25 (.tmp 11) (.tmp 94) rfl (w.heap.size + 2) FB rfl rfl 25 Z ((Fx.out.other _ (by omega)).trans HB7.out.2.2.2) HSFB.out HZFB.out H1FB.out ?_
              intro wy Fy
              refine hK.out _ _ ⟨(Fy.out.other _ (by omega)).trans hHeld.1, (Fy.out.other _ (by omega)).trans hHeld.2.1, (Fy.out.other _ (by omega)).trans hHeld.2.2⟩ (fun hHeld => ?_)
              clear hK K
              try simp only [Act.put, pS1, pS2, pS3]
              refine zW 9 (.bool b1) rfl (Or.inl ⟨by rfl, by intro w hSw; go_simp⟩) hHeld ?_
              try simp only [Act.put, pS1, pS2, pS3]
              refine wpAnyH_done (by kernel_rfl) ?_ _
              obtain ⟨r1, r2, r3⟩ := Came3.two HB7.out Fx.out Fy.out
              replace r1 := hidk r1
              replace r2 := hidk r2
              replace r3 := hidk r3
              clear hHeld Fx Fy HB7 HB6
              go_wp2
              refine bodyPost_ret (v := .tuple #[.agg FA, .agg FB, .bool b1]) ?_ rfl ⟨by rw [Hb1.out], r3.out⟩
              exact results_row_row_tmp (p1 := 10) (p2 := 11) (q := 12) (ty := 25) rfl _ _ (w.heap.size + 1) (w.heap.size + 2) 25 25 FA FB (0, 0) (0, 0) _ rfl rfl r1.out r2.out Tryz.underlying25 rfl HSFA.out HSFB.out
            · refine step_new_var (by rfl) 25 rfl Z HA.out ?_
              intro g2 w17 F17
              try have NE : Hid (g1 ≠ g2) := (by show _ ≠ _; rw [F17.out.new]; exact Nat.ne_of_lt (heap_lt V1.out.2))
              try replace V1 := hidk (And.intro V1.out.1 ((F17.out.below.block _ (heap_lt V1.out.2)).trans V1.out.2))
              have V2 : Hid (wb.heap.size ≤ g2 ∧ w17.heap[g2]? = some (.cells Z 25 (0, 0))) := ⟨by rw [F17.out.new]; exact HBW.out.size, F17.out.row⟩
              replace HBW := hidk (HBW.out.trans (F17.out.below.mono HBW.out.size))
              refine hK.out _ _ ((F17.out.below.block _ (heap_lt hHeld)).trans hHeld) (fun hHeld => ?_)
              clear hK K
              try simp only [Act.put, pS1, pS2, pS3]
              refine wpAnyH_ready (rs := [16]) (by kernel_rfl) (by simp) ?_
              refine (AllReadyH.cons (o := { dst := some 19, op := .alloc 25, type := 0, pos := "ref.go:59", after := #[], guard := none }) rfl (fun K hK => ?_) AllReadyH.nil)
              refine step_new_var (by rfl) 25 rfl Z HA.out ?_
              intro g1 w16 F16
              try have NE : Hid (g1 ≠ g2) := (by show _ ≠ _; rw [F16.out.new]; exact (Nat.ne_of_lt (heap_lt V2.out.2)).symm)
              try replace V2 := hidk (And.intro V2.out.1 ((F16.out.below.block _ (heap_lt V2.out.2)).trans V2.out.2))
              have V1 : Hid (wb.heap.size ≤ g1 ∧ w16.heap[g1]? = some (.cells Z 25 (0, 0))) := ⟨by rw [F16.out.new]; exact HBW.out.size, F16.out.row⟩
              replace HBW := hidk (HBW.out.trans (F16.out.below.mono HBW.out.size))
              refine hK.out _ _ ((F16.out.below.block _ (heap_lt hHeld)).trans hHeld) (fun hHeld => ?_)
              clear hK K
              try simp only [Act.put, pS1, pS2, pS3]
              refine wpAnyH_ready (rs := [18]) (by kernel_rfl) (by simp) ?_
              refine (AllReadyH.cons (o := { dst := none, op := .store 25 (.tmp 19) (.tmp 86), type := 0, pos := "ref.go:59", after := #[zD 16, zD 13, zC 11, zP 0, zP 1, zP 2, zP 3, zP 4, zP 5, zP 6, zP 7, zP 8, zP 9, zP 10, zP 11, zP 12, zP 13, { on := 14, ground := Ground.textOnly Departure.lateStores }, { on := 15, ground := Ground.textOnly Departure.lateStores }, zP 16, zP 17], guard := none }) rfl (fun K hK => ?_) AllReadyH.nil)
              refine step_set_var (by rfl) 25 (.tmp 19) (.tmp 86) rfl g1 A1 rfl rfl 25 Z V1.out.2 HSA.out HZA.out H1A.out ?_
              intro w18 F18
              replace V2 := hidk (And.intro V2.out.1 ((F18.out.other _ (Ne.symm NE.out)).trans V2.out.2))
              replace HBW := hidk (F18.out.below _ _ HBW.out V1.out.1)
              refine hK.out _ _ ((F18.out.other _ (by have := V1.out.1; have := heap_lt HB3.out.2.1; omega)).trans hHeld) (fun hHeld => ?_)
              clear hK K
              try simp only [Act.put, pS1, pS2, pS3]
              refine wpAnyH_ready (rs := [19]) (by kernel_rfl) (by simp) ?_
              refine (AllReadyH.cons (o := { dst := none, op := .store 25 (.tmp 20) (.tmp 87), type := 0, pos := "ref.go:59", after := #[zD 17, zD 14, zC 18, zP 0, zP 1, zP 2, zP 3, zP 4, zP 5, zP 6, zP 7, zP 8, zP 9, zP 10, zP 11, zP 12, zP 13, zP 14, { on := 15, ground := Ground.textOnly Departure.lateStores }, zP 16, zP 17, zP 18], guard := none }) rfl (fun K hK => ?_) AllReadyH.nil)
              refine step_set_var (by rfl) 25 (.tmp 20) (.tmp 87) rfl g2 B1 rfl rfl 25 Z V2.out.2 HSB.out HZB.out H1B.out ?_
              intro w19 F19
              have R1 : Hid (w19.heap[g1]? = some (.cells A1 25 (0, 0))) := (F19.out.other _ NE.out).trans F18.out.row
              have R2 : Hid (w19.heap[g2]? = some (.cells B1 25 (0, 0))) := F19.out.row
              replace HBW := hidk (F19.out.below _ _ HBW.out V2.out.1)
              refine hK.out _ _ ((F19.out.other _ (by have := V2.out.1; have := heap_lt HB3.out.2.1; omega)).trans hHeld) (fun hHeld => ?_)
              clear hK K
              try simp only [Act.put, pS1, pS2, pS3]
              refine zX 20 (.bool b1) rfl hHeld ?_
              try simp only [Act.put, pS1, pS2, pS3]
              refine wpAnyH_done (by kernel_rfl) ?_ _
              have HB5 := hidk (HB3.out.keep HBW.out)
              have HL5 : Hid (w19.heap[gd]? = some (.cells L.toArray 25 (0, 0))) := (HBW.out.block _ (heap_lt HL.out)).trans HL.out
              have G1 : w.heap.size + 2 < g1 := Nat.lt_of_lt_of_le (heap_lt HB3.out.2.2.2) V1.out.1
              have G2 : w.heap.size + 2 < g2 := Nat.lt_of_lt_of_le (heap_lt HB3.out.2.2.2) V2.out.1
              have G3 : w.heap.size + 2 < gd := HGD.out
              have hS : w19.drew.heap[g1]? = some (.cells A1 25 (0, 0)) ∧ w19.drew.heap[g2]? = some (.cells B1 25 (0, 0)) ∧ w19.drew.heap[gd]? = some (.cells L.toArray 25 (0, 0)) := ⟨R1.out, R2.out, HL5.out⟩
              have HB6 : Hid (Came3 w w19.drew X Z) := ⟨HB5.out.1.drew, HB5.out.2⟩
              clear hHeld HB3 HL IH HBW V1 V2 NE R1 R2 HL5 HB5 HGD
              go_wp2
              refine wp_region_held_drew (S := (fun W => W.heap[g1]? = some (.cells A1 25 (0, 0)) ∧ W.heap[g2]? = some (.cells B1 25 (0, 0)) ∧ W.heap[gd]? = some (.cells L.toArray 25 (0, 0)))) (by kernel_rfl) hS (fun hHeld => ?_)
              refine zW 0 (.agg L.toArray) rfl (yieldsIf_row (by rfl) 25 (.tmp 14) rfl gd rfl 25 L.toArray (0, 0) _ (fun _ h => h.2.2) Tryz.underlying25 rfl HSE.out) hHeld ?_
              try simp only [Act.put, pS1, pS2, pS3]
              refine zW 1 (.agg A1) rfl (yieldsIf_row (by rfl) 25 (.tmp 19) rfl g1 rfl 25 A1 (0, 0) _ (fun _ h => h.1) Tryz.underlying25 rfl HSA.out) hHeld ?_
              try simp only [Act.put, pS1, pS2, pS3]
              refine zW 3 (.agg L.toArray) rfl (yieldsIf_row (by rfl) 25 (.tmp 14) rfl gd rfl 25 L.toArray (0, 0) _ (fun _ h => h.2.2) Tryz.underlying25 rfl HSE.out) hHeld ?_
              try simp only [Act.put, pS1, pS2, pS3]
              refine zW 4 (.agg B1) rfl (yieldsIf_row (by rfl) 25 (.tmp 20) rfl g2 rfl 25 B1 (0, 0) _ (fun _ h => h.2.1) Tryz.underlying25 rfl HSB.out) hHeld ?_
              try simp only [Act.put, pS1, pS2, pS3]
              refine zW 6 (.bool b1) rfl (Or.inl ⟨by rfl, by intro w hSw; go_simp⟩) hHeld ?_
              try simp only [Act.put, pS1, pS2, pS3]
              refine wpAnyH_ready (rs := [2]) (by kernel_rfl) (by simp) ?_
              refine AllReadyH.cons (o := { dst := some 91, op := .call { callee := .value (.func 71), args := #[.tmp 89, .tmp 90], argTypes := #[25, 25] }, type := 25, pos := "ref.go:60", after := #[zD 0, zD 1], guard := none }) rfl (fun K hK => ?_) AllReadyH.nil
              go_simp
              refine (KA.out _ HB6.out.1).mono ?_
              rintro e wj ⟨rfl, hbj⟩
              have HB6j := hidk (HB6.out.keep hbj)
              go_wp2_with fail
              refine hK.out _ _ ⟨(hbj.block _ (heap_lt hHeld.1)).trans hHeld.1, (hbj.block _ (heap_lt hHeld.2.1)).trans hHeld.2.1, (hbj.block _ (heap_lt hHeld.2.2)).trans hHeld.2.2⟩ (fun hHeld => ?_)
              clear hK K
              try simp only [Act.put, pS1, pS2, pS3]
              refine wpAnyH_ready (rs := [5]) (by kernel_rfl) (by simp) ?_
              refine AllReadyH.cons (o := { dst := some 94, op := .call { callee := .value (.func 71), args := #[.tmp 92, .tmp 93], argTypes := #[25, 25] }, type := 25, pos := "ref.go:60", after := #[zD 3, zD 4, zC 2], guard := none }) rfl (fun K hK => ?_) AllReadyH.nil
              go_simp
              refine (KB.out _ HB6j.out.1).mono ?_
              rintro e wk ⟨rfl, hbk⟩
              have HB7 := hidk (HB6j.out.keep hbk)
              go_wp2_with fail
              refine hK.out _ _ ⟨(hbk.block _ (heap_lt hHeld.1)).trans hHeld.1, (hbk.block _ (heap_lt hHeld.2.1)).trans hHeld.2.1, (hbk.block _ (heap_lt hHeld.2.2)).trans hHeld.2.2⟩ (fun hHeld => ?_)
              clear hK K
              try simp only [Act.put, pS1, pS2, pS3]
              refine wpAnyH_ready (rs := [7]) (by kernel_rfl) (by simp) ?_
              refine AllReadyH.cons (o := { dst := none, op := .store 25 (.tmp 10) (.tmp 91), type := 0, pos := "ref.go:60", after := #[zD 2, zC 5, zP 0, zP 1, zP 2, { on := 3, ground := Ground.textOnly Departure.lateStores }, { on := 4, ground := Ground.textOnly Departure.lateStores }, { on := 5, ground := Ground.textOnly Departure.lateStoresUnsure }, { on := 6, ground := Ground.textOnly Departure.lateStores }], guard := none }) rfl (fun K hK => ?_) AllReadyH.nil
              refine step_set_var (by rfl) 25 (.tmp 10) (.tmp 91) rfl (w.heap.size + 1) FA rfl rfl 25 Z HB7.out.2.2.1 HSFA.out HZFA.out H1FA.out ?_
              intro wx Fx
              refine hK.out _ _ ⟨(Fx.out.other _ (by omega)).trans hHeld.1, (Fx.out.other _ (by omega)).trans hHeld.2.1, (Fx.out.other _ (by omega)).trans hHeld.2.2⟩ (fun hHeld => ?_)
              clear hK K
              try simp only [Act.put, pS1, pS2, pS3]
              refine wpAnyH_ready (rs := [8]) (by kernel_rfl) (by simp) ?_
              refine AllReadyH.cons (o := { dst := none, op := .store 25 (.tmp 11) (.tmp 94), type := 0, pos := "ref.go:60", after := #[zD 5, zC 7, zP 0, zP 1, zP 2, zP 3, zP 4, zP 5, { on := 6, ground := Ground.textOnly Departure.lateStores }, zP 7], guard := none }) rfl (fun K hK => ?_) AllReadyH.nil
              refine step_set_var (by rfl) 25 (.tmp 11) (.tmp 94) rfl (w.heap.size + 2) FB rfl rfl 25 Z ((Fx.out.other _ (by omega)).trans HB7.out.2.2.2) HSFB.out HZFB.out H1FB.out ?_
              intro wy Fy
              refine hK.out _ _ ⟨(Fy.out.other _ (by omega)).trans hHeld.1, (Fy.out.other _ (by omega)).trans hHeld.2.1, (Fy.out.other _ (by omega)).trans hHeld.2.2⟩ (fun hHeld => ?_)
              clear hK K
              try simp only [Act.put, pS1, pS2, pS3]
              refine zW 9 (.bool b1) rfl (Or.inl ⟨by rfl, by intro w hSw; go_simp⟩) hHeld ?_
              try simp only [Act.put, pS1, pS2, pS3]
              refine wpAnyH_done (by kernel_rfl) ?_ _
              obtain ⟨r1, r2, r3⟩ := Came3.two HB7.out Fx.out Fy.out
              replace r1 := hidk r1
              replace r2 := hidk r2
              replace r3 := hidk r3
              clear hHeld Fx Fy HB7 HB6
              go_wp2
              refine bodyPost_ret (v := .tuple #[.agg FA, .agg FB, .bool b1]) ?_ rfl ⟨by rw [Hb1.out], r3.out⟩
              exact results_row_row_tmp (p1 := 10) (p2 := 11) (q := 12) (ty := 25) rfl _ _ (w.heap.size + 1) (w.heap.size + 2) 25 25 FA FB (0, 0) (0, 0) _ rfl rfl r1.out r2.out Tryz.underlying25 rfl HSFA.out HSFB.out
          · refine step_new_var (by rfl) 25 rfl Z HA.out ?_
            intro g1 w16 F16
            try have NE : Hid (g1 ≠ g2) := (by show _ ≠ _; rw [F16.out.new]; exact (Nat.ne_of_lt (heap_lt V2.out.2)).symm)
            try replace V2 := hidk (And.intro V2.out.1 ((F16.out.below.block _ (heap_lt V2.out.2)).trans V2.out.2))
            have V1 : Hid (wb.heap.size ≤ g1 ∧ w16.heap[g1]? = some (.cells Z 25 (0, 0))) := ⟨by rw [F16.out.new]; exact HBW.out.size, F16.out.row⟩
            replace HBW := hidk (HBW.out.trans (F16.out.below.mono HBW.out.size))
            refine hK.out _ _ ((F16.out.below.block _ (heap_lt hHeld)).trans hHeld) (fun hHeld => ?_)
            clear hK K
            try simp only [Act.put, pS1, pS2, pS3]
            refine wpAnyH_ready (rs := [11, 17]) (by kernel_rfl) (by simp) ?_
            refine (AllReadyH.cons (o := { dst := some 85, op := .call { callee := .value (.func 45), args := #[.tmp 76, .tmp 79, .tmp 80, .const (.bool false), .tmp 84], argTypes := #[3, 3, 25, 4, 30] }, type := 80, pos := "ref.go:59", after := #[zD 2, zD 5, zD 6, zD 10], guard := none }) rfl (fun K hK => ?_) (AllReadyH.cons (o := { dst := some 20, op := .alloc 25, type := 0, pos := "ref.go:59", after := #[], guard := none }) rfl (fun K hK => ?_) AllReadyH.nil))
            · go_simp
              refine (IH.out _ (HB3.out.1.trans (HBW.out.mono HB3.out.1.size))).mono ?_
              rintro e w11 ⟨rfl, hbc⟩
              try replace V1 := hidk (And.intro V1.out.1 ((hbc.block _ (heap_lt V1.out.2)).trans V1.out.2))
              try replace V2 := hidk (And.intro V2.out.1 ((hbc.block _ (heap_lt V2.out.2)).trans V2.out.2))
              replace HBW := hidk (HBW.out.trans (hbc.mono HBW.out.size))
              go_wp2_with fail
              refine hK.out _ _ ((hbc.block _ (heap_lt hHeld)).trans hHeld) (fun hHeld => ?_)
              clear hK K
              try simp only [Act.put, pS1, pS2, pS3]
              refine zX 12 (.tuple #[.agg A1, .agg B1, .bool b1]) rfl hHeld ?_
              try simp only [Act.put, pS1, pS2, pS3]
              refine zX 13 (.agg A1) rfl hHeld ?_
              try simp only [Act.put, pS1, pS2, pS3]
              refine zX 14 (.agg B1) rfl hHeld ?_
              try simp only [Act.put, pS1, pS2, pS3]
              refine zX 15 (.bool b1) rfl hHeld ?_
              try simp only [Act.put, pS1, pS2, pS3]
              refine wpAnyH_ready (rs := [17]) (by kernel_rfl) (by simp) ?_
              refine (AllReadyH.cons (o := { dst := some 20, op := .alloc 25, type := 0, pos := "ref.go:59", after := #[], guard := none }) rfl (fun K hK => ?_) AllReadyH.nil)
              refine step_new_var (by rfl) 25 rfl Z HA.out ?_
              intro g2 w17 F17
              try have NE : Hid (g1 ≠ g2) := (by show _ ≠ _; rw [F17.out.new]; exact Nat.ne_of_lt (heap_lt V1.out.2))
              try replace V1 := hidk (And.intro V1.out.1 ((F17.out.below.block _ (heap_lt V1.out.2)).trans V1.out.2))
              have V2 : Hid (wb.heap.size ≤ g2 ∧ w17.heap[g2]? = some (.cells Z 25 (0, 0))) := ⟨by rw [F17.out.new]; exact HBW.out.size, F17.out.row⟩
              replace HBW := hidk (HBW.out.trans (F17.out.below.mono HBW.out.size))
              refine hK.out _ _ ((F17.out.below.block _ (heap_lt hHeld)).trans hHeld) (fun hHeld => ?_)
              clear hK K
              try simp only [Act.put, pS1, pS2, pS3]
              refine wpAnyH_ready (rs := [18]) (by kernel_rfl) (by simp) ?_
              refine (AllReadyH.cons (o := { dst := none, op := .store 25 (.tmp 19) (.tmp 86), type := 0, pos := "ref.go:59", after := #[zD 16, zD 13, zC 11, zP 0, zP 1, zP 2, zP 3, zP 4, zP 5, zP 6, zP 7, zP 8, zP 9, zP 10, zP 11, zP 12, zP 13, { on := 14, ground := Ground.textOnly Departure.lateStores }, { on := 15, ground := Ground.textOnly Departure.lateStores }, zP 16, zP 17], guard := none }) rfl (fun K hK => ?_) AllReadyH.nil)
              refine step_set_var (by rfl) 25 (.tmp 19) (.tmp 86) rfl g1 A1 rfl rfl 25 Z V1.out.2 HSA.out HZA.out H1A.out ?_
              intro w18 F18
              replace V2 := hidk (And.intro V2.out.1 ((F18.out.other _ (Ne.symm NE.out)).trans V2.out.2))
              replace HBW := hidk (F18.out.below _ _ HBW.out V1.out.1)
              refine hK.out _ _ ((F18.out.other _ (by have := V1.out.1; have := heap_lt HB3.out.2.1; omega)).trans hHeld) (fun hHeld => ?_)
              clear hK K
              try simp only [Act.put, pS1, pS2, pS3]
              refine wpAnyH_ready (rs := [19]) (by kernel_rfl) (by simp) ?_
              refine (AllReadyH.cons (o := { dst := none, op := .store 25 (.tmp 20) (.tmp 87), type := 0, pos := "ref.go:59", after := #[zD 17, zD 14, zC 18, zP 0, zP 1, zP 2, zP 3, zP 4, zP 5, zP 6, zP 7, zP 8, zP 9, zP 10, zP 11, zP 12, zP 13, zP 14, { on := 15, ground := Ground.textOnly Departure.lateStores }, zP 16, zP 17, zP 18], guard := none }) rfl (fun K hK => ?_) AllReadyH.nil)
              refine step_set_var (by rfl) 25 (.tmp 20) (.tmp 87) rfl g2 B1 rfl rfl 25 Z V2.out.2 HSB.out HZB.out H1B.out ?_
              intro w19 F19
              have R1 : Hid (w19.heap[g1]? = some (.cells A1 25 (0, 0))) := (F19.out.other _ NE.out).trans F18.out.row
              have R2 : Hid (w19.heap[g2]? = some (.cells B1 25 (0, 0))) := F19.out.row
              replace HBW := hidk (F19.out.below _ _ HBW.out V2.out.1)
              refine hK.out _ _ ((F19.out.other _ (by have := V2.out.1; have := heap_lt HB3.out.2.1; omega)).trans hHeld) (fun hHeld => ?_)
              clear hK K
              try simp only [Act.put, pS1, pS2, pS3]
              refine zX 20 (.bool b1) rfl hHeld ?_
              try simp only [Act.put, pS1, pS2, pS3]
              refine wpAnyH_done (by kernel_rfl) ?_ _
              have HB5 := hidk (HB3.out.keep HBW.out)
              have HL5 : Hid (w19.heap[gd]? = some (.cells L.toArray 25 (0, 0))) := (HBW.out.block _ (heap_lt HL.out)).trans HL.out
              have G1 : w.heap.size + 2 < g1 := Nat.lt_of_lt_of_le (heap_lt HB3.out.2.2.2) V1.out.1
              have G2 : w.heap.size + 2 < g2 := Nat.lt_of_lt_of_le (heap_lt HB3.out.2.2.2) V2.out.1
              have G3 : w.heap.size + 2 < gd := HGD.out
              have hS : w19.drew.heap[g1]? = some (.cells A1 25 (0, 0)) ∧ w19.drew.heap[g2]? = some (.cells B1 25 (0, 0)) ∧ w19.drew.heap[gd]? = some (.cells L.toArray 25 (0, 0)) := ⟨R1.out, R2.out, HL5.out⟩
              have HB6 : Hid (Came3 w w19.drew X Z) := ⟨HB5.out.1.drew, HB5.out.2⟩
              clear hHeld HB3 HL IH HBW V1 V2 NE R1 R2 HL5 HB5 HGD
              go_wp2
              refine wp_region_held_drew (S := (fun W => W.heap[g1]? = some (.cells A1 25 (0, 0)) ∧ W.heap[g2]? = some (.cells B1 25 (0, 0)) ∧ W.heap[gd]? = some (.cells L.toArray 25 (0, 0)))) (by kernel_rfl) hS (fun hHeld => ?_)
              refine zW 0 (.agg L.toArray) rfl (yieldsIf_row (by rfl) 25 (.tmp 14) rfl gd rfl 25 L.toArray (0, 0) _ (fun _ h => h.2.2) Tryz.underlying25 rfl HSE.out) hHeld ?_
              try simp only [Act.put, pS1, pS2, pS3]
              refine zW 1 (.agg A1) rfl (yieldsIf_row (by rfl) 25 (.tmp 19) rfl g1 rfl 25 A1 (0, 0) _ (fun _ h => h.1) Tryz.underlying25 rfl HSA.out) hHeld ?_
              try simp only [Act.put, pS1, pS2, pS3]
              refine zW 3 (.agg L.toArray) rfl (yieldsIf_row (by rfl) 25 (.tmp 14) rfl gd rfl 25 L.toArray (0, 0) _ (fun _ h => h.2.2) Tryz.underlying25 rfl HSE.out) hHeld ?_
              try simp only [Act.put, pS1, pS2, pS3]
              refine zW 4 (.agg B1) rfl (yieldsIf_row (by rfl) 25 (.tmp 20) rfl g2 rfl 25 B1 (0, 0) _ (fun _ h => h.2.1) Tryz.underlying25 rfl HSB.out) hHeld ?_
              try simp only [Act.put, pS1, pS2, pS3]
              refine zW 6 (.bool b1) rfl (Or.inl ⟨by rfl, by intro w hSw; go_simp⟩) hHeld ?_
              try simp only [Act.put, pS1, pS2, pS3]
              refine wpAnyH_ready (rs := [2]) (by kernel_rfl) (by simp) ?_
              refine AllReadyH.cons (o := { dst := some 91, op := .call { callee := .value (.func 71), args := #[.tmp 89, .tmp 90], argTypes := #[25, 25] }, type := 25, pos := "ref.go:60", after := #[zD 0, zD 1], guard := none }) rfl (fun K hK => ?_) AllReadyH.nil
              go_simp
              refine (KA.out _ HB6.out.1).mono ?_
              rintro e wj ⟨rfl, hbj⟩
              have HB6j := hidk (HB6.out.keep hbj)
              go_wp2_with fail
              refine hK.out _ _ ⟨(hbj.block _ (heap_lt hHeld.1)).trans hHeld.1, (hbj.block _ (heap_lt hHeld.2.1)).trans hHeld.2.1, (hbj.block _ (heap_lt hHeld.2.2)).trans hHeld.2.2⟩ (fun hHeld => ?_)
              clear hK K
              try simp only [Act.put, pS1, pS2, pS3]
              refine wpAnyH_ready (rs := [5]) (by kernel_rfl) (by simp) ?_
              refine AllReadyH.cons (o := { dst := some 94, op := .call { callee := .value (.func 71), args := #[.tmp 92, .tmp 93], argTypes := #[25, 25] }, type := 25, pos := "ref.go:60", after := #[zD 3, zD 4, zC 2], guard := none }) rfl (fun K hK => ?_) AllReadyH.nil
              go_simp
              refine (KB.out _ HB6j.out.1).mono ?_
              rintro e wk ⟨rfl, hbk⟩
              have HB7 := hidk (HB6j.out.keep hbk)
              go_wp2_with fail
              refine hK.out _ _ ⟨(hbk.block _ (heap_lt hHeld.1)).trans hHeld.1, (hbk.block _ (heap_lt hHeld.2.1)).trans hHeld.2.1, (hbk.block _ (heap_lt hHeld.2.2)).trans hHeld.2.2⟩ (fun hHeld => ?_)
              clear hK K
              try simp only [Act.put, pS1, pS2, pS3]
              refine wpAnyH_ready (rs := [7]) (by kernel_rfl) (by simp) ?_
              refine AllReadyH.cons (o := { dst := none, op := .store 25 (.tmp 10) (.tmp 91), type := 0, pos := "ref.go:60", after := #[zD 2, zC 5, zP 0, zP 1, zP 2, { on := 3, ground := Ground.textOnly Departure.lateStores }, { on := 4, ground := Ground.textOnly Departure.lateStores }, { on := 5, ground := Ground.textOnly Departure.lateStoresUnsure }, { on := 6, ground := Ground.textOnly Departure.lateStores }], guard := none }) rfl (fun K hK => ?_) AllReadyH.nil
              refine step_set_var (by rfl) 25 (.tmp 10) (.tmp 91) rfl (w.heap.size + 1) FA rfl rfl 25 Z HB7.out.2.2.1 HSFA.out HZFA.out H1FA.out ?_
              intro wx Fx
              refine hK.out _ _ ⟨(Fx.out.other _ (by omega)).trans hHeld.1, (Fx.out.other _ (by omega)).trans hHeld.2.1, (Fx.out.other _ (by omega)).trans hHeld.2.2⟩ (fun hHeld => ?_)
              clear hK K
              try simp only [Act.put, pS1, pS2, pS3]
              refine wpAnyH_ready (rs := [8]) (by kernel_rfl) (by simp) ?_
              refine AllReadyH.cons (o := { dst := none, op := .store 25 (.tmp 11) (.tmp 94), type := 0, pos := "ref.go:60", after := #[zD 5, zC 7, zP 0, zP 1, zP 2, zP 3, zP 4, zP 5, { on := 6, ground := Ground.textOnly Departure.lateStores }, zP 7], guard := none }) rfl (fun K hK => ?_) AllReadyH.nil
              refine step_set_var (by rfl) 25 (.tmp 11) (.tmp 94) rfl (w.heap.size + 2) FB rfl rfl 25 Z ((Fx.out.other _ (by omega)).trans HB7.out.2.2.2) HSFB.out HZFB.out H1FB.out ?_
              intro wy Fy
              refine hK.out _ _ ⟨(Fy.out.other _ (by omega)).trans hHeld.1, (Fy.out.other _ (by omega)).trans hHeld.2.1, (Fy.out.other _ (by omega)).trans hHeld.2.2⟩ (fun hHeld => ?_)
              clear hK K
              try simp only [Act.put, pS1, pS2, pS3]
              refine zW 9 (.bool b1) rfl (Or.inl ⟨by rfl, by intro w hSw; go_simp⟩) hHeld ?_
              try simp only [Act.put, pS1, pS2, pS3]
              refine wpAnyH_done (by kernel_rfl) ?_ _
              obtain ⟨r1, r2, r3⟩ := Came3.two HB7.out Fx.out Fy.out
              replace r1 := hidk r1
              replace r2 := hidk r2
              replace r3 := hidk r3
              clear hHeld Fx Fy HB7 HB6
              go_wp2
              refine bodyPost_ret (v := .tuple #[.agg FA, .agg FB, .bool b1]) ?_ rfl ⟨by rw [Hb1.out], r3.out⟩
              exact results_row_row_tmp (p1 := 10) (p2 := 11) (q := 12) (ty := 25) rfl _ _ (w.heap.size + 1) (w.heap.size + 2) 25 25 FA FB (0, 0) (0, 0) _ rfl rfl r1.out r2.out Tryz.underlying25 rfl HSFA.out HSFB.out
            · refine step_new_var (by rfl) 25 rfl Z HA.out ?_
              intro g2 w17 F17
              try have NE : Hid (g1 ≠ g2) := (by show _ ≠ _; rw [F17.out.new]; exact Nat.ne_of_lt (heap_lt V1.out.2))
              try replace V1 := hidk (And.intro V1.out.1 ((F17.out.below.block _ (heap_lt V1.out.2)).trans V1.out.2))
              have V2 : Hid (wb.heap.size ≤ g2 ∧ w17.heap[g2]? = some (.cells Z 25 (0, 0))) := ⟨by rw [F17.out.new]; exact HBW.out.size, F17.out.row⟩
              replace HBW := hidk (HBW.out.trans (F17.out.below.mono HBW.out.size))
              refine hK.out _ _ ((F17.out.below.block _ (heap_lt hHeld)).trans hHeld) (fun hHeld => ?_)
              clear hK K
              try simp only [Act.put, pS1, pS2, pS3]
              refine wpAnyH_ready (rs := [11]) (by kernel_rfl) (by simp) ?_
              refine (AllReadyH.cons (o := { dst := some 85, op := .call { callee := .value (.func 45), args := #[.tmp 76, .tmp 79, .tmp 80, .const (.bool false), .tmp 84], argTypes := #[3, 3, 25, 4, 30] }, type := 80, pos := "ref.go:59", after := #[zD 2, zD 5, zD 6, zD 10], guard := none }) rfl (fun K hK => ?_) AllReadyH.nil)
              go_simp
              refine (IH.out _ (HB3.out.1.trans (HBW.out.mono HB3.out.1.size))).mono ?_
              rintro e w11 ⟨rfl, hbc⟩
              try replace V1 := hidk (And.intro V1.out.1 ((hbc.block _ (heap_lt V1.out.2)).trans V1.out.2))
              try replace V2 := hidk (And.intro V2.out.1 ((hbc.block _ (heap_lt V2.out.2)).trans V2.out.2))
              replace HBW := hidk (HBW.out.trans (hbc.mono HBW.out.size))
              go_wp2_with fail
              refine hK.out _ _ ((hbc.block _ (heap_lt hHeld)).trans hHeld) (fun hHeld => ?_)
              clear hK K
              try simp only [Act.put, pS1, pS2, pS3]
              refine zX 12 (.tuple #[.agg A1, .agg B1, .bool b1]) rfl hHeld ?_
              try simp only [Act.put, pS1, pS2, pS3]
              refine zX 13 (.agg A1) rfl hHeld ?_
              try simp only [Act.put, pS1, pS2, pS3]
              refine zX 14 (.agg B1) rfl hHeld ?_
              try simp only [Act.put, pS1, pS2, pS3]
              refine zX 15 (.bool b1) rfl hHeld ?_
              try simp only [Act.put, pS1, pS2, pS3]
              refine wpAnyH_ready (rs := [18]) (by kernel_rfl) (by simp) ?_
              refine (AllReadyH.cons (o := { dst := none, op := .store 25 (.tmp 19) (.tmp 86), type := 0, pos := "ref.go:59", after := #[zD 16, zD 13, zC 11, zP 0, zP 1, zP 2, zP 3, zP 4, zP 5, zP 6, zP 7, zP 8, zP 9, zP 10, zP 11, zP 12, zP 13, { on := 14, ground := Ground.textOnly Departure.lateStores }, { on := 15, ground := Ground.textOnly Departure.lateStores }, zP 16, zP 17], guard := none }) rfl (fun K hK => ?_) AllReadyH.nil)
              refine step_set_var (by rfl) 25 (.tmp 19) (.tmp 86) rfl g1 A1 rfl rfl 25 Z V1.out.2 HSA.out HZA.out H1A.out ?_
              intro w18 F18
              replace V2 := hidk (And.intro V2.out.1 ((F18.out.other _ (Ne.symm NE.out)).trans V2.out.2))
              replace HBW := hidk (F18.out.below _ _ HBW.out V1.out.1)
              refine hK.out _ _ ((F18.out.other _ (by have := V1.out.1; have := heap_lt HB3.out.2.1; omega)).trans hHeld) (fun hHeld => ?_)
              clear hK K
              try simp only [Act.put, pS1, pS2, pS3]
              refine wpAnyH_ready (rs := [19]) (by kernel_rfl) (by simp) ?_
              refine (AllReadyH.cons (o := { dst := none, op := .store 25 (.tmp 20) (.tmp 87), type := 0, pos := "ref.go:59", after := #[zD 17, zD 14, zC 18, zP 0, zP 1, zP 2, zP 3, zP 4, zP 5, zP 6, zP 7, zP 8, zP 9, zP 10, zP 11, zP 12, zP 13, zP 14, { on := 15, ground := Ground.textOnly Departure.lateStores }, zP 16, zP 17, zP 18], guard := none }) rfl (fun K hK => ?_) AllReadyH.nil)
              refine step_set_var (by rfl) 25 (.tmp 20) (.tmp 87) rfl g2 B1 rfl rfl 25 Z V2.out.2 HSB.out HZB.out H1B.out ?_
              intro w19 F19
              have R1 : Hid (w19.heap[g1]? = some (.cells A1 25 (0, 0))) := (F19.out.other _ NE.out).trans F18.out.row
              have R2 : Hid (w19.heap[g2]? = some (.cells B1 25 (0, 0))) := F19.out.row
              replace HBW := hidk (F19.out.below _ _ HBW.out V2.out.1)
              refine hK.out _ _ ((F19.out.other _ (by have := V2.out.1; have := heap_lt HB3.out.2.1; omega)).trans hHeld) (fun hHeld => ?_)
              clear hK K
              try simp only [Act.put, pS1, pS2, pS3]
              refine zX 20 (.bool b1) rfl hHeld ?_
              try simp only [Act.put, pS1, pS2, pS3]
              refine wpAnyH_done (by kernel_rfl) ?_ _
              have HB5 := hidk (HB3.out.keep HBW.out)
              have HL5 : Hid (w19.heap[gd]? = some (.cells L.toArray 25 (0, 0))) := (HBW.out.block _ (heap_lt HL.out)).trans HL.out
              have G1 : w.heap.size + 2 < g1 := Nat.lt_of_lt_of_le (heap_lt HB3.out.2.2.2) V1.out.1
              have G2 : w.heap.size + 2 < g2 := Nat.lt_of_lt_of_le (heap_lt HB3.out.2.2.2) V2.out.1
              have G3 : w.heap.size + 2 < gd := HGD.out
              have hS : w19.drew.heap[g1]? = some (.cells A1 25 (0, 0)) ∧ w19.drew.heap[g2]? = some (.cells B1 25 (0, 0)) ∧ w19.drew.heap[gd]? = some (.cells L.toArray 25 (0, 0)) := ⟨R1.out, R2.out, HL5.out⟩
              have HB6 : Hid (Came3 w w19.drew X Z) := ⟨HB5.out.1.drew, HB5.out.2⟩
              clear hHeld HB3 HL IH HBW V1 V2 NE R1 R2 HL5 HB5 HGD
              go_wp2
              refine wp_region_held_drew (S := (fun W => W.heap[g1]? = some (.cells A1 25 (0, 0)) ∧ W.heap[g2]? = some (.cells B1 25 (0, 0)) ∧ W.heap[gd]? = some (.cells L.toArray 25 (0, 0)))) (by kernel_rfl) hS (fun hHeld => ?_)
              refine zW 0 (.agg L.toArray) rfl (yieldsIf_row (by rfl) 25 (.tmp 14) rfl gd rfl 25 L.toArray (0, 0) _ (fun _ h => h.2.2) Tryz.underlying25 rfl HSE.out) hHeld ?_
              try simp only [Act.put, pS1, pS2, pS3]
              refine zW 1 (.agg A1) rfl (yieldsIf_row (by rfl) 25 (.tmp 19) rfl g1 rfl 25 A1 (0, 0) _ (fun _ h => h.1) Tryz.underlying25 rfl HSA.out) hHeld ?_
              try simp only [Act.put, pS1, pS2, pS3]
              refine zW 3 (.agg L.toArray) rfl (yieldsIf_row (by rfl) 25 (.tmp 14) rfl gd rfl 25 L.toArray (0, 0) _ (fun _ h => h.2.2) Tryz.underlying25 rfl HSE.out) hHeld ?_
              try simp only [Act.put, pS1, pS2, pS3]
              refine zW 4 (.agg B1) rfl (yieldsIf_row (by rfl) 25 (.tmp 20) rfl g2 rfl 25 B1 (0, 0) _ (fun _ h => h.2.1) Tryz.underlying25 rfl HSB.out) hHeld ?_
              try simp only [Act.put, pS1, pS2, pS3]
              refine zW 6 (.bool b1) rfl (Or.inl ⟨by rfl, by intro w hSw; go_simp⟩) hHeld ?_
              try simp only [Act.put, pS1, pS2, pS3]
              refine wpAnyH_ready (rs := [2]) (by kernel_rfl) (by simp) ?_
              refine AllReadyH.cons (o := { dst := some 91, op := .call { callee := .value (.func 71), args := #[.tmp 89, .tmp 90], argTypes := #[25, 25] }, type := 25, pos := "ref.go:60", after := #[zD 0, zD 1], guard := none }) rfl (fun K hK => ?_) AllReadyH.nil
              go_simp
              refine (KA.out _ HB6.out.1).mono ?_
              rintro e wj ⟨rfl, hbj⟩
              have HB6j := hidk (HB6.out.keep hbj)
              go_wp2_with fail
              refine hK.out _ _ ⟨(hbj.block _ (heap_lt hHeld.1)).trans hHeld.1, (hbj.block _ (heap_lt hHeld.2.1)).trans hHeld.2.1, (hbj.block _ (heap_lt hHeld.2.2)).trans hHeld.2.2⟩ (fun hHeld => ?_)
              clear hK K
              try simp only [Act.put, pS1, pS2, pS3]
              refine wpAnyH_ready (rs := [5]) (by kernel_rfl) (by simp) ?_
              refine AllReadyH.cons (o := { dst := some 94, op := .call { callee := .value (.func 71), args := #[.tmp 92, .tmp 93], argTypes := #[25, 25] }, type := 25, pos := "ref.go:60", after := #[zD 3, zD 4, zC 2], guard := none }) rfl (fun K hK => ?_) AllReadyH.nil
              go_simp
              refine (KB.out _ HB6j.out.1).mono ?_
              rintro e wk ⟨rfl, hbk⟩
              have HB7 := hidk (HB6j.out.keep hbk)
              go_wp2_with fail
              refine hK.out _ _ ⟨(hbk.block _ (heap_lt hHeld.1)).trans hHeld.1, (hbk.block _ (heap_lt hHeld.2.1)).trans hHeld.2.1, (hbk.block _ (heap_lt hHeld.2.2)).trans hHeld.2.2⟩ (fun hHeld => ?_)
              clear hK K
              try simp only [Act.put, pS1, pS2, pS3]
              refine wpAnyH_ready (rs := [7]) (by kernel_rfl) (by simp) ?_
              refine AllReadyH.cons (o := { dst := none, op := .store 25 (.tmp 10) (.tmp 91), type := 0, pos := "ref.go:60", after := #[zD 2, zC 5, zP 0, zP 1, zP 2, { on := 3, ground := Ground.textOnly Departure.lateStores }, { on := 4, ground := Ground.textOnly Departure.lateStores }, { on := 5, ground := Ground.textOnly Departure.lateStoresUnsure }, { on := 6, ground := Ground.textOnly Departure.lateStores }], guard := none }) rfl (fun K hK => ?_) AllReadyH.nil
              refine step_set_var (by rfl) 25 (.tmp 10) (.tmp 91) rfl (w.heap.size + 1) FA rfl rfl 25 Z HB7.out.2.2.1 HSFA.out HZFA.out H1FA.out ?_
              intro wx Fx
              refine hK.out _ _ ⟨(Fx.out.other _ (by omega)).trans hHeld.1, (Fx.out.other _ (by omega)).trans hHeld.2.1, (Fx.out.other _ (by omega)).trans hHeld.2.2⟩ (fun hHeld => ?_)
              clear hK K
              try simp only [Act.put, pS1, pS2, pS3]
              refine wpAnyH_ready (rs := [8]) (by kernel_rfl) (by simp) ?_
              refine AllReadyH.cons (o := { dst := none, op := .store 25 (.tmp 11) (.tmp 94), type := 0, pos := "ref.go:60", after := #[zD 5, zC 7, zP 0, zP 1, zP 2, zP 3, zP 4, zP 5, { on := 6, ground := Ground.textOnly Departure.lateStores }, zP 7], guard := none }) rfl (fun K hK => ?_) AllReadyH.nil
              refine step_set_var (by rfl) 25 (.tmp 11) (.tmp 94) rfl (w.heap.size + 2) FB rfl rfl 25 Z ((Fx.out.other _ (by omega)).trans HB7.out.2.2.2) HSFB.out HZFB.out H1FB.out ?_
              intro wy Fy
              refine hK.out _ _ ⟨(Fy.out.other _ (by omega)).trans hHeld.1, (Fy.out.other _ (by omega)).trans hHeld.2.1, (Fy.out.other _ (by omega)).trans hHeld.2.2⟩ (fun hHeld => ?_)
              clear hK K
              try simp only [Act.put, pS1, pS2, pS3]
              refine zW 9 (.bool b1) rfl (Or.inl ⟨by rfl, by intro w hSw; go_simp⟩) hHeld ?_
              try simp only [Act.put, pS1, pS2, pS3]
              refine wpAnyH_done (by kernel_rfl) ?_ _
              obtain ⟨r1, r2, r3⟩ := Came3.two HB7.out Fx.out Fy.out
              replace r1 := hidk r1
              replace r2 := hidk r2
              replace r3 := hidk r3
              clear hHeld Fx Fy HB7 HB6
              go_wp2
              refine bodyPost_ret (v := .tuple #[.agg FA, .agg FB, .bool b1]) ?_ rfl ⟨by rw [Hb1.out], r3.out⟩
              exact results_row_row_tmp (p1 := 10) (p2 := 11) (q := 12) (ty := 25) rfl _ _ (w.heap.size + 1) (w.heap.size + 2) 25 25 FA FB (0, 0) (0, 0) _ rfl rfl r1.out r2.out Tryz.underlying25 rfl HSFA.out HSFB.out
          · refine step_new_var (by rfl) 25 rfl Z HA.out ?_
            intro g2 w17 F17
            try have NE : Hid (g1 ≠ g2) := (by show _ ≠ _; rw [F17.out.new]; exact Nat.ne_of_lt (heap_lt V1.out.2))
            try replace V1 := hidk (And.intro V1.out.1 ((F17.out.below.block _ (heap_lt V1.out.2)).trans V1.out.2))
            have V2 : Hid (wb.heap.size ≤ g2 ∧ w17.heap[g2]? = some (.cells Z 25 (0, 0))) := ⟨by rw [F17.out.new]; exact HBW.out.size, F17.out.row⟩
            replace HBW := hidk (HBW.out.trans (F17.out.below.mono HBW.out.size))
            refine hK.out _ _ ((F17.out.below.block _ (heap_lt hHeld)).trans hHeld) (fun hHeld => ?_)
            clear hK K
            try simp only [Act.put, pS1, pS2, pS3]
            refine wpAnyH_ready (rs := [11, 16]) (by kernel_rfl) (by simp) ?_
            refine (AllReadyH.cons (o := { dst := some 85, op := .call { callee := .value (.func 45), args := #[.tmp 76, .tmp 79, .tmp 80, .const (.bool false), .tmp 84], argTypes := #[3, 3, 25, 4, 30] }, type := 80, pos := "ref.go:59", after := #[zD 2, zD 5, zD 6, zD 10], guard := none }) rfl (fun K hK => ?_) (AllReadyH.cons (o := { dst := some 19, op := .alloc 25, type := 0, pos := "ref.go:59", after := #[], guard := none }) rfl (fun K hK => ?_) AllReadyH.nil))
            · go_simp
              refine (IH.out _ (HB3.out.1.trans (HBW.out.mono HB3.out.1.size))).mono ?_
              rintro e w11 ⟨rfl, hbc⟩
              try replace V1 := hidk (And.intro V1.out.1 ((hbc.block _ (heap_lt V1.out.2)).trans V1.out.2))
              try replace V2 := hidk (And.intro V2.out.1 ((hbc.block _ (heap_lt V2.out.2)).trans V2.out.2))
              replace HBW := hidk (HBW.out.trans (hbc.mono HBW.out.size))
              go_wp2_with fail
              refine hK.out _ _ ((hbc.block _ (heap_lt hHeld)).trans hHeld) (fun hHeld => ?_)
              clear hK K
              try simp only [Act.put, pS1, pS2, pS3]
              refine zX 12 (.tuple #[.agg A1, .agg B1, .bool b1]) rfl hHeld ?_
              try simp only [Act.put, pS1, pS2, pS3]
              refine zX 13 (.agg A1) rfl hHeld ?_
              try simp only [Act.put, pS1, pS2, pS3]
              refine zX 14 (.agg B1) rfl hHeld ?_
              try simp only [Act.put, pS1, pS2, pS3]
              refine zX 15 (.bool b1) rfl hHeld ?_
              try simp only [Act.put, pS1, pS2, pS3]
              refine wpAnyH_ready (rs := [16]) (by kernel_rfl) (by simp) ?_
              refine (AllReadyH.cons (o := { dst := some 19, op := .alloc 25, type := 0, pos := "ref.go:59", after := #[], guard := none }) rfl (fun K hK => ?_) AllReadyH.nil)
              refine step_new_var (by rfl) 25 rfl Z HA.out ?_
              intro g1 w16 F16
              try have NE : Hid (g1 ≠ g2) := (by show _ ≠ _; rw [F16.out.new]; exact (Nat.ne_of_lt (heap_lt V2.out.2)).symm)
              try replace V2 := hidk (And.intro V2.out.1 ((F16.out.below.block _ (heap_lt V2.out.2)).trans V2.out.2))
              have V1 : Hid (wb.heap.size ≤ g1 ∧ w16.heap[g1]? = some (.cells Z 25 (0, 0))) := ⟨by rw [F16.out.new]; exact HBW.out.size, F16.out.row⟩
              replace HBW := hidk (HBW.out.trans (F16.out.below.mono HBW.out.size))
              refine hK.out _ _ ((F16.out.below.block _ (heap_lt hHeld)).trans hHeld) (fun hHeld => ?_)
              clear hK K
              try simp only [Act.put, pS1, pS2, pS3]
              refine wpAnyH_ready (rs := [18]) (by kernel_rfl) (by simp) ?_
              refine (AllReadyH.cons (o := { dst := none, op := .store 25 (.tmp 19) (.tmp 86), type := 0, pos := "ref.go:59", after := #[zD 16, zD 13, zC 11, zP 0, zP 1, zP 2, zP 3, zP 4, zP 5, zP 6, zP 7, zP 8, zP 9, zP 10, zP 11, zP 12, zP 13, { on := 14, ground := Ground.textOnly Departure.lateStores }, { on := 15, ground := Ground.textOnly Departure.lateStores }, zP 16, zP 17], guard := none }) rfl (fun K hK => ?_) AllReadyH.nil)
              refine step_set_var (by rfl) 25 (.tmp 19) (.tmp 86) rfl g1 A1 rfl rfl 25 Z V1.out.2 HSA.out HZA.out H1A.out ?_
              intro w18 F18
              replace V2 := hidk (And.intro V2.out.1 ((F18.out.other _ (Ne.symm NE.out)).trans V2.out.2))
              replace HBW := hidk (F18.out.below _ _ HBW.out V1.out.1)
              refine hK.out _ _ ((F18.out.other _ (by have := V1.out.1; have := heap_lt HB3.out.2.1; omega)).trans hHeld) (fun hHeld => ?_)
              clear hK K
              try simp only [Act.put, pS1, pS2, pS3]
              refine wpAnyH_ready (rs := [19]) (by kernel_rfl) (by simp) ?_
              refine (AllReadyH.cons (o := { dst := none, op := .store 25 (.tmp 20) (.tmp 87), type := 0, pos := "ref.go:59", after := #[zD 17, zD 14, zC 18, zP 0, zP 1, zP 2, zP 3, zP 4, zP 5, zP 6, zP 7, zP 8, zP 9, zP 10, zP 11, zP 12, zP 13, zP 14, { on := 15, ground := Ground.textOnly Departure.lateStores }, zP 16, zP 17, zP 18], guard := none }) rfl (fun K hK => ?_) AllReadyH.nil)
              refine step_set_var (by rfl) 25 (.tmp 20) (.tmp 87) rfl g2 B1 rfl rfl 25 Z V2.out.2 HSB.out HZB.out H1B.out ?_
              intro w19 F19
              have R1 : Hid (w19.heap[g1]? = some (.cells A1 25 (0, 0))) := (F19.out.other _ NE.out).trans F18.out.row
              have R2 : Hid (w19.heap[g2]? = some (.cells B1 25 (0, 0))) := F19.out.row
              replace HBW := hidk (F19.out.below _ _ HBW.out V2.out.1)
              refine hK.out _ _ ((F19.out.other _ (by have := V2.out.1; have := heap_lt HB3.out.2.1; omega)).trans hHeld) (fun hHeld => ?_)
              clear hK K
              try simp only [Act.put, pS1, pS2, pS3]
              refine zX 20 (.bool b1) rfl hHeld ?_
              try simp only [Act.put, pS1, pS2, pS3]
              refine wpAnyH_done (by kernel_rfl) ?_ _
              have HB5 := hidk (HB3.out.keep HBW.out)
              have HL5 : Hid (w19.heap[gd]? = some (.cells L.toArray 25 (0, 0))) := (HBW.out.block _ (heap_lt HL.out)).trans HL.out
              have G1 : w.heap.size + 2 < g1 := Nat.lt_of_lt_of_le (heap_lt HB3.out.2.2.2) V1.out.1
              have G2 : w.heap.size + 2 < g2 := Nat.lt_of_lt_of_le (heap_lt HB3.out.2.2.2) V2.out.1
              have G3 : w.heap.size + 2 < gd := HGD.out
              have hS : w19.drew.heap[g1]? = some (.cells A1 25 (0, 0)) ∧ w19.drew.heap[g2]? = some (.cells B1 25 (0, 0)) ∧ w19.drew.heap[gd]? = some (.cells L.toArray 25 (0, 0)) := ⟨R1.out, R2.out, HL5.out⟩
              have HB6 : Hid (Came3 w w19.drew X Z) := ⟨HB5.out.1.drew, HB5.out.2⟩
              clear hHeld HB3 HL IH HBW V1 V2 NE R1 R2 HL5 HB5 HGD
              go_wp2
              refine wp_region_held_drew (S := (fun W => W.heap[g1]? = some (.cells A1 25 (0, 0)) ∧ W.heap[g2]? = some (.cells B1 25 (0, 0)) ∧ W.heap[gd]? = some (.cells L.toArray 25 (0, 0)))) (by kernel_rfl) hS (fun hHeld => ?_)
              refine zW 0 (.agg L.toArray) rfl (yieldsIf_row (by rfl) 25 (.tmp 14) rfl gd rfl 25 L.toArray (0, 0) _ (fun _ h => h.2.2) Tryz.underlying25 rfl HSE.out) hHeld ?_
              try simp only [Act.put, pS1, pS2, pS3]
              refine zW 1 (.agg A1) rfl (yieldsIf_row (by rfl) 25 (.tmp 19) rfl g1 rfl 25 A1 (0, 0) _ (fun _ h => h.1) Tryz.underlying25 rfl HSA.out) hHeld ?_
              try simp only [Act.put, pS1, pS2, pS3]
              refine zW 3 (.agg L.toArray) rfl (yieldsIf_row (by rfl) 25 (.tmp 14) rfl gd rfl 25 L.toArray (0, 0) _ (fun _ h => h.2.2) Tryz.underlying25 rfl HSE.out) hHeld ?_
              try simp only [Act.put, pS1, pS2, pS3]
              refine zW 4 (.agg B1) rfl (yieldsIf_row (by rfl) 25 (.tmp 20) rfl g2 rfl 25 B1 (0, 0) _ (fun _ h => h.2.1) Tryz.underlying25 rfl HSB.out) hHeld ?_
              try simp only [Act.put, pS1, pS2, pS3]
              refine zW 6 (.bool b1) rfl (Or.inl ⟨by rfl, by intro w hSw; go_simp⟩) hHeld ?_
              try simp only [Act.put, pS1, pS2, pS3]
              refine wpAnyH_ready (rs := [2]) (by kernel_rfl) (by simp) ?_
              refine AllReadyH.cons (o := { dst := some 91, op := .call { callee := .value (.func 71), args := #[.tmp 89, .tmp 90], argTypes := #[25, 25] }, type := 25, pos := "ref.go:60", after := #[zD 0, zD 1], guard := none }) rfl (fun K hK => ?_) AllReadyH.nil
              go_simp
              refine (KA.out _ HB6.out.1).mono ?_
              rintro e wj ⟨rfl, hbj⟩
              have HB6j := hidk (HB6.out.keep hbj)
              go_wp2_with fail
              refine hK.out _ _ ⟨(hbj.block _ (heap_lt hHeld.1)).trans hHeld.1, (hbj.block _ (heap_lt hHeld.2.1)).trans hHeld.2.1, (hbj.block _ (heap_lt hHeld.2.2)).trans hHeld.2.2⟩ (fun hHeld => ?_)
              clear hK K
              try simp only [Act.put, pS1, pS2, pS3]
              refine wpAnyH_ready (rs := [5]) (by kernel_rfl) (by simp) ?_
              refine AllReadyH.cons (o := { dst := some 94, op := .call { callee := .value (.func 71), args := #[.tmp 92, .tmp 93], argTypes := #[25, 25] }, type := 25, pos := "ref.go:60", after := #[zD 3, zD 4, zC 2], guard := none }) rfl (fun K hK => ?_) AllReadyH.nil
              go_simp
              refine (KB.out _ HB6j.out.1).mono ?_
              rintro e wk ⟨rfl, hbk⟩
              have HB7 := hidk (HB6j.out.keep hbk)
              go_wp2_with fail
              refine hK.out _ _ ⟨(hbk.block _ (heap_lt hHeld.1)).trans hHeld.1, (hbk.block _ (heap_lt hHeld.2.1)).trans hHeld.2.1, (hbk.block _ (heap_lt hHeld.2.2)).trans hHeld.2.2⟩ (fun hHeld => ?_)
              clear hK K
              try simp only [Act.put, pS1, pS2, pS3]
              refine wpAnyH_ready (rs := [7]) (by kernel_rfl) (by simp) ?_
              refine AllReadyH.cons (o := { dst := none, op := .store 25 (.tmp 10) (.tmp 91), type := 0, pos := "ref.go:60", after := #[zD 2, zC 5, zP 0, zP 1, zP 2, { on := 3, ground := Ground.textOnly Departure.lateStores }, { on := 4, ground := Ground.textOnly Departure.lateStores }, { on := 5, ground := Ground.textOnly Departure.lateStoresUnsure }, { on := 6, ground := Ground.textOnly Departure.lateStores }], guard := none }) rfl (fun K hK => ?_) AllReadyH.nil
              refine step_set_var (by rfl) 25 (.tmp 10) (.tmp 91) rfl (w.heap.size + 1) FA rfl rfl 25 Z HB7.out.2.2.1 HSFA.out HZFA.out H1FA.out ?_
              intro wx Fx
              refine hK.out _ _ ⟨(Fx.out.other _ (by omega)).trans hHeld.1, (Fx.out.other _ (by omega)).trans hHeld.2.1, (Fx.out.other _ (by omega)).trans hHeld.2.2⟩ (fun hHeld => ?_)
              clear hK K
              try simp only [Act.put, pS1, pS2, pS3]
              refine wpAnyH_ready (rs := [8]) (by kernel_rfl) (by simp) ?_
              refine AllReadyH.cons (o := { dst := none, op := .store 25 (.tmp 11) (.tmp 94), type := 0, pos := "ref.go:60", after := #[zD 5, zC 7, zP 0, zP 1, zP 2, zP 3, zP 4, zP 5, { on := 6, ground := Ground.textOnly Departure.lateStores }, zP 7], guard := none }) rfl (fun K hK => ?_) AllReadyH.nil
              refine step_set_var (by rfl) 25 (.tmp 11) (.tmp 94) rfl (w.heap.size + 2) FB rfl rfl 25 Z ((Fx.out.other _ (by omega)).trans HB7.out.2.2.2) HSFB.out HZFB.out H1FB.out ?_
              intro wy Fy
              refine hK.out _ _ ⟨(Fy.out.other _ (by omega)).trans hHeld.1, (Fy.out.other _ (by omega)).trans hHeld.2.1, (Fy.out.other _ (by omega)).trans hHeld.2.2⟩ (fun hHeld => ?_)
              clear hK K
              try simp only [Act.put, pS1, pS2, pS3]
              refine zW 9 (.bool b1) rfl (Or.inl ⟨by rfl, by intro w hSw; go_simp⟩) hHeld ?_
              try simp only [Act.put, pS1, pS2, pS3]
              refine wpAnyH_done (by kernel_rfl) ?_ _
              obtain ⟨r1, r2, r3⟩ := Came3.two HB7.out Fx.out Fy.out
              replace r1 := hidk r1
              replace r2 := hidk r2
              replace r3 := hidk r3
              clear hHeld Fx Fy HB7 HB6
              go_wp2
              refine bodyPost_ret (v := .tuple #[.agg FA, .agg FB, .bool b1]) ?_ rfl ⟨by rw [Hb1.out], r3.out⟩
              exact results_row_row_tmp (p1 := 10) (p2 := 11) (q := 12) (ty := 25) rfl _ _ (w.heap.size + 1) (w.heap.size + 2) 25 25 FA FB (0, 0) (0, 0) _ rfl rfl r1.out r2.out Tryz.underlying25 rfl HSFA.out HSFB.out
            · refine step_new_var (by rfl) 25 rfl Z HA.out ?_
              intro g1 w16 F16
              try have NE : Hid (g1 ≠ g2) := (by show _ ≠ _; rw [F16.out.new]; exact (Nat.ne_of_lt (heap_lt V2.out.2)).symm)
              try replace V2 := hidk (And.intro V2.out.1 ((F16.out.below.block _ (heap_lt V2.out.2)).trans V2.out.2))
              have V1 : Hid (wb.heap.size ≤ g1 ∧ w16.heap[g1]? = some (.cells Z 25 (0, 0))) := ⟨by rw [F16.out.new]; exact HBW.out.size, F16.out.row⟩
              replace HBW := hidk (HBW.out.trans (F16.out.below.mono HBW.out.size))
              refine hK.out _ _ ((F16.out.below.block _ (heap_lt hHeld)).trans hHeld) (fun hHeld => ?_)
              clear hK K
              try simp only [Act.put, pS1, pS2, pS3]
              refine wpAnyH_ready (rs := [11]) (by kernel_rfl) (by simp) ?_
              refine (AllReadyH.cons (o := { dst := some 85, op := .call { callee := .value (.func 45), args := #[.tmp 76, .tmp 79, .tmp 80, .const (.bool false), .tmp 84], argTypes := #[3, 3, 25, 4, 30] }, type := 80, pos := "ref.go:59", after := #[zD 2, zD 5, zD 6, zD 10], guard := none }) rfl (fun K hK => ?_) AllReadyH.nil)
              go_simp
              refine (IH.out _ (HB3.out.1.trans (HBW.out.mono HB3.out.1.size))).mono ?_
              rintro e w11 ⟨rfl, hbc⟩
              try replace V1 := hidk (And.intro V1.out.1 ((hbc.block _ (heap_lt V1.out.2)).trans V1.out.2))
              try replace V2 := hidk (And.intro V2.out.1 ((hbc.block _ (heap_lt V2.out.2)).trans V2.out.2))
              replace HBW := hidk (HBW.out.trans (hbc.mono HBW.out.size))
              go_wp2_with fail
              refine hK.out _ _ ((hbc.block _ (heap_lt hHeld)).trans hHeld) (fun hHeld => ?_)
              clear hK K
              try simp only [Act.put, pS1, pS2, pS3]
              refine zX 12 (.tuple #[.agg A1, .agg B1, .bool b1]) rfl hHeld ?_
              try simp only [Act.put, pS1, pS2, pS3]
              refine zX 13 (.agg A1) rfl hHeld ?_
              try simp only [Act.put, pS1, pS2, pS3]
              refine zX 14 (.agg B1) rfl hHeld ?_
              try simp only [Act.put, pS1, pS2, pS3]
              refine zX 15 (.bool b1) rfl hHeld ?_
              try simp only [Act.put, pS1, pS2, pS3]
              refine wpAnyH_ready (rs := [18]) (by kernel_rfl) (by simp) ?_
              refine (AllReadyH.cons (o := { dst := none, op := .store 25 (.tmp 19) (.tmp 86), type := 0, pos := "ref.go:59", after := #[zD 16, zD 13, zC 11, zP 0, zP 1, zP 2, zP 3, zP 4, zP 5, zP 6, zP 7, zP 8, zP 9, zP 10, zP 11, zP 12, zP 13, { on := 14, ground := Ground.textOnly Departure.lateStores }, { on := 15, ground := Ground.textOnly Departure.lateStores }, zP 16, zP 17], guard := none }) rfl (fun K hK => ?_) AllReadyH.nil)
              refine step_set_var (by rfl) 25 (.tmp 19) (.tmp 86) rfl g1 A1 rfl rfl 25 Z V1.out.2 HSA.out HZA.out H1A.out ?_
              intro w18 F18
              replace V2 := hidk (And.intro V2.out.1 ((F18.out.other _ (Ne.symm NE.out)).trans V2.out.2))
              replace HBW := hidk (F18.out.below _ _ HBW.out V1.out.1)
              refine hK.out _ _ ((F18.out.other _ (by have := V1.out.1; have := heap_lt HB3.out.2.1; omega)).trans hHeld) (fun hHeld => ?_)
              clear hK K
              try simp only [Act.put, pS1, pS2, pS3]
              refine wpAnyH_ready (rs := [19]) (by kernel_rfl) (by simp) ?_
              refine (AllReadyH.cons (o := { dst := none, op := .store 25 (.tmp 20) (.tmp 87), type := 0, pos := "ref.go:59", after := #[zD 17, zD 14, zC 18, zP 0, zP 1, zP 2, zP 3, zP 4, zP 5, zP 6, zP 7, zP 8, zP 9, zP 10, zP 11, zP 12, zP 13, zP 14, { on := 15, ground := Ground.textOnly Departure.lateStores }, zP 16, zP 17, zP 18], guard := none }) rfl (fun K hK => ?_) AllReadyH.nil)
              refine step_set_var (by rfl) 25 (.tmp 20) (.tmp 87) rfl g2 B1 rfl rfl 25 Z V2.out.2 HSB.out HZB.out H1B.out ?_
              intro w19 F19
              have R1 : Hid (w19.heap[g1]? = some (.cells A1 25 (0, 0))) := (F19.out.other _ NE.out).trans F18.out.row
              have R2 : Hid (w19.heap[g2]? = some (.cells B1 25 (0, 0))) := F19.out.row
              replace HBW := hidk (F19.out.below _ _ HBW.out V2.out.1)
              refine hK.out _ _ ((F19.out.other _ (by have := V2.out.1; have := heap_lt HB3.out.2.1; omega)).trans hHeld) (fun hHeld => ?_)
              clear hK K
              try simp only [Act.put, pS1, pS2, pS3]
              refine zX 20 (.bool b1) rfl hHeld ?_
              try simp only [Act.put, pS1, pS2, pS3]
              refine wpAnyH_done (by kernel_rfl) ?_ _
              have HB5 := hidk (HB3.out.keep HBW.out)
              have HL5 : Hid (w19.heap[gd]? = some (.cells L.toArray 25 (0, 0))) := (HBW.out.block _ (heap_lt HL.out)).trans HL.out
              have G1 : w.heap.size + 2 < g1 := Nat.lt_of_lt_of_le (heap_lt HB3.out.2.2.2) V1.out.1
              have G2 : w.heap.size + 2 < g2 := Nat.lt_of_lt_of_le (heap_lt HB3.out.2.2.2) V2.out.1
              have G3 : w.heap.size + 2 < gd := HGD.out
              have hS : w19.drew.heap[g1]? = some (.cells A1 25 (0, 0)) ∧ w19.drew.heap[g2]? = some (.cells B1 25 (0, 0)) ∧ w19.drew.heap[gd]? = some (.cells L.toArray 25 (0, 0)) := ⟨R1.out, R2.out, HL5.out⟩
              have HB6 : Hid (Came3 w w19.drew X Z) := ⟨HB5.out.1.drew, HB5.out.2⟩
              clear hHeld HB3 HL IH HBW V1 V2 NE R1 R2 HL5 HB5 HGD
              go_wp2
              refine wp_region_held_drew (S := (fun W => W.heap[g1]? = some (.cells A1 25 (0, 0)) ∧ W.heap[g2]? = some (.cells B1 25 (0, 0)) ∧ W.heap[gd]? = some (.cells L.toArray 25 (0, 0)))) (by kernel_rfl) hS (fun hHeld => ?_)
              refine zW 0 (.agg L.toArray) rfl (yieldsIf_row (by rfl) 25 (.tmp 14) rfl gd rfl 25 L.toArray (0, 0) _ (fun _ h => h.2.2) Tryz.underlying25 rfl HSE.out) hHeld ?_
              try simp only [Act.put, pS1, pS2, pS3]
              refine zW 1 (.agg A1) rfl (yieldsIf_row (by rfl) 25 (.tmp 19) rfl g1 rfl 25 A1 (0, 0) _ (fun _ h => h.1) Tryz.underlying25 rfl HSA.out) hHeld ?_
              try simp only [Act.put, pS1, pS2, pS3]
              refine zW 3 (.agg L.toArray) rfl (yieldsIf_row (by rfl) 25 (.tmp 14) rfl gd rfl 25 L.toArray (0, 0) _ (fun _ h => h.2.2) Tryz.underlying25 rfl HSE.out) hHeld ?_
              try simp only [Act.put, pS1, pS2, pS3]
              refine zW 4 (.agg B1) rfl (yieldsIf_row (by rfl) 25 (.tmp 20) rfl g2 rfl 25 B1 (0, 0) _ (fun _ h => h.2.1) Tryz.underlying25 rfl HSB.out) hHeld ?_
              try simp only [Act.put, pS1, pS2, pS3]
              refine zW 6 (.bool b1) rfl (Or.inl ⟨by rfl, by intro w hSw; go_simp⟩) hHeld ?_
              try simp only [Act.put, pS1, pS2, pS3]
              refine wpAnyH_ready (rs := [2]) (by kernel_rfl) (by simp) ?_
              refine AllReadyH.cons (o := { dst := some 91, op := .call { callee := .value (.func 71), args := #[.tmp 89, .tmp 90], argTypes := #[25, 25] }, type := 25, pos := "ref.go:60", after := #[zD 0, zD 1], guard := none }) rfl (fun K hK => ?_) AllReadyH.nil
              go_simp
              refine (KA.out _ HB6.out.1).mono ?_
              rintro e wj ⟨rfl, hbj⟩
              have HB6j := hidk (HB6.out.keep hbj)
              go_wp2_with fail
              refine hK.out _ _ ⟨(hbj.block _ (heap_lt hHeld.1)).trans hHeld.1, (hbj.block _ (heap_lt hHeld.2.1)).trans hHeld.2.1, (hbj.block _ (heap_lt hHeld.2.2)).trans hHeld.2.2⟩ (fun hHeld => ?_)
              clear hK K
              try simp only [Act.put, pS1, pS2, pS3]
              refine wpAnyH_ready (rs := [5]) (by kernel_rfl) (by simp) ?_
              refine AllReadyH.cons (o := { dst := some 94, op := .call { callee := .value (.func 71), args := #[.tmp 92, .tmp 93], argTypes := #[25, 25] }, type := 25, pos := "ref.go:60", after := #[zD 3, zD 4, zC 2], guard := none }) rfl (fun K hK => ?_) AllReadyH.nil
              go_simp
              refine (KB.out _ HB6j.out.1).mono ?_
              rintro e wk ⟨rfl, hbk⟩
              have HB7 := hidk (HB6j.out.keep hbk)
              go_wp2_with fail
              refine hK.out _ _ ⟨(hbk.block _ (heap_lt hHeld.1)).trans hHeld.1, (hbk.block _ (heap_lt hHeld.2.1)).trans hHeld.2.1, (hbk.block _ (heap_lt hHeld.2.2)).trans hHeld.2.2⟩ (fun hHeld => ?_)
              clear hK K
              try simp only [Act.put, pS1, pS2, pS3]
              refine wpAnyH_ready (rs := [7]) (by kernel_rfl) (by simp) ?_
              refine AllReadyH.cons (o := { dst := none, op := .store 25 (.tmp 10) (.tmp 91), type := 0, pos := "ref.go:60", after := #[zD 2, zC 5, zP 0, zP 1, zP 2, { on := 3, ground := Ground.textOnly Departure.lateStores }, { on := 4, ground := Ground.textOnly Departure.lateStores }, { on := 5, ground := Ground.textOnly Departure.lateStoresUnsure }, { on := 6, ground := Ground.textOnly Departure.lateStores }], guard := none }) rfl (fun K hK => ?_) AllReadyH.nil
              refine step_set_var (by rfl) 25 (.tmp 10) (.tmp 91) rfl (w.heap.size + 1) FA rfl rfl 25 Z HB7.out.2.2.1 HSFA.out HZFA.out H1FA.out ?_
              intro wx Fx
              refine hK.out _ _ ⟨(Fx.out.other _ (by omega)).trans hHeld.1, (Fx.out.other _ (by omega)).trans hHeld.2.1, (Fx.out.other _ (by omega)).trans hHeld.2.2⟩ (fun hHeld => ?_)
              clear hK K
              try simp only [Act.put, pS1, pS2, pS3]
              refine wpAnyH_ready (rs := [8]) (by kernel_rfl) (by simp) ?_
              refine AllReadyH.cons (o := { dst := none, op := .store 25 (.tmp 11) (.tmp 94), type := 0, pos := "ref.go:60", after := #[zD 5, zC 7, zP 0, zP 1, zP 2, zP 3, zP 4, zP 5, { on := 6, ground := Ground.textOnly Departure.lateStores }, zP 7], guard := none }) rfl (fun K hK => ?_) AllReadyH.nil
              refine step_set_var (by rfl) 25 (.tmp 11) (.tmp 94) rfl (w.heap.size + 2) FB rfl rfl 25 Z ((Fx.out.other _ (by omega)).trans HB7.out.2.2.2) HSFB.out HZFB.out H1FB.out ?_
              intro wy Fy
              refine hK.out _ _ ⟨(Fy.out.other _ (by omega)).trans hHeld.1, (Fy.out.other _ (by omega)).trans hHeld.2.1, (Fy.out.other _ (by omega)).trans hHeld.2.2⟩ (fun hHeld => ?_)
              clear hK K
              try simp only [Act.put, pS1, pS2, pS3]
              refine zW 9 (.bool b1) rfl (Or.inl ⟨by rfl, by intro w hSw; go_simp⟩) hHeld ?_
              try simp only [Act.put, pS1, pS2, pS3]
              refine wpAnyH_done (by kernel_rfl) ?_ _
              obtain ⟨r1, r2, r3⟩ := Came3.two HB7.out Fx.out Fy.out
              replace r1 := hidk r1
              replace r2 := hidk r2
              replace r3 := hidk r3
              clear hHeld Fx Fy HB7 HB6
              go_wp2
              refine bodyPost_ret (v := .tuple #[.agg FA, .agg FB, .bool b1]) ?_ rfl ⟨by rw [Hb1.out], r3.out⟩
              exact results_row_row_tmp (p1 := 10) (p2 := 11) (q := 12) (ty := 25) rfl _ _ (w.heap.size + 1) (w.heap.size + 2) 25 25 FA FB (0, 0) (0, 0) _ rfl rfl r1.out r2.out Tryz.underlying25 rfl HSFA.out HSFB.out
end Go.Proofs.YtjalebncfnekiaaGreatDoor.P5
