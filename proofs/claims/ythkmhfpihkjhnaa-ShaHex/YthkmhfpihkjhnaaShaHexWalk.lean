/- ShaHex returns true for any digest and any text. -/
import Derived.Test.YthkmhfpihkjhnaaHexes
import Derived.Test.YthkmhfpihkjhnaaRefHex
import Derived.Test.YthkmhfpihkjhnaaRefParse
namespace Go.Proofs.Ythkmhfpihkjhnaa
open Go.RowKit Digs
set_option linter.unusedVariables false

set_option maxHeartbeats 1000000 in
theorem shaHex_long (D : Array Value) (s : ByteArray) (w : World) (hs : s.size ≤ maxLen) (h : (65536 : Int) < (s.size : Int)) :
    Calls Try.prog 3 #[.agg D, .string s] w fun e w' => e = .returned (.bool true) ∧ Below w.heap.size w w' := by
  unfold maxLen at hs
  go_enter Try.func3, Try.ntmps3
  go_wp2
  go_ret
  exact ⟨rfl, (Below.refl _ _).alloc (Nat.le_refl _) _⟩

theorem range_keep {W W' : World} {g o : Nat} {l : List Value} (hb : Below W.heap.size W W') (h : W.rangeAt g o l) : W'.rangeAt g o l := fun j v hj => by
  have hc := h j v hj
  rw [hb.cell (World.block_lt_of_cell? _ _ hc)]
  exact hc
theorem range_row {W : World} {g : Nat} {l : List Value} {t : TypeId} {fr : Nat × Nat} (h : W.heap[g]? = some (.cells l.toArray t fr)) : W.rangeAt g 0 l := fun j v hj => by
  rw [Nat.zero_add, cell_of_row W g j _ t fr h]
  simpa using hj

/-- What stays while the last line is worked out. -/
theorem keep3 {w W W' : World} {g0 g1 g2 : Nat} {D Y : List Value} (hb : Below W.heap.size W W') (h : W.rangeAt g0 0 D ∧ W.rangeAt g1 0 Y ∧ W.rangeAt g2 0 Y ∧ Below w.heap.size w W) :
    W'.rangeAt g0 0 D ∧ W'.rangeAt g1 0 Y ∧ W'.rangeAt g2 0 Y ∧ Below w.heap.size w W' :=
  ⟨range_keep hb h.1, range_keep hb h.2.1, range_keep hb h.2.2.1, h.2.2.2.trans (hb.mono h.2.2.2.size)⟩
theorem keep3d {w W : World} {g0 g1 g2 : Nat} {D Y : List Value} (h : W.rangeAt g0 0 D ∧ W.rangeAt g1 0 Y ∧ W.rangeAt g2 0 Y ∧ Below w.heap.size w W) :
    W.drew.rangeAt g0 0 D ∧ W.drew.rangeAt g1 0 Y ∧ W.drew.rangeAt g2 0 Y ∧ Below w.heap.size w W.drew := keep3 (Below.refl _ _).drew h

set_option maxHeartbeats 2000000 in
theorem shaHex_rest (d : List UInt8) (hd : d.length = 32) (s : ByteArray) (w : World) (hs : s.size ≤ 65536) :
    Calls Try.prog 3 #[digV d, .string s] w fun e w' => e = .returned (.bool true) ∧ Below w.heap.size w w' := by
  obtain ⟨Z, HZ, HA, HB, HS, H1⟩ := noughts
  obtain ⟨D, HD, HSD, H1D, H32⟩ := dig_row d hd
  obtain ⟨Y, HY, HSY, H1Y, H32Y⟩ := dig_row (parseD s.data.toList) (parseD_length _)
  obtain ⟨D, rfl⟩ : ∃ l : List Value, D = l.toArray := ⟨D.toList, by simp⟩
  obtain ⟨Y, rfl⟩ : ∃ l : List Value, Y = l.toArray := ⟨Y.toList, by simp⟩
  have HZY : Hid (Z.size = Y.toArray.size) := by
    have h1 := HS.out
    rw [HSY.out] at h1
    exact (Option.some.inj h1).symm
  obtain ⟨t, HT⟩ : ∃ t : ByteArray, Hid (t = ⟨(hexL d).toArray⟩) := ⟨_, (rfl : (⟨(hexL d).toArray⟩ : ByteArray) = _)⟩
  obtain ⟨f, HF⟩ : ∃ f : Int, Hid (f = parseE s.data.toList) := ⟨_, (rfl : parseE s.data.toList = _)⟩
  have K8 : Hid (∀ w, Calls Try.prog 8 #[.agg D.toArray] w fun e w' => e = .returned (.string t) ∧ Below w.heap.size w w') := by
    intro w; rw [HD.out, HT.out]; exact hex_any d hd w
  have K9 : Hid (∀ w, Calls Try.prog 9 #[.agg D.toArray] w fun e w' => e = .returned (.string t) ∧ Below w.heap.size w w') := by
    intro w; rw [HD.out, HT.out]; exact refHex_any d hd w
  have K5 : Hid (∀ w, Calls Try.prog 5 #[.string s] w fun e w' => e = .returned (.tuple #[.agg Y.toArray, .int .i64 f]) ∧ Below w.heap.size w w') := by
    intro w
    rw [HY.out, HF.out]
    exact parse_any s w (by unfold maxLen; omega)
  have K6 : Hid (∀ w, Calls Try.prog 6 #[.string s] w fun e w' => e = .returned (.tuple #[.agg Y.toArray, .int .i64 f]) ∧ Below w.heap.size w w') := by
    intro w
    rw [HY.out, HF.out]
    exact refParse_any s w (by unfold maxLen; omega)
  have heq : ∀ w, (binOp .eql 23 (.agg Y.toArray) (.agg Y.toArray)).run Try.prog w = .ok (.bool true) w := by
    intro w
    rw [HY.out, eqDig _ _ (parseD_length _) (parseD_length _)]
    simp
  have HX : Hid (digV d = .agg D.toArray) := by show _ = _; rw [HD.out]; rfl
  rw [HX.out]
  go_enter Try.func3, Try.ntmps3
  go_wp2_with fail
  refine (K5.out _).mono ?_
  rintro e w1 ⟨rfl, hb1⟩
  go_wp2_with (first
    | (refine wpList_alloc_row rfl 23 rfl Z HA.out ?_)
    | (refine wpList_store_row rfl 23 (.tmp 5) (.tmp 15) rfl w1.heap.size Y.toArray rfl rfl 23 Z (heap_alloc_new w1 _) HSY.out HZY.out H1Y.out ?_)
    | fail)
  refine (K6.out _).mono ?_
  rintro e w2 ⟨rfl, hb2⟩
  go_wp2_with (first
    | (refine wpList_alloc_row rfl 23 rfl Z HA.out ?_)
    | (refine wpList_store_row rfl 23 (.tmp 7) (.tmp 20) rfl w2.heap.size Y.toArray rfl rfl 23 Z (heap_alloc_new w2 _) HSY.out HZY.out H1Y.out ?_)
    | (fail))
  have hs1 := hb1.size
  have hs2 := hb2.size
  rw [World.size_alloc] at hs1
  rw [size_var] at hs2
  have hS : ((w2.alloc (.cells Z 23)).setRow w2.heap.size Y.toArray).rangeAt w.heap.size 0 D ∧ ((w2.alloc (.cells Z 23)).setRow w2.heap.size Y.toArray).rangeAt w1.heap.size 0 Y ∧
      ((w2.alloc (.cells Z 23)).setRow w2.heap.size Y.toArray).rangeAt w2.heap.size 0 Y ∧ Below w.heap.size w ((w2.alloc (.cells Z 23)).setRow w2.heap.size Y.toArray) := by
    have G1 : w1.heap[w.heap.size]? = some (.cells D.toArray 23 (0, 0)) := by
      rw [hb1.block _ (by simp)]; exact heap_alloc_new w _
    have G2 : w2.heap[w.heap.size]? = some (.cells D.toArray 23 (0, 0)) ∧ w2.heap[w1.heap.size]? = some (.cells Y.toArray 23 (0, 0)) := by
      rw [hb2.block _ (by rw [size_var]; omega), hb2.block _ (by rw [size_var]; omega)]
      exact ⟨keep_var G1 _ _, new_var w1 Z Y.toArray 23⟩
    exact ⟨range_row (keep_var G2.1 _ _), range_row (keep_var G2.2 _ _), range_row (new_var w2 Z Y.toArray 23),
      below_var ((below_var (((Below.refl _ _).alloc (Nat.le_refl _) _).trans (hb1.mono (by simp))) (by omega) _ _).trans (hb2.mono (by rw [size_var]; omega))) (by omega) _ _⟩
  have hu := Try.underlying23
  have z0 : (Try.prog.info? 23).map (·.size) = some D.length := by have := HSD.out; simpa using this
  have z1 : (Try.prog.info? 23).map (·.size) = some Y.length := by have := HSY.out; simpa using this
  clear hb1 hb2 hs1 hs2
  generalize (w2.alloc (.cells Z 23)).setRow w2.heap.size Y.toArray = w3 at hS ⊢
  generalize w1.heap.size = g1 at hS ⊢
  generalize w2.heap.size = g2 at hS ⊢
  refine wp_region_held_drew (S := (fun W => W.rangeAt w.heap.size 0 D ∧ W.rangeAt g1 0 Y ∧ W.rangeAt g2 0 Y ∧ Below w.heap.size w W)) (by kernel_rfl) (keep3d hS) (fun hHeld => ?_)
  refine wpAnyH_ready (rs := [0]) (by kernel_rfl) (by simp) ?_
  refine AllReadyH.cons (o := { dst := some 22, op := Op.call { callee := Callee.value (Operand.func 7), args := #[], argTypes := #[] }, type := 4, pos := "law.go:83", after := #[], guard := none }) rfl (fun K hK => ?_) AllReadyH.nil
  go_simp
  refine (hexes_true _).mono ?_
  rintro e w4 ⟨rfl, hb4⟩
  go_wp2_with fail
  refine hK.out _ _ (keep3 hb4 hHeld) (fun hHeld => ?_)
  clear hK K
  try simp only [Act.put, List.setIfInBounds_toArray, List.set_cons_zero, List.set_cons_succ]
  refine wpAnyH_take (i := 1) (oi := { dst := some 23, op := Op.move (Operand.tmp 22), type := 4, pos := "law.go:83", after := #[{ on := 0, ground := Ground.data }, { on := 0, ground := Ground.chain }], guard := none }) (v := .bool true) rfl (by kernel_rfl) (by kernel_rfl) (by kernel_rfl) (fun _ _ _ h => h) (Or.inl ⟨by rfl, by intro w hSw; go_simp⟩) hHeld ?_
  try simp only [Act.put, List.setIfInBounds_toArray, List.set_cons_zero, List.set_cons_succ]
  refine wpAnyH_take (i := 2) (oi := { dst := some 24, op := Op.load 23 (Operand.tmp 2), type := 23, pos := "law.go:83", after := #[{ on := 1, ground := Ground.guard }], guard := some (1, true) }) (v := .agg D.toArray) rfl (by kernel_rfl) (by kernel_rfl) (by kernel_rfl) (fun _ _ _ h => h) (yieldsIf_load_mid (by rfl) 23 (.tmp 2) rfl _ 0 rfl D _ (fun _ h => h.1) Try.underlying23 rfl z0) hHeld ?_
  try simp only [Act.put, List.setIfInBounds_toArray, List.set_cons_zero, List.set_cons_succ]
  refine wpAnyH_take (i := 4) (oi := { dst := some 26, op := Op.load 23 (Operand.tmp 2), type := 23, pos := "law.go:83", after := #[{ on := 1, ground := Ground.guard }], guard := some (1, true) }) (v := .agg D.toArray) rfl (by kernel_rfl) (by kernel_rfl) (by kernel_rfl) (fun _ _ _ h => h) (yieldsIf_load_mid (by rfl) 23 (.tmp 2) rfl _ 0 rfl D _ (fun _ h => h.1) Try.underlying23 rfl z0) hHeld ?_
  try simp only [Act.put, List.setIfInBounds_toArray, List.set_cons_zero, List.set_cons_succ]
  refine wpAnyH_ready (rs := [3]) (by kernel_rfl) (by simp) ?_
  refine AllReadyH.cons (o := { dst := some 25, op := Op.call { callee := Callee.value (Operand.func 8), args := #[Operand.tmp 24], argTypes := #[23] }, type := 9, pos := "law.go:83", after := #[{ on := 2, ground := Ground.data }, { on := 1, ground := Ground.chain }, { on := 1, ground := Ground.guard }], guard := some (1, true) }) rfl (fun K hK => ?_) AllReadyH.nil
  go_simp
  refine (K8.out _).mono ?_
  rintro e w5 ⟨rfl, hb5⟩
  go_wp2_with fail
  refine hK.out _ _ (keep3 hb5 hHeld) (fun hHeld => ?_)
  clear hK K
  try simp only [Act.put, List.setIfInBounds_toArray, List.set_cons_zero, List.set_cons_succ]
  refine wpAnyH_ready (rs := [5]) (by kernel_rfl) (by simp) ?_
  refine AllReadyH.cons (o := { dst := some 27, op := Op.call { callee := Callee.value (Operand.func 9), args := #[Operand.tmp 26], argTypes := #[23] }, type := 9, pos := "law.go:83", after := #[{ on := 4, ground := Ground.data }, { on := 3, ground := Ground.chain }, { on := 1, ground := Ground.guard }], guard := some (1, true) }) rfl (fun K hK => ?_) AllReadyH.nil
  go_simp
  refine (K9.out _).mono ?_
  rintro e w6 ⟨rfl, hb6⟩
  go_wp2_with fail
  refine hK.out _ _ (keep3 hb6 hHeld) (fun hHeld => ?_)
  clear hK K
  try simp only [Act.put, List.setIfInBounds_toArray, List.set_cons_zero, List.set_cons_succ]
  refine wpAnyH_take (i := 6) (oi := { dst := some 28, op := Op.binOp BinOp.eql 9 (Operand.tmp 25) (Operand.tmp 27) 9, type := 4, pos := "law.go:83", after := #[{ on := 3, ground := Ground.data }, { on := 5, ground := Ground.data }, { on := 1, ground := Ground.guard }], guard := some (1, true) }) (v := .bool true) rfl (by kernel_rfl) (by kernel_rfl) (by kernel_rfl) (fun _ _ _ h => h) (Or.inl ⟨by rfl, by intro w hSw; go_simp⟩) hHeld ?_
  try simp only [Act.put, List.setIfInBounds_toArray, List.set_cons_zero, List.set_cons_succ]
  refine wpAnyH_take (i := 7) (oi := { dst := some 29, op := Op.pick (Operand.tmp 23) (Operand.tmp 28) (Operand.const (Value.bool false)), type := 4, pos := "law.go:83", after := #[{ on := 1, ground := Ground.data }, { on := 6, ground := Ground.data }], guard := none }) (v := .bool true) rfl (by kernel_rfl) (by kernel_rfl) (by kernel_rfl) (fun _ _ _ h => h) (Or.inl ⟨by rfl, by intro w hSw; go_simp⟩) hHeld ?_
  try simp only [Act.put, List.setIfInBounds_toArray, List.set_cons_zero, List.set_cons_succ]
  refine wpAnyH_take (i := 8) (oi := { dst := some 30, op := Op.move (Operand.tmp 29), type := 4, pos := "law.go:83", after := #[{ on := 7, ground := Ground.data }, { on := 5, ground := Ground.chain }], guard := none }) (v := .bool true) rfl (by kernel_rfl) (by kernel_rfl) (by kernel_rfl) (fun _ _ _ h => h) (Or.inl ⟨by rfl, by intro w hSw; go_simp⟩) hHeld ?_
  try simp only [Act.put, List.setIfInBounds_toArray, List.set_cons_zero, List.set_cons_succ]
  refine wpAnyH_take (i := 9) (oi := { dst := some 31, op := Op.load 23 (Operand.tmp 5), type := 23, pos := "law.go:83", after := #[{ on := 8, ground := Ground.guard }], guard := some (8, true) }) (v := .agg Y.toArray) rfl (by kernel_rfl) (by kernel_rfl) (by kernel_rfl) (fun _ _ _ h => h) (yieldsIf_load_mid (by rfl) 23 (.tmp 5) rfl _ 0 rfl Y _ (fun _ h => h.2.1) Try.underlying23 rfl z1) hHeld ?_
  try simp only [Act.put, List.setIfInBounds_toArray, List.set_cons_zero, List.set_cons_succ]
  refine wpAnyH_take (i := 10) (oi := { dst := some 32, op := Op.load 23 (Operand.tmp 7), type := 23, pos := "law.go:83", after := #[{ on := 8, ground := Ground.guard }], guard := some (8, true) }) (v := .agg Y.toArray) rfl (by kernel_rfl) (by kernel_rfl) (by kernel_rfl) (fun _ _ _ h => h) (yieldsIf_load_mid (by rfl) 23 (.tmp 7) rfl _ 0 rfl Y _ (fun _ h => h.2.2.1) Try.underlying23 rfl z1) hHeld ?_
  try simp only [Act.put, List.setIfInBounds_toArray, List.set_cons_zero, List.set_cons_succ]
  refine wpAnyH_take (i := 11) (oi := { dst := some 33, op := Op.binOp BinOp.eql 23 (Operand.tmp 31) (Operand.tmp 32) 23, type := 4, pos := "law.go:83", after := #[{ on := 9, ground := Ground.data }, { on := 10, ground := Ground.data }, { on := 8, ground := Ground.guard }], guard := some (8, true) }) (v := .bool true) rfl (by kernel_rfl) (by kernel_rfl) (by kernel_rfl) (fun _ _ _ h => h) (Or.inl ⟨by rfl, by intro w hSw; go_simp⟩) hHeld ?_
  try simp only [Act.put, List.setIfInBounds_toArray, List.set_cons_zero, List.set_cons_succ]
  refine wpAnyH_take (i := 12) (oi := { dst := some 34, op := Op.pick (Operand.tmp 30) (Operand.tmp 33) (Operand.const (Value.bool false)), type := 4, pos := "law.go:83", after := #[{ on := 8, ground := Ground.data }, { on := 11, ground := Ground.data }], guard := none }) (v := .bool true) rfl (by kernel_rfl) (by kernel_rfl) (by kernel_rfl) (fun _ _ _ h => h) (Or.inl ⟨by rfl, by intro w hSw; go_simp⟩) hHeld ?_
  try simp only [Act.put, List.setIfInBounds_toArray, List.set_cons_zero, List.set_cons_succ]
  refine wpAnyH_take (i := 13) (oi := { dst := some 35, op := Op.move (Operand.tmp 34), type := 4, pos := "law.go:83", after := #[{ on := 12, ground := Ground.data }, { on := 8, ground := Ground.chain }], guard := none }) (v := .bool true) rfl (by kernel_rfl) (by kernel_rfl) (by kernel_rfl) (fun _ _ _ h => h) (Or.inl ⟨by rfl, by intro w hSw; go_simp⟩) hHeld ?_
  try simp only [Act.put, List.setIfInBounds_toArray, List.set_cons_zero, List.set_cons_succ]
  refine wpAnyH_take (i := 14) (oi := { dst := some 36, op := Op.move (Operand.tmp 6), type := 24, pos := "law.go:83", after := #[{ on := 13, ground := Ground.guard }], guard := some (13, true) }) (v := .int .i64 f) rfl (by kernel_rfl) (by kernel_rfl) (by kernel_rfl) (fun _ _ _ h => h) (Or.inl ⟨by rfl, by intro w hSw; go_simp⟩) hHeld ?_
  try simp only [Act.put, List.setIfInBounds_toArray, List.set_cons_zero, List.set_cons_succ]
  refine wpAnyH_take (i := 15) (oi := { dst := some 37, op := Op.move (Operand.tmp 8), type := 24, pos := "law.go:83", after := #[{ on := 13, ground := Ground.guard }], guard := some (13, true) }) (v := .int .i64 f) rfl (by kernel_rfl) (by kernel_rfl) (by kernel_rfl) (fun _ _ _ h => h) (Or.inl ⟨by rfl, by intro w hSw; go_simp⟩) hHeld ?_
  try simp only [Act.put, List.setIfInBounds_toArray, List.set_cons_zero, List.set_cons_succ]
  refine wpAnyH_take (i := 16) (oi := { dst := some 38, op := Op.binOp BinOp.eql 24 (Operand.tmp 36) (Operand.tmp 37) 24, type := 4, pos := "law.go:83", after := #[{ on := 14, ground := Ground.data }, { on := 15, ground := Ground.data }, { on := 13, ground := Ground.guard }], guard := some (13, true) }) (v := .bool true) rfl (by kernel_rfl) (by kernel_rfl) (by kernel_rfl) (fun _ _ _ h => h) (Or.inl ⟨by rfl, by intro w hSw; go_simp⟩) hHeld ?_
  try simp only [Act.put, List.setIfInBounds_toArray, List.set_cons_zero, List.set_cons_succ]
  refine wpAnyH_take (i := 17) (oi := { dst := some 39, op := Op.pick (Operand.tmp 35) (Operand.tmp 38) (Operand.const (Value.bool false)), type := 4, pos := "law.go:83", after := #[{ on := 13, ground := Ground.data }, { on := 16, ground := Ground.data }], guard := none }) (v := .bool true) rfl (by kernel_rfl) (by kernel_rfl) (by kernel_rfl) (fun _ _ _ h => h) (Or.inl ⟨by rfl, by intro w hSw; go_simp⟩) hHeld ?_
  try simp only [Act.put, List.setIfInBounds_toArray, List.set_cons_zero, List.set_cons_succ]
  refine wpAnyH_take (i := 18) (oi := { dst := some 4, op := Op.assign (Operand.tmp 39), type := 4, pos := "law.go:83", after := #[{ on := 17, ground := Ground.data }, { on := 13, ground := Ground.chain }, { on := 0, ground := Ground.phase }, { on := 1, ground := Ground.phase }, { on := 2, ground := Ground.phase }, { on := 3, ground := Ground.phase }, { on := 4, ground := Ground.phase }, { on := 5, ground := Ground.phase }, { on := 6, ground := Ground.phase }, { on := 7, ground := Ground.phase }, { on := 8, ground := Ground.phase }, { on := 9, ground := Ground.phase }, { on := 10, ground := Ground.phase }, { on := 11, ground := Ground.phase }, { on := 12, ground := Ground.phase }, { on := 13, ground := Ground.phase }, { on := 14, ground := Ground.phase }, { on := 15, ground := Ground.phase }, { on := 16, ground := Ground.phase }, { on := 17, ground := Ground.phase }], guard := none }) (v := .bool true) rfl (by kernel_rfl) (by kernel_rfl) (by kernel_rfl) (fun _ _ _ h => h) (Or.inl ⟨by rfl, by intro w hSw; go_simp⟩) hHeld ?_
  try simp only [Act.put, List.setIfInBounds_toArray, List.set_cons_zero, List.set_cons_succ]
  refine wpAnyH_done (by kernel_rfl) ?_ _
  go_wp2
  go_ret
  exact ⟨rfl, hHeld.2.2.2⟩

theorem shaHex_walk (d : List UInt8) (s : ByteArray) (w : World) (hd : d.length = 32) (hs : s.size ≤ maxLen) :
    Calls Try.prog 3 #[digV d, .string s] w fun e w' => e = .returned (.bool true) ∧ Below w.heap.size w w' := by
  by_cases h : s.size ≤ 65536
  · exact shaHex_rest d hd s w h
  · exact shaHex_long _ s w hs (by omega)
end Go.Proofs.Ythkmhfpihkjhnaa
