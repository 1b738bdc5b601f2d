/- Texts of our own that the row of HeadReads leans on, part 4. -/
import Derived.Test.YtdnhnjimhbbabaaDoorHeadReadsJ3
import Derived.OpenShut

/- What tag.Key answers. -/
namespace Go.Proofs.YtdnhnjimhbbabaaDoor
open Go.RowKit Sums
set_option maxRecDepth 100000
set_option linter.unusedVariables false
set_option linter.unusedSimpArgs false
theorem zero3 : (Tryd.prog.info? 82).map (fun i => (i.zero, i.size)) = some (some (.agg #[.int .u8 0, .int .u8 0, .int .u8 0]), 3) := by kernel_rfl
theorem size3b : (Tryd.prog.info? 82).map (·.size) = some 3 := by kernel_rfl
theorem built3 (r n : Int) : Tryd.prog.built 82 [(0, .int .u8 75), (1, .int .u8 r), (2, .int .u8 n)] = some #[.int .u8 75, .int .u8 r, .int .u8 n] := by
  have h1 : (Tryd.prog.built 82 [(0, .int .u8 75), (1, .int .u8 0), (2, .int .u8 0)]).isSome = true := by kernel_rfl
  first | rfl | simp [Program.built] | kernel_rfl
theorem wpList_build_three {P : Program} {ops : Array Oper} {rest : List Oper} {o : Oper} {a : Act} {w : World} {Q : Exit → Act → World → Prop} (hg : o.guard = none) (t : TypeId) (x y z : Operand) (ho : o.op = .build t #[(0, x), (1, y), (2, z)])
    (cs : Array Value) (vx vy vz : Value) (hx : a.eval x = vx) (hy : a.eval y = vy) (hz : a.eval z = vz) (hb : P.built t [(0, vx), (1, vy), (2, vz)] = some cs) (h : wpList P ops Q rest (a.put o.dst (.agg cs)) w) : wpList P ops Q (o :: rest) a w :=
  wpList_build_row hg t #[(0, x), (1, y), (2, z)] ho cs (by simpa [hx, hy, hz] using hb) h
theorem conv3 (W : World) (g : Nat) (r n : Int) (hr : 0 ≤ r ∧ r ≤ 255) (hn : 0 ≤ n ∧ n ≤ 255) (t : TypeId) (h : W.heap[g]? = some (.cells #[.int .u8 75, .int .u8 r, .int .u8 n] t (0, 0))) : (convert 35 9 (.slice (some ⟨g, 0, none⟩) 3 3)).run Tryd.prog W = .ok (.string ⟨#[75, UInt8.ofNat r.toNat, UInt8.ofNat n.toNat]⟩) W := by
  have e1 : ((UInt8.ofNat r.toNat).toNat : Int) = r := by rw [UInt8.toNat_ofNat']; omega
  have e2 : ((UInt8.ofNat n.toNat).toNat : Int) = n := by rw [UInt8.toNat_ofNat']; omega
  refine conv_any (l := [75, UInt8.ofNat r.toNat, UInt8.ofNat n.toNat]) (t := t) ?_ rfl
  rw [h]
  show _ = some (Obj.cells #[.int .u8 75, .int .u8 ((UInt8.ofNat r.toNat).toNat : Int), .int .u8 ((UInt8.ofNat n.toNat).toNat : Int)] t (0, 0))
  rw [e1, e2]
set_option maxHeartbeats 4000000 in
theorem key_out1 (r n : Int) (w : World) (M Z : Array Value) (HBY : Hid (Tryd.prog.built 23 [] = some Z)) (HA : Hid ((Tryd.prog.info? 23).map (fun i => (i.zero, i.size)) = some (some (.agg Z), Z.size))) (HSZ : Hid ((Tryd.prog.info? 23).map (·.size) = some Z.size)) (H1Z : Hid (Z.all (·.oneCell') = true)) (hd : r < 1) :
    Calls Tryd.prog 24 #[.agg M, .int .i64 r, .int .i64 n] w fun e w' => e = .returned (.tuple #[.agg Z, .int .i64 50]) ∧ Below w.heap.size w w' := by
  have d1 : decide (r < 1) = true := by rw [decide_eq_true_eq]; omega
  clear hd
  go_enter Tryd.func24, Tryd.ntmps24
  go_wp2_with (first
    | (show wpList _ _ _ ({ dst := some 6, op := _, type := _, pos := _, after := _, guard := _ } :: _) _ _; refine wpList_new_var rfl 23 rfl Z HA.out ?_; intro g6 w1 HM6; try simp only [Act.put, List.setIfInBounds_toArray, List.set_cons_zero, List.set_cons_succ])
    | (show wpList _ _ _ ({ dst := some 23, op := _, type := _, pos := _, after := _, guard := _ } :: _) _ _; refine wpList_build_none rfl 23 rfl Z HBY.out ?_; try simp only [Act.put, List.setIfInBounds_toArray, List.set_cons_zero, List.set_cons_succ])
    | (refine wpList_set_var rfl 23 (.tmp 6) (.tmp 23) rfl g6 Z rfl rfl 23 Z HM6.out.row HSZ.out rfl H1Z.out ?_; intro w2 HW6; try simp only [Act.put, List.setIfInBounds_toArray, List.set_cons_zero, List.set_cons_succ])
    | fail)
  refine bodyPost_ret (v := .tuple #[.agg Z, .int .i64 50]) ?_ rfl ⟨rfl, ?_⟩
  · exact results_row_tmp (p := 6) (q := 7) (ty := 23) rfl _ _ g6 23 Z (0, 0) _ rfl HW6.out.row Tryd.underlying23 rfl HSZ.out
  · have e := HM6.out.new
    rw [alloc_size] at e
    exact HW6.out.below w.heap.size w (((Below.refl _ _).alloc (Nat.le_refl _) _).trans (HM6.out.below.mono (by simp))) (by omega)
set_option maxHeartbeats 4000000 in
theorem key_out2 (r n : Int) (w : World) (M Z : Array Value) (HBY : Hid (Tryd.prog.built 23 [] = some Z)) (HA : Hid ((Tryd.prog.info? 23).map (fun i => (i.zero, i.size)) = some (some (.agg Z), Z.size))) (HSZ : Hid ((Tryd.prog.info? 23).map (·.size) = some Z.size)) (H1Z : Hid (Z.all (·.oneCell') = true)) (hd : ¬ r < 1 ∧ 5 < r) :
    Calls Tryd.prog 24 #[.agg M, .int .i64 r, .int .i64 n] w fun e w' => e = .returned (.tuple #[.agg Z, .int .i64 50]) ∧ Below w.heap.size w w' := by
  have d1 : decide (r < 1) = false := by rw [decide_eq_false_iff_not]; omega
  have d2 : decide (5 < r) = true := by rw [decide_eq_true_eq]; omega
  clear hd
  go_enter Tryd.func24, Tryd.ntmps24
  go_wp2_with (first
    | (show wpList _ _ _ ({ dst := some 6, op := _, type := _, pos := _, after := _, guard := _ } :: _) _ _; refine wpList_new_var rfl 23 rfl Z HA.out ?_; intro g6 w1 HM6; try simp only [Act.put, List.setIfInBounds_toArray, List.set_cons_zero, List.set_cons_succ])
    | (show wpList _ _ _ ({ dst := some 23, op := _, type := _, pos := _, after := _, guard := _ } :: _) _ _; refine wpList_build_none rfl 23 rfl Z HBY.out ?_; try simp only [Act.put, List.setIfInBounds_toArray, List.set_cons_zero, List.set_cons_succ])
    | (refine wpList_set_var rfl 23 (.tmp 6) (.tmp 23) rfl g6 Z rfl rfl 23 Z HM6.out.row HSZ.out rfl H1Z.out ?_; intro w2 HW6; try simp only [Act.put, List.setIfInBounds_toArray, List.set_cons_zero, List.set_cons_succ])
    | fail)
  refine bodyPost_ret (v := .tuple #[.agg Z, .int .i64 50]) ?_ rfl ⟨rfl, ?_⟩
  · exact results_row_tmp (p := 6) (q := 7) (ty := 23) rfl _ _ g6 23 Z (0, 0) _ rfl HW6.out.row Tryd.underlying23 rfl HSZ.out
  · have e := HM6.out.new
    rw [alloc_size] at e
    exact HW6.out.below w.heap.size w (((Below.refl _ _).alloc (Nat.le_refl _) _).trans (HM6.out.below.mono (by simp))) (by omega)
set_option maxHeartbeats 4000000 in
theorem key_out3 (r n : Int) (w : World) (M Z : Array Value) (HBY : Hid (Tryd.prog.built 23 [] = some Z)) (HA : Hid ((Tryd.prog.info? 23).map (fun i => (i.zero, i.size)) = some (some (.agg Z), Z.size))) (HSZ : Hid ((Tryd.prog.info? 23).map (·.size) = some Z.size)) (H1Z : Hid (Z.all (·.oneCell') = true)) (hd : ¬ r < 1 ∧ ¬ 5 < r ∧ n < 1) :
    Calls Tryd.prog 24 #[.agg M, .int .i64 r, .int .i64 n] w fun e w' => e = .returned (.tuple #[.agg Z, .int .i64 50]) ∧ Below w.heap.size w w' := by
  have d1 : decide (r < 1) = false := by rw [decide_eq_false_iff_not]; omega
  have d2 : decide (5 < r) = false := by rw [decide_eq_false_iff_not]; omega
  have d3 : decide (n < 1) = true := by rw [decide_eq_true_eq]; omega
  clear hd
  go_enter Tryd.func24, Tryd.ntmps24
  go_wp2_with (first
    | (show wpList _ _ _ ({ dst := some 6, op := _, type := _, pos := _, after := _, guard := _ } :: _) _ _; refine wpList_new_var rfl 23 rfl Z HA.out ?_; intro g6 w1 HM6; try simp only [Act.put, List.setIfInBounds_toArray, List.set_cons_zero, List.set_cons_succ])
    | (show wpList _ _ _ ({ dst := some 23, op := _, type := _, pos := _, after := _, guard := _ } :: _) _ _; refine wpList_build_none rfl 23 rfl Z HBY.out ?_; try simp only [Act.put, List.setIfInBounds_toArray, List.set_cons_zero, List.set_cons_succ])
    | (refine wpList_set_var rfl 23 (.tmp 6) (.tmp 23) rfl g6 Z rfl rfl 23 Z HM6.out.row HSZ.out rfl H1Z.out ?_; intro w2 HW6; try simp only [Act.put, List.setIfInBounds_toArray, List.set_cons_zero, List.set_cons_succ])
    | fail)
  refine bodyPost_ret (v := .tuple #[.agg Z, .int .i64 50]) ?_ rfl ⟨rfl, ?_⟩
  · exact results_row_tmp (p := 6) (q := 7) (ty := 23) rfl _ _ g6 23 Z (0, 0) _ rfl HW6.out.row Tryd.underlying23 rfl HSZ.out
  · have e := HM6.out.new
    rw [alloc_size] at e
    exact HW6.out.below w.heap.size w (((Below.refl _ _).alloc (Nat.le_refl _) _).trans (HM6.out.below.mono (by simp))) (by omega)
set_option maxHeartbeats 4000000 in
theorem key_out4 (r n : Int) (w : World) (M Z : Array Value) (HBY : Hid (Tryd.prog.built 23 [] = some Z)) (HA : Hid ((Tryd.prog.info? 23).map (fun i => (i.zero, i.size)) = some (some (.agg Z), Z.size))) (HSZ : Hid ((Tryd.prog.info? 23).map (·.size) = some Z.size)) (H1Z : Hid (Z.all (·.oneCell') = true)) (hd : ¬ r < 1 ∧ ¬ 5 < r ∧ ¬ n < 1 ∧ 3 < n) :
    Calls Tryd.prog 24 #[.agg M, .int .i64 r, .int .i64 n] w fun e w' => e = .returned (.tuple #[.agg Z, .int .i64 50]) ∧ Below w.heap.size w w' := by
  have d1 : decide (r < 1) = false := by rw [decide_eq_false_iff_not]; omega
  have d2 : decide (5 < r) = false := by rw [decide_eq_false_iff_not]; omega
  have d3 : decide (n < 1) = false := by rw [decide_eq_false_iff_not]; omega
  have d4 : decide (3 < n) = true := by rw [decide_eq_true_eq]; omega
  clear hd
  go_enter Tryd.func24, Tryd.ntmps24
  go_wp2_with (first
    | (show wpList _ _ _ ({ dst := some 6, op := _, type := _, pos := _, after := _, guard := _ } :: _) _ _; refine wpList_new_var rfl 23 rfl Z HA.out ?_; intro g6 w1 HM6; try simp only [Act.put, List.setIfInBounds_toArray, List.set_cons_zero, List.set_cons_succ])
    | (show wpList _ _ _ ({ dst := some 23, op := _, type := _, pos := _, after := _, guard := _ } :: _) _ _; refine wpList_build_none rfl 23 rfl Z HBY.out ?_; try simp only [Act.put, List.setIfInBounds_toArray, List.set_cons_zero, List.set_cons_succ])
    | (refine wpList_set_var rfl 23 (.tmp 6) (.tmp 23) rfl g6 Z rfl rfl 23 Z HM6.out.row HSZ.out rfl H1Z.out ?_; intro w2 HW6; try simp only [Act.put, List.setIfInBounds_toArray, List.set_cons_zero, List.set_cons_succ])
    | fail)
  refine bodyPost_ret (v := .tuple #[.agg Z, .int .i64 50]) ?_ rfl ⟨rfl, ?_⟩
  · exact results_row_tmp (p := 6) (q := 7) (ty := 23) rfl _ _ g6 23 Z (0, 0) _ rfl HW6.out.row Tryd.underlying23 rfl HSZ.out
  · have e := HM6.out.new
    rw [alloc_size] at e
    exact HW6.out.below w.heap.size w (((Below.refl _ _).alloc (Nat.le_refl _) _).trans (HM6.out.below.mono (by simp))) (by omega)
set_option maxHeartbeats 8000000 in
theorem key_in (master : List UInt8) (r n : Int) (w : World) (M Ky : Array Value) (HM : Hid (M = (cellsOf master).toArray)) (hm : master.length = 32) (ho : owner r n = true) (hT : TabT w) (HK : Hid (Ky = (cellsOf (keyD master r n)).toArray)) :
    Calls Tryd.prog 24 #[.agg M, .int .i64 r, .int .i64 n] w fun e w' => e = .returned (.tuple #[.agg Ky, .int .i64 0]) ∧ Below w.heap.size w w' := by
  obtain ⟨Z, HZ, HA, H32⟩ := noughtsY
  have hb := (owner_iff r n).1 ho
  have HSM : Hid ((Tryd.prog.info? 23).map (·.size) = some M.size) := by show _ = _; rw [sizeY, HM.out]; simp [cellsOf_length, hm]
  have HSK : Hid ((Tryd.prog.info? 23).map (·.size) = some Ky.size) := by show _ = _; rw [sizeY, HK.out]; simp [cellsOf_length, keyD, macD, sumD_length]
  have H1K : Hid (Ky.all (·.oneCell') = true) := by show _ = _; rw [HK.out]; exact cellsOf_all _
  have HZK : Hid (Z.size = Ky.size) := by show _ = _; rw [H32.out, HK.out]; simp [cellsOf_length, keyD, macD, sumD_length]
  have hw1 : IntKind.u8.wrap r = r := by have := IntKind.wrap_u8' r; omega
  have hw2 : IntKind.u8.wrap n = n := by have := IntKind.wrap_u8' n; omega
  have d1 : decide (r < 1) = false := by rw [decide_eq_false_iff_not]; omega
  have d2 : decide (5 < r) = false := by rw [decide_eq_false_iff_not]; omega
  have d3 : decide (n < 1) = false := by rw [decide_eq_false_iff_not]; omega
  have d4 : decide (3 < n) = false := by rw [decide_eq_false_iff_not]; omega
  obtain ⟨T3, HT3⟩ : ∃ T : Array Value, Hid (T = #[.int .u8 75, .int .u8 r, .int .u8 n]) := ⟨_, (rfl : _ = _)⟩
  obtain ⟨Z3, HZ3, HZZ⟩ : ∃ Z : Array Value, Hid ((Tryd.prog.info? 82).map (fun i => (i.zero, i.size)) = some (some (.agg Z), Z.size)) ∧ Hid (Z.size = 3) := ⟨#[.int .u8 0, .int .u8 0, .int .u8 0], zero3, (rfl : _ = _)⟩
  have HB3 : Hid (Tryd.prog.built 82 [(0, .int .u8 75), (1, .int .u8 r), (2, .int .u8 n)] = some T3) := by show _ = _; rw [HT3.out]; exact built3 r n
  have HS33 : Hid ((Tryd.prog.info? 82).map (·.size) = some T3.size) := by show _ = _; rw [HT3.out]; exact size3b
  have HZT : Hid (Z3.size = T3.size) := by show _ = _; rw [HZZ.out, HT3.out]; rfl
  have H1T : Hid (T3.all (·.oneCell') = true) := by show _ = _; rw [HT3.out]; simp [Value.oneCell']
  obtain ⟨s3, HS3⟩ : ∃ s : ByteArray, Hid (s = ⟨#[75, UInt8.ofNat r.toNat, UInt8.ofNat n.toNat]⟩) := ⟨_, (rfl : _ = _)⟩
  have HCV : Hid (∀ (W : World) (g : Nat), W.heap[g]? = some (.cells T3 82 (0, 0)) → (convert 35 9 (.slice (some ⟨g, 0, none⟩) 3 3)).run Tryd.prog W = .ok (.string s3) W) := fun W g h => by rw [HS3.out]; rw [HT3.out] at h; exact conv3 W g r n (by omega) (by omega) _ h
  have C1 : Hid (∀ W, Below w.heap.size w W → Calls Tryd.prog 25 #[.agg M, .string s3] W fun e w' => e = .returned (.agg Ky) ∧ Below W.heap.size W w') := fun W hbw => mac_any master s3 W M Ky HM hm (by rw [HS3.out]; show 3 ≤ 100000; decide) (hT.keep hbw) (by show _ = _; rw [HK.out, HS3.out]; rfl)
  clear hT HK HM HS3 ho hb
  go_enter Tryd.func24, Tryd.ntmps24
  go_wp2_with (first
    | (show wpList _ _ _ ({ dst := some 6, op := _, type := _, pos := _, after := _, guard := _ } :: _) _ _; refine wpList_new_var rfl 23 rfl Z HA.out ?_; intro g6 w1 HM6; try simp only [Act.put, List.setIfInBounds_toArray, List.set_cons_zero, List.set_cons_succ])
    | (show wpList _ _ _ ({ dst := some 28, op := _, type := _, pos := _, after := _, guard := _ } :: _) _ _; refine wpList_build_three rfl 82 _ _ _ rfl T3 _ _ _ rfl rfl rfl HB3.out ?_; try simp only [Act.put, List.setIfInBounds_toArray, List.set_cons_zero, List.set_cons_succ])
    | (show wpList _ _ _ ({ dst := some 8, op := _, type := _, pos := _, after := _, guard := _ } :: _) _ _; refine wpList_new_var rfl 82 rfl Z3 HZ3.out ?_; intro g8 w2 HM8; try simp only [Act.put, List.setIfInBounds_toArray, List.set_cons_zero, List.set_cons_succ])
    | (refine wpList_set_var rfl 82 (.tmp 8) (.tmp 28) rfl g8 T3 rfl rfl 82 Z3 HM8.out.row HS33.out HZT.out H1T.out ?_; intro w3 HW8; try simp only [Act.put, List.setIfInBounds_toArray, List.set_cons_zero, List.set_cons_succ])
    | fail)
  have h6 : w.heap.size < g6 := by have e := HM6.out.new; rw [alloc_size] at e; omega
  have HB1 : Hid (Below w.heap.size w w1) := ((Below.refl _ _).alloc (Nat.le_refl _) _).trans (HM6.out.below.mono (by simp))
  have HX3 := hidk (HW8.out.below w1.heap.size w1 HM8.out.below (Nat.le_of_eq HM8.out.new.symm))
  have HK1 := hidk ((HM6.out.below.block _ (by simp)).trans (heap_alloc_new w (.cells M 23)))
  have HK3 := hidk ((HX3.out.block _ (heap_lt HK1.out)).trans HK1.out)
  have HR6 : Hid (w3.drew.heap[g6]? = some (.cells Z 23 (0, 0))) := (HX3.out.block _ (heap_lt HM6.out.row)).trans HM6.out.row
  have HR8 := hidk HW8.out.row
  have h8 : g6 < g8 := by rw [HM8.out.new]; exact heap_lt HM6.out.row
  have HBc : Hid (Below w.heap.size w w3.drew) := (HB1.out.trans (HX3.out.mono HB1.out.size)).drew
  clear HM6 HM8 HW8 HB1 HX3 HK1
  refine wp_region_held_drew (S := (fun W => W.heap[w.heap.size]? = some (.cells M 23 (0, 0)) ∧ W.heap[g8]? = some (.cells T3 82 (0, 0)))) (by kernel_rfl) ⟨HK3.out, HR8.out⟩ (fun hHeld => ?_)
  refine wpAnyH_take (i := 0) (oi := { dst := some 29, op := Op.load 23 (Operand.tmp 3), type := 23, pos := "tag.go:39", after := #[], guard := none }) (v := .agg M) rfl (by kernel_rfl) (by kernel_rfl) (by kernel_rfl) (fun _ _ _ h => h) (yieldsIf_row (by rfl) 23 (.tmp 3) rfl w.heap.size rfl 23 M (0, 0) _ (fun _ h => h.1) Tryd.underlying23 rfl HSM.out) hHeld ?_
  try simp only [Act.put, List.setIfInBounds_toArray, List.set_cons_zero, List.set_cons_succ]
  refine wpAnyH_take (i := 1) (oi := { dst := some 30, op := Op.slice 82 (Operand.tmp 8) none none none, type := 35, pos := "tag.go:39", after := #[], guard := none }) (v := .slice (some ⟨g8, 0, none⟩) 3 3) rfl (by kernel_rfl) (by kernel_rfl) (by kernel_rfl) (fun _ _ _ h => h) (Or.inl ⟨by rfl, by intro W hSw; go_simp⟩) hHeld ?_
  try simp only [Act.put, List.setIfInBounds_toArray, List.set_cons_zero, List.set_cons_succ]
  refine wpAnyH_take (i := 2) (oi := { dst := some 31, op := Op.convert 35 9 (Operand.tmp 30), type := 9, pos := "tag.go:39", after := #[{ on := 1, ground := Ground.data }], guard := none }) (v := .string s3) rfl (by kernel_rfl) (by kernel_rfl) (by kernel_rfl) (fun _ _ _ h => h) (Or.inl ⟨by rfl, by intro W hSw; have := HCV.out W g8 hSw.2; go_simp⟩) hHeld ?_
  try simp only [Act.put, List.setIfInBounds_toArray, List.set_cons_zero, List.set_cons_succ]
  refine wpAnyH_ready (rs := [3]) (by kernel_rfl) (by simp) ?_
  refine (AllReadyH.cons (o := { dst := some 32, op := Op.call { callee := Callee.value (Operand.func 25), args := #[Operand.tmp 29, Operand.tmp 31], argTypes := #[23, 9] }, type := 24, pos := "tag.go:39", after := #[{ on := 0, ground := Ground.data }, { on := 2, ground := Ground.data }], guard := none }) rfl (fun K hK => ?_) AllReadyH.nil)
  go_simp
  refine (C1.out _ HBc.out).mono ?_
  rintro e w5 ⟨rfl, hbz⟩
  replace HBc := hidk (HBc.out.trans (hbz.mono HBc.out.size))
  replace HR6 := hidk ((hbz.block _ (heap_lt HR6.out)).trans HR6.out)
  go_wp2_with fail
  refine hK.out _ _ ⟨(hbz.block _ (heap_lt hHeld.1)).trans hHeld.1, (hbz.block _ (heap_lt hHeld.2)).trans hHeld.2⟩ (fun hHeld => ?_)
  clear hK K
  try simp only [Act.put, List.setIfInBounds_toArray, List.set_cons_zero, List.set_cons_succ]
  refine wpAnyH_ready (rs := [4]) (by kernel_rfl) (by simp) ?_
  refine (AllReadyH.cons (o := { dst := none, op := Op.store 23 (Operand.tmp 6) (Operand.tmp 32), type := 0, pos := "tag.go:39", after := #[{ on := 3, ground := Ground.data }, { on := 3, ground := Ground.chain }, { on := 0, ground := Ground.phase }, { on := 1, ground := Ground.phase }, { on := 2, ground := Ground.phase }, { on := 3, ground := Ground.phase }], guard := none }) rfl (fun K hK => ?_) AllReadyH.nil)
  refine step_set_var (by rfl) 23 (.tmp 6) (.tmp 32) rfl g6 Ky rfl rfl 23 Z HR6.out HSK.out HZK.out H1K.out ?_
  intro wz HW6
  refine hK.out _ _ ⟨(HW6.out.other w.heap.size (by omega)).trans hHeld.1, (HW6.out.other g8 (by omega)).trans hHeld.2⟩ (fun hHeld => ?_)
  clear hK K
  try simp only [Act.put, List.setIfInBounds_toArray, List.set_cons_zero, List.set_cons_succ]
  refine wpAnyH_take (i := 5) (oi := { dst := some 7, op := Op.assign (Operand.const (Value.int IntKind.i64 0)), type := 29, pos := "tag.go:39", after := #[{ on := 4, ground := Ground.chain }, { on := 0, ground := Ground.phase }, { on := 1, ground := Ground.phase }, { on := 2, ground := Ground.phase }, { on := 3, ground := Ground.phase }, { on := 4, ground := Ground.phase }], guard := none }) (v := .int .i64 0) rfl (by kernel_rfl) (by kernel_rfl) (by kernel_rfl) (fun _ _ _ h => h) (Or.inl ⟨by rfl, by intro W hSw; go_simp⟩) hHeld ?_
  try simp only [Act.put, List.setIfInBounds_toArray, List.set_cons_zero, List.set_cons_succ]
  refine wpAnyH_done (by kernel_rfl) ?_ _
  go_wp2
  refine bodyPost_ret (v := .tuple #[.agg Ky, .int .i64 0]) ?_ rfl ⟨rfl, HW6.out.below w.heap.size w HBc.out (by omega)⟩
  exact results_row_tmp (p := 6) (q := 7) (ty := 23) rfl _ _ g6 23 Ky (0, 0) _ rfl HW6.out.row Tryd.underlying23 rfl HSK.out
theorem key_any (master : List UInt8) (r n : Int) (w : World) (M Ky : Array Value) (HM : Hid (M = (cellsOf master).toArray)) (hm : master.length = 32) (hT : TabT w) (HK : Hid (Ky = (cellsOf (keyO master r n)).toArray)) :
    Calls Tryd.prog 24 #[.agg M, .int .i64 r, .int .i64 n] w fun e w' => e = .returned (.tuple #[.agg Ky, .int .i64 (keyE r n)]) ∧ Below w.heap.size w w' := by
  by_cases ho : owner r n = true
  · rw [show keyE r n = 0 by unfold keyE; rw [if_pos ho]]
    rw [keyO_in _ _ _ ho] at HK
    exact key_in master r n w M Ky HM hm ho hT HK
  · rw [show keyE r n = 50 by unfold keyE; rw [if_neg ho]]
    rw [keyO_out _ _ _ ho] at HK
    obtain ⟨Z, HZ, HA, H32⟩ := noughtsY
    obtain rfl : Ky = Z := by rw [HK.out, HZ.out]
    have HBY : Hid (Tryd.prog.built 23 [] = some Ky) := by show _ = _; rw [HZ.out]; exact builtY
    have HSZ : Hid ((Tryd.prog.info? 23).map (·.size) = some Ky.size) := by show _ = _; rw [sizeY, H32.out]
    have H1Z : Hid (Ky.all (·.oneCell') = true) := by show _ = _; rw [HZ.out]; exact cellsOf_all _
    have h := fun q => ho ((owner_iff r n).2 q)
    by_cases h1 : r < 1
    · exact key_out1 r n w M Ky HBY HA HSZ H1Z h1
    by_cases h2 : 5 < r
    · exact key_out2 r n w M Ky HBY HA HSZ H1Z ⟨h1, h2⟩
    by_cases h3 : n < 1
    · exact key_out3 r n w M Ky HBY HA HSZ H1Z ⟨h1, h2, h3⟩
    by_cases h4 : 3 < n
    · exact key_out4 r n w M Ky HBY HA HSZ H1Z ⟨h1, h2, h3, h4⟩
    exact absurd ⟨by omega, by omega, by omega, by omega⟩ h
end Go.Proofs.YtdnhnjimhbbabaaDoor

/- What tag.Same answers. -/
namespace Go.Proofs.YtdnhnjimhbbabaaDoor
open Go.RowKit Sums
set_option linter.unusedVariables false
set_option linter.unusedSimpArgs false
theorem or8 (x y : UInt8) : bits .or .u8 (x.toNat : Int) (y.toNat : Int) = ((x ||| y).toNat : Int) := by
  rw [u8_or_nat _ _ x.toNat_lt y.toNat_lt, UInt8.toNat_or]
theorem apart_next (x a b : UInt8) : x ||| (a ^^^ b) = 0 ↔ x = 0 ∧ a = b := by
  rw [UInt8.or_eq_zero_iff, UInt8.xor_eq_zero_iff]
theorem idxDg (W : World) (g k : Nat) (hj : k < 32) : (Instr.indexAt 24 (.pointer (some ⟨g, 0, none⟩)) (.int .i64 (k : Int))).run Tryd.prog W = .ok (.pointer (some ⟨g, k, none⟩)) W := by
  have hu := Tryd.underlying24
  have h2 : (k : Int) < 32 := by omega
  have h1 : (0 : Int) ≤ (k : Int) := by omega
  have h3 : ¬ (k : Int) < 0 := by omega
  simp [go_sem, hu, sizeOf5, h1, h2, h3, add_plain]
/-- What the loop has seen. -/
structure Seen (w : World) (A B : Array Value) (W : World) : Prop where
  a : W.heap[w.heap.size]? = some (.cells A 24 (0, 0))
  b : W.heap[w.heap.size + 1]? = some (.cells B 24 (0, 0))
  below : Below w.heap.size w W
set_option maxHeartbeats 4000000 in
theorem same_any (a b : List UInt8) (w : World) (A B : Array Value) (HA : Hid (A = (cellsOf a).toArray)) (HB : Hid (B = (cellsOf b).toArray)) (ha : a.length = 32) (hb : b.length = 32) :
    Calls Tryd.prog 56 #[.agg A, .agg B] w fun e w' => e = .returned (.bool (decide (a = b))) ∧ Below w.heap.size w w' := by
  have HL0 : Hid (Seen w A B ((w.alloc (.cells A 24)).alloc (.cells B 24))) := ⟨heap_keep (heap_alloc_new w _), by have := heap_alloc_new (w.alloc (.cells A 24)) (.cells B 24); rwa [alloc_size] at this, ((Below.refl _ _).alloc (Nat.le_refl _) _).alloc (by simp) _⟩
  go_enter Tryd.func56, Tryd.ntmps56
  go_wp2
  go_loopw [5, 7] (fun v i wr => ∃ (k : Nat) (x : UInt8), k ≤ 32 ∧ i = .int .i64 k ∧ v = .int .u8 (x.toNat : Int) ∧ Hid (x = 0 ↔ a.take k = b.take k) ∧ Hid (Seen w A B wr)) (fun _ i _ => 32 - (intOf i).toNat)
  case atStart => exact ⟨0, 0, by omega, rfl, rfl, by show _ ↔ _; simp, HL0⟩
  case round =>
    clear HL0
    obtain ⟨k, x, hk32, rfl, rfl, HX, HL⟩ := hrel
    by_cases hlt : k < 32
    · have dk : decide ((k : Int) < 32) = true := by rw [decide_eq_true_eq]; omega
      have dk' : decide (k < 32) = true := by rw [decide_eq_true_eq]; omega
      have hka : k < a.length := by omega
      have hkb : k < b.length := by omega
      obtain ⟨p, HP⟩ : ∃ p : UInt8, Hid (a[k]? = some p) := ⟨a[k], List.getElem?_eq_getElem hka⟩
      obtain ⟨q, HQ⟩ : ∃ q : UInt8, Hid (b[k]? = some q) := ⟨b[k], List.getElem?_eq_getElem hkb⟩
      obtain ⟨y, HY⟩ : ∃ y : UInt8, Hid (y = p ^^^ q) := ⟨p ^^^ q, hidk rfl⟩
      obtain ⟨z, HZ⟩ : ∃ z : UInt8, Hid (z = x ||| y) := ⟨x ||| y, hidk rfl⟩
      have hx : bits .xor .u8 (p.toNat : Int) (q.toNat : Int) = (y.toNat : Int) := by rw [HY.out]; exact xor8 p q
      have ho : bits .or .u8 (x.toNat : Int) (y.toNat : Int) = (z.toNat : Int) := by rw [HZ.out]; exact or8 x y
      have HN : Hid (z = 0 ↔ a.take (k + 1) = b.take (k + 1)) := by
        show _ ↔ _
        rw [HZ.out, HY.out, apart_next, List.take_add_one, List.take_add_one, HP.out, HQ.out, HX.out]
        constructor
        · rintro ⟨h1, rfl⟩; rw [h1]
        · intro h
          have := List.append_inj h (by rw [List.length_take, List.length_take, ha, hb])
          exact ⟨this.1, by simpa using this.2⟩
      have CA : Hid (∀ W : World, W.heap[w.heap.size]? = some (.cells A 24 (0, 0)) → W.cell? ⟨w.heap.size, k, none⟩ = some (.int .u8 (p.toNat : Int))) := fun W h => by
        rw [cell_of_row W _ k _ 24 (0, 0) h, HA.out]
        obtain ⟨hh, e⟩ := List.getElem?_eq_some_iff.1 HP.out
        rw [← e]
        simpa using cellsOf_at a k hh
      have CB : Hid (∀ W : World, W.heap[w.heap.size + 1]? = some (.cells B 24 (0, 0)) → W.cell? ⟨w.heap.size + 1, k, none⟩ = some (.int .u8 (q.toNat : Int))) := fun W h => by
        rw [cell_of_row W _ k _ 24 (0, 0) h, HB.out]
        obtain ⟨hh, e⟩ := List.getElem?_eq_some_iff.1 HQ.out
        rw [← e]
        simpa using cellsOf_at b k hh
      have i1 := fun W => idxDg W w.heap.size k hlt
      have i2 := fun W => idxDg W (w.heap.size + 1) k hlt
      clear HX HP HQ HY HZ hka hkb
      go_wp2
      have HLd : Hid (Seen w A B wr.drew) := ⟨HL.out.a, HL.out.b, HL.out.below.drew⟩
      refine wp_region_held_drew (S := (fun W => W.heap[w.heap.size]? = some (.cells A 24 (0, 0)) ∧ W.heap[w.heap.size + 1]? = some (.cells B 24 (0, 0)))) (by kernel_rfl) ⟨HL.out.a, HL.out.b⟩ (fun hHeld => ?_)
      refine wpAnyH_take (i := 0) (oi := { dst := some 10, op := Op.move (Operand.tmp 5), type := 5, pos := "tag.go:28", after := #[], guard := none }) (v := .int .u8 (x.toNat : Int)) rfl (by kernel_rfl) (by kernel_rfl) (by kernel_rfl) (fun _ _ _ h => h) (Or.inl ⟨by rfl, by intro W hSw; go_simp⟩) hHeld ?_
      try simp only [Act.put, List.setIfInBounds_toArray, List.set_cons_zero, List.set_cons_succ]
      refine wpAnyH_take (i := 1) (oi := { dst := some 11, op := Op.move (Operand.tmp 6), type := 3, pos := "tag.go:28", after := #[], guard := none }) (v := .int .i64 (k : Int)) rfl (by kernel_rfl) (by kernel_rfl) (by kernel_rfl) (fun _ _ _ h => h) (Or.inl ⟨by rfl, by intro W hSw; go_simp⟩) hHeld ?_
      try simp only [Act.put, List.setIfInBounds_toArray, List.set_cons_zero, List.set_cons_succ]
      refine wpAnyH_take (i := 2) (oi := { dst := some 12, op := Op.indexAddr 24 (Operand.tmp 2) (Operand.tmp 11), type := 0, pos := "tag.go:28", after := #[{ on := 1, ground := Ground.data }], guard := none }) (v := .pointer (some ⟨w.heap.size, k, none⟩)) rfl (by kernel_rfl) (by kernel_rfl) (by kernel_rfl) (fun _ _ _ h => h) (Or.inl ⟨by rfl, by intro W hSw; have := i1 W; go_simp⟩) hHeld ?_
      try simp only [Act.put, List.setIfInBounds_toArray, List.set_cons_zero, List.set_cons_succ]
      refine wpAnyH_take (i := 3) (oi := { dst := some 13, op := Op.load 5 (Operand.tmp 12), type := 5, pos := "tag.go:28", after := #[{ on := 2, ground := Ground.data }], guard := none }) (v := .int .u8 (p.toNat : Int)) rfl (by kernel_rfl) (by kernel_rfl) (by kernel_rfl) (fun _ _ _ h => h) (Or.inl ⟨by rfl, by intro W hSw; have := CA.out W hSw.1; go_simp⟩) hHeld ?_
      try simp only [Act.put, List.setIfInBounds_toArray, List.set_cons_zero, List.set_cons_succ]
      refine wpAnyH_take (i := 4) (oi := { dst := some 14, op := Op.move (Operand.tmp 6), type := 3, pos := "tag.go:28", after := #[], guard := none }) (v := .int .i64 (k : Int)) rfl (by kernel_rfl) (by kernel_rfl) (by kernel_rfl) (fun _ _ _ h => h) (Or.inl ⟨by rfl, by intro W hSw; go_simp⟩) hHeld ?_
      try simp only [Act.put, List.setIfInBounds_toArray, List.set_cons_zero, List.set_cons_succ]
      refine wpAnyH_take (i := 5) (oi := { dst := some 15, op := Op.indexAddr 24 (Operand.tmp 3) (Operand.tmp 14), type := 0, pos := "tag.go:28", after := #[{ on := 4, ground := Ground.data }], guard := none }) (v := .pointer (some ⟨w.heap.size + 1, k, none⟩)) rfl (by kernel_rfl) (by kernel_rfl) (by kernel_rfl) (fun _ _ _ h => h) (Or.inl ⟨by rfl, by intro W hSw; have := i2 W; go_simp⟩) hHeld ?_
      try simp only [Act.put, List.setIfInBounds_toArray, List.set_cons_zero, List.set_cons_succ]
      refine wpAnyH_take (i := 6) (oi := { dst := some 16, op := Op.load 5 (Operand.tmp 15), type := 5, pos := "tag.go:28", after := #[{ on := 5, ground := Ground.data }], guard := none }) (v := .int .u8 (q.toNat : Int)) rfl (by kernel_rfl) (by kernel_rfl) (by kernel_rfl) (fun _ _ _ h => h) (Or.inl ⟨by rfl, by intro W hSw; have := CB.out W hSw.2; go_simp⟩) hHeld ?_
      try simp only [Act.put, List.setIfInBounds_toArray, List.set_cons_zero, List.set_cons_succ]
      refine wpAnyH_take (i := 7) (oi := { dst := some 17, op := Op.binOp BinOp.xor 5 (Operand.tmp 13) (Operand.tmp 16) 5, type := 5, pos := "tag.go:28", after := #[{ on := 3, ground := Ground.data }, { on := 6, ground := Ground.data }], guard := none }) (v := .int .u8 (y.toNat : Int)) rfl (by kernel_rfl) (by kernel_rfl) (by kernel_rfl) (fun _ _ _ h => h) (Or.inl ⟨by rfl, by intro W hSw; go_simp⟩) hHeld ?_
      try simp only [Act.put, List.setIfInBounds_toArray, List.set_cons_zero, List.set_cons_succ]
      refine wpAnyH_take (i := 8) (oi := { dst := some 18, op := Op.binOp BinOp.or 5 (Operand.tmp 10) (Operand.tmp 17) 5, type := 5, pos := "tag.go:28", after := #[{ on := 0, ground := Ground.data }, { on := 7, ground := Ground.data }], guard := none }) (v := .int .u8 (z.toNat : Int)) rfl (by kernel_rfl) (by kernel_rfl) (by kernel_rfl) (fun _ _ _ h => h) (Or.inl ⟨by rfl, by intro W hSw; go_simp⟩) hHeld ?_
      try simp only [Act.put, List.setIfInBounds_toArray, List.set_cons_zero, List.set_cons_succ]
      refine wpAnyH_take (i := 9) (oi := { dst := some 5, op := Op.assign (Operand.tmp 18), type := 5, pos := "tag.go:28", after := #[{ on := 8, ground := Ground.data }, { on := 0, ground := Ground.phase }, { on := 1, ground := Ground.phase }, { on := 2, ground := Ground.phase }, { on := 3, ground := Ground.phase }, { on := 4, ground := Ground.phase }, { on := 5, ground := Ground.phase }, { on := 6, ground := Ground.phase }, { on := 7, ground := Ground.phase }, { on := 8, ground := Ground.phase }], guard := none }) (v := .int .u8 (z.toNat : Int)) rfl (by kernel_rfl) (by kernel_rfl) (by kernel_rfl) (fun _ _ _ h => h) (Or.inl ⟨by rfl, by intro W hSw; go_simp⟩) hHeld ?_
      try simp only [Act.put, List.setIfInBounds_toArray, List.set_cons_zero, List.set_cons_succ]
      refine wpAnyH_done (by kernel_rfl) ?_ _
      clear i1 i2 CA CB
      go_wp2
      go_roundw
      case rel => exact ⟨k + 1, z, by omega, by go_num, rfl, HN, HLd⟩
      case measure => simp [intOf]; omega
    · obtain rfl : k = 32 := by omega
      have HBL := hidk HL.out.below
      have hd : ((x.toNat : Int) == 0) = decide (a = b) := by
        rw [show ((x.toNat : Int) == 0) = decide ((x.toNat : Int) = 0) from by rw [Bool.eq_iff_iff]; simp only [beq_iff_eq, decide_eq_true_eq]]
        have e := HX.out
        rw [List.take_of_length_le (by omega), List.take_of_length_le (by omega)] at e
        by_cases h : a = b
        · rw [decide_eq_true h, decide_eq_true_eq, e.2 h]; rfl
        · rw [decide_eq_false h, decide_eq_false_iff_not]
          intro h0
          exact h (e.1 (UInt8.toNat_inj.1 (by simpa using h0)))
      clear HL HX
      go_wp2
      go_ret
      refine ⟨?_, HBL.out⟩
      first | rfl | (rw [← hd]; simp) | simp [← hd]
end Go.Proofs.YtdnhnjimhbbabaaDoor

/- What tag.Holds answers; what the calls of package tag answer, all together. -/
namespace Go.Proofs.YtdnhnjimhbbabaaDoor
open Go.RowKit Sums
set_option maxRecDepth 100000
set_option linter.unusedVariables false
set_option linter.unusedSimpArgs false
set_option maxHeartbeats 8000000 in
theorem holds_any (master : List UInt8) (r n : Int) (s : ByteArray) (t : List UInt8) (w : World) (M U : Array Value) (HM : Hid (M = (cellsOf master).toArray)) (HU : Hid (U = (cellsOf t).toArray)) (hm : master.length = 32) (ht : t.length = 32) (hs : s.size ≤ 100000) (hT : TabT w) :
    Calls Tryd.prog 31 #[.agg M, .int .i64 r, .int .i64 n, .string s, .agg U] w fun e w' => e = .returned (.int .i64 (holdE master r n s.data.toList t)) ∧ Below w.heap.size w w' := by
  obtain ⟨Z, HZ, HA, H32⟩ := noughtsY
  have hko := keyO_length sumD_length master r n
  obtain ⟨Ky, HK, HSK, H1K, H32K⟩ := key_row (keyO master r n) hko
  have HZK : Hid (Z.size = Ky.size) := by show _ = _; rw [H32.out, H32K.out]
  have HSM : Hid ((Tryd.prog.info? 23).map (·.size) = some M.size) := by show _ = _; rw [sizeY, HM.out]; simp [cellsOf_length, hm]
  have HSU : Hid ((Tryd.prog.info? 24).map (·.size) = some U.size) := by show _ = _; rw [size23, HU.out]; simp [cellsOf_length, ht]
  obtain ⟨k, Hk⟩ : ∃ k, Hid (k = keyE r n) := ⟨_, (rfl : _ = _)⟩
  have C1 : Hid (∀ W, Below w.heap.size w W → Calls Tryd.prog 24 #[.agg M, .int .i64 r, .int .i64 n] W fun e w' => e = .returned (.tuple #[.agg Ky, .int .i64 k]) ∧ Below W.heap.size W w') := fun W hb => by rw [Hk.out]; exact key_any master r n W M Ky HM hm (hT.keep hb) HK
  obtain ⟨D, HD, HSD, H1D, H32D⟩ := dig_row' (macD (keyO master r n) s.data.toList) (sumD_length _)
  obtain ⟨b, Hb⟩ : ∃ b, Hid (b = decide (t = macD (keyO master r n) s.data.toList)) := ⟨_, (rfl : _ = _)⟩
  have C2 : Hid (∀ W, Below w.heap.size w W → Calls Tryd.prog 25 #[.agg Ky, .string s] W fun e w' => e = .returned (.agg D) ∧ Below W.heap.size W w') := fun W hb => mac_any _ s W Ky D HK hko hs (hT.keep hb) HD
  have C3 : Hid (∀ W, Calls Tryd.prog 56 #[.agg U, .agg D] W fun e w' => e = .returned (.bool b) ∧ Below W.heap.size W w') := fun W => by rw [Hb.out]; exact same_any t _ W U D HU HD ht (sumD_length _)
  have HW0 : Hid (Below w.heap.size w ((w.alloc (.cells M 23)).alloc (.cells U 24)) ∧ ((w.alloc (.cells M 23)).alloc (.cells U 24)).heap[w.heap.size]? = some (.cells M 23 (0, 0)) ∧ ((w.alloc (.cells M 23)).alloc (.cells U 24)).heap[w.heap.size + 1]? = some (.cells U 24 (0, 0))) :=
    ⟨((Below.refl _ _).alloc (Nat.le_refl _) _).alloc (by simp) _, heap_keep (heap_alloc_new w _), by have := heap_alloc_new (w.alloc (.cells M 23)) (.cells U 24); rwa [alloc_size] at this⟩
  have hk0 : (k = 0 ∧ owner r n = true) ∨ (k = 50 ∧ ¬ owner r n = true) := by
    rw [Hk.out]; unfold keyE
    by_cases ho : owner r n = true
    · rw [if_pos ho]; exact .inl ⟨rfl, ho⟩
    · rw [if_neg ho]; exact .inr ⟨rfl, ho⟩
  obtain ⟨z, Hz⟩ : ∃ z, Hid (z = holdE master r n s.data.toList t) := ⟨_, (rfl : _ = _)⟩
  rw [← Hz.out]
  clear hT HD HK HM HU Hk
  go_enter Tryd.func31, Tryd.ntmps31
  go_wp2_with (first
    | (show wpList _ _ _ ({ dst := some 14, op := _, type := _, pos := _, after := _, guard := _ } :: _) _ _; refine wpList_load_row rfl 23 (.tmp 5) rfl w.heap.size rfl 23 M (0, 0) _ HW0.out.2.1 Tryd.underlying23 rfl HSM.out ?_; try simp only [Act.put, List.setIfInBounds_toArray, List.set_cons_zero, List.set_cons_succ])
    | fail)
  refine (C1.out _ HW0.out.1).mono ?_
  rintro e w1 ⟨rfl, hb1⟩
  have HB1 := hidk (HW0.out.1.trans (hb1.mono HW0.out.1.size))
  have HU1 := hidk ((hb1.block _ (heap_lt HW0.out.2.2)).trans HW0.out.2.2)
  clear hb1 HW0 C1
  rcases hk0 with ⟨rfl, ho⟩ | ⟨rfl, ho⟩
  · have HE : Hid (z = if b = true then 0 else 72) := by
      show _ = _
      rw [Hz.out, holdE_in _ _ _ _ _ ho, ← keyO_in _ _ _ ho, Hb.out]
      by_cases h : t = macD (keyO master r n) s.data.toList
      · rw [if_pos h.symm, if_pos (by simpa using h)]
      · rw [if_neg (fun q => h q.symm), if_neg (by simpa using h)]
    clear Hb Hz ho
    go_wp2_with (first
      | (show wpList _ _ _ ({ dst := some 11, op := _, type := _, pos := _, after := _, guard := _ } :: _) _ _; refine wpList_new_var rfl 23 rfl Z HA.out ?_; intro g11 w2 HM11; try simp only [Act.put, List.setIfInBounds_toArray, List.set_cons_zero, List.set_cons_succ])
      | (refine wpList_set_var rfl 23 (.tmp 11) (.tmp 18) rfl g11 Ky rfl rfl 23 Z HM11.out.row HSK.out HZK.out H1K.out ?_; intro w3 HW11; try simp only [Act.put, List.setIfInBounds_toArray, List.set_cons_zero, List.set_cons_succ])
      | fail)
    have HX3 := hidk (HW11.out.below w1.heap.size w1 HM11.out.below (Nat.le_of_eq HM11.out.new.symm))
    have HBc : Hid (Below w.heap.size w w3.drew) := (HB1.out.trans (HX3.out.mono HB1.out.size)).drew
    have HU3 := hidk ((HX3.out.block _ (heap_lt HU1.out)).trans HU1.out)
    have HK3 := hidk HW11.out.row
    clear HM11 HW11 HX3 HB1 HU1
    refine wp_region_held_drew (S := (fun W => W.heap[w.heap.size + 1]? = some (.cells U 24 (0, 0)) ∧ W.heap[g11]? = some (.cells Ky 23 (0, 0)))) (by kernel_rfl) ⟨HU3.out, HK3.out⟩ (fun hHeld => ?_)
    refine wpAnyH_take (i := 0) (oi := { dst := some 23, op := Op.load 24 (Operand.tmp 9), type := 24, pos := "tag.go:48", after := #[], guard := none }) (v := .agg U) rfl (by kernel_rfl) (by kernel_rfl) (by kernel_rfl) (fun _ _ _ h => h) (yieldsIf_row (by rfl) 24 (.tmp 9) rfl (w.heap.size + 1) rfl 24 U (0, 0) _ (fun _ h => h.1) Tryd.underlying24 rfl HSU.out) hHeld ?_
    try simp only [Act.put, List.setIfInBounds_toArray, List.set_cons_zero, List.set_cons_succ]
    refine wpAnyH_take (i := 1) (oi := { dst := some 24, op := Op.load 23 (Operand.tmp 11), type := 23, pos := "tag.go:48", after := #[], guard := none }) (v := .agg Ky) rfl (by kernel_rfl) (by kernel_rfl) (by kernel_rfl) (fun _ _ _ h => h) (yieldsIf_row (by rfl) 23 (.tmp 11) rfl g11 rfl 23 Ky (0, 0) _ (fun _ h => h.2) Tryd.underlying23 rfl HSK.out) hHeld ?_
    try simp only [Act.put, List.setIfInBounds_toArray, List.set_cons_zero, List.set_cons_succ]
    refine wpAnyH_take (i := 2) (oi := { dst := some 25, op := Op.move (Operand.tmp 3), type := 9, pos := "tag.go:48", after := #[], guard := none }) (v := .string s) rfl (by kernel_rfl) (by kernel_rfl) (by kernel_rfl) (fun _ _ _ h => h) (Or.inl ⟨by rfl, by intro W hSw; go_simp⟩) hHeld ?_
    try simp only [Act.put, List.setIfInBounds_toArray, List.set_cons_zero, List.set_cons_succ]
    refine wpAnyH_ready (rs := [3]) (by kernel_rfl) (by simp) ?_
    refine (AllReadyH.cons (o := { dst := some 26, op := Op.call { callee := Callee.value (Operand.func 25), args := #[Operand.tmp 24, Operand.tmp 25], argTypes := #[23, 9] }, type := 24, pos := "tag.go:48", after := #[{ on := 1, ground := Ground.data }, { on := 2, ground := Ground.data }], guard := none }) rfl (fun K hK => ?_) AllReadyH.nil)
    go_simp
    refine (C2.out _ HBc.out).mono ?_
    rintro e w4 ⟨rfl, hb4⟩
    replace HBc := hidk (HBc.out.trans (hb4.mono HBc.out.size))
    go_wp2_with fail
    refine hK.out _ _ ⟨(hb4.block _ (heap_lt hHeld.1)).trans hHeld.1, (hb4.block _ (heap_lt hHeld.2)).trans hHeld.2⟩ (fun hHeld => ?_)
    clear hK K
    try simp only [Act.put, List.setIfInBounds_toArray, List.set_cons_zero, List.set_cons_succ]
    refine wpAnyH_ready (rs := [4]) (by kernel_rfl) (by simp) ?_
    refine (AllReadyH.cons (o := { dst := some 27, op := Op.call { callee := Callee.value (Operand.func 56), args := #[Operand.tmp 23, Operand.tmp 26], argTypes := #[24, 24] }, type := 4, pos := "tag.go:48", after := #[{ on := 0, ground := Ground.data }, { on := 3, ground := Ground.data }, { on := 3, ground := Ground.chain }], guard := none }) rfl (fun K hK => ?_) AllReadyH.nil)
    go_simp
    refine (C3.out _).mono ?_
    rintro e w5 ⟨rfl, hb5⟩
    replace HBc := hidk (HBc.out.trans (hb5.mono HBc.out.size))
    go_wp2_with fail
    refine hK.out _ _ ⟨(hb5.block _ (heap_lt hHeld.1)).trans hHeld.1, (hb5.block _ (heap_lt hHeld.2)).trans hHeld.2⟩ (fun hHeld => ?_)
    clear hK K
    try simp only [Act.put, List.setIfInBounds_toArray, List.set_cons_zero, List.set_cons_succ]
    refine wpAnyH_take (i := 5) (oi := { dst := some 28, op := Op.unOp UnOp.not 4 (Operand.tmp 27), type := 4, pos := "tag.go:48", after := #[{ on := 4, ground := Ground.data }], guard := none }) (v := .bool (!b)) rfl (by kernel_rfl) (by kernel_rfl) (by kernel_rfl) (fun _ _ _ h => h) (Or.inl ⟨by rfl, by intro W hSw; go_simp⟩) hHeld ?_
    try simp only [Act.put, List.setIfInBounds_toArray, List.set_cons_zero, List.set_cons_succ]
    refine wpAnyH_done (by kernel_rfl) ?_ _
    cases b
    · go_wp2
      go_ret
      exact ⟨by rw [HE.out]; rfl, HBc.out⟩
    · go_wp2
      go_ret
      exact ⟨by rw [HE.out]; rfl, HBc.out⟩
  · have HE : Hid (z = 50) := by show _ = _; rw [Hz.out, holdE_out _ _ _ _ _ ho]
    clear Hb Hz ho
    go_wp2_with (first
      | (show wpList _ _ _ ({ dst := some 11, op := _, type := _, pos := _, after := _, guard := _ } :: _) _ _; refine wpList_new_var rfl 23 rfl Z HA.out ?_; intro g11 w2 HM11; try simp only [Act.put, List.setIfInBounds_toArray, List.set_cons_zero, List.set_cons_succ])
      | (refine wpList_set_var rfl 23 (.tmp 11) (.tmp 18) rfl g11 Ky rfl rfl 23 Z HM11.out.row HSK.out HZK.out H1K.out ?_; intro w3 HW11; try simp only [Act.put, List.setIfInBounds_toArray, List.set_cons_zero, List.set_cons_succ])
      | fail)
    have HX3 := hidk (HW11.out.below w1.heap.size w1 HM11.out.below (Nat.le_of_eq HM11.out.new.symm))
    go_ret
    exact ⟨by rw [HE.out]; rfl, HB1.out.trans (HX3.out.mono HB1.out.size)⟩
end Go.Proofs.YtdnhnjimhbbabaaDoor

/- What head.Verify and head.PutSigned answer. -/
namespace Go.Proofs.YtdnhnjimhbbabaaDoor
open Go.RowKit Sums Nums
set_option linter.unusedVariables false
set_option linter.unusedSimpArgs false
set_option maxRecDepth 100000
set_option maxHeartbeats 2000000 in
theorem hPutS_no (s : SgT) (hs : InS s) (hm : mayS s = false) (w : World) (C : Array Value) (HC : Hid (C = (scells s).toArray)) :
    Calls Tryd.prog 13 #[.agg C] w fun e w' => BytesE [] 70 e w' ∧ Below w.heap.size w w' := by
  have hnot : ∀ (x : Bool) (w : World), (Op.unary .not (.bool x)).run Tryd.prog w = .ok (.bool (!x)) w := fun _ _ => rfl
  have HSC : Hid ((Tryd.prog.info? 28).map (·.size) = some C.size) := by show _ = _; rw [sizeS, HC.out]; simp [scells_length s hs.h.d hs.g]
  have HR : Hid ((w.alloc (.cells C 28)).heap[w.heap.size]? = some (.cells C 28 (0, 0))) := heap_alloc_new w _
  have HB : Hid (Below w.heap.size w (w.alloc (.cells C 28))) := (Below.refl _ _).alloc (Nat.le_refl _) _
  have K1 : Hid (∀ W, Calls Tryd.prog 23 #[.agg C] W fun e w' => e = .returned (.bool false) ∧ Below W.heap.size W w') := fun W => by
    have := hMay_any s hs.h.d W C HC
    rwa [hm] at this
  clear HC hm hs
  go_enter Tryd.func13, Tryd.ntmps13
  go_wp2_with (first
    | (show wpList _ _ _ ({ dst := some 4, op := _, type := _, pos := _, after := _, guard := _ } :: _) _ _; refine wpList_load_row rfl 28 (.tmp 1) rfl w.heap.size rfl 28 C (0, 0) _ HR.out Tryd.underlying28 rfl HSC.out ?_; try simp only [Act.put, List.setIfInBounds_toArray, List.set_cons_zero, List.set_cons_succ])
    | fail)
  refine (K1.out _).mono ?_
  rintro e w1 ⟨rfl, hb1⟩
  have HB1 := hidk (HB.out.trans (hb1.mono HB.out.size))
  clear hb1
  go_wp2
  go_ret2
  exact ⟨bytes_no _ _, HB1.out⟩
set_option maxHeartbeats 8000000 in
theorem hPutS_yes (s : SgT) (hs : InS s) (hm : mayS s = true) (w : World) (C : Array Value) (HC : Hid (C = (scells s).toArray)) :
    Calls Tryd.prog 13 #[.agg C] w fun e w' => BytesE (signB s) 0 e w' ∧ Below w.heap.size w w' := by
  have hnot : ∀ (x : Bool) (w : World), (Op.unary .not (.bool x)).run Tryd.prog w = .ok (.bool (!x)) w := fun _ _ => rfl
  have hd := hs.h.d
  have hg := hs.g
  have hrt := ((mayS_iff s).1 hm).1
  have HSC : Hid ((Tryd.prog.info? 28).map (·.size) = some C.size) := by show _ = _; rw [sizeS, HC.out]; simp [scells_length s hd hg]
  have HRW : Hid ((w.alloc (.cells C 28)).heap[w.heap.size]? = some (.cells C 28 (0, 0))) := heap_alloc_new w _
  have K1 : Hid (∀ W, Calls Tryd.prog 23 #[.agg C] W fun e w' => e = .returned (.bool true) ∧ Below W.heap.size W w') := fun W => by
    have := hMay_any s hd W C HC
    rwa [hm] at this
  have HR := hidk (srow_new w s hd C HC 28)
  have HB : Hid (Below w.heap.size w (w.alloc (.cells C 28))) := (Below.refl _ _).alloc (Nat.le_refl _) _
  obtain ⟨HCs, HHC, HSH, H36⟩ := head_row s.h hd
  obtain ⟨D, HD, HSD, H1D, H32D⟩ := dig_row' s.g hg
  obtain ⟨n, Hn⟩ : ∃ n, Hid (n = s.n) := ⟨s.n, hidk rfl⟩
  obtain ⟨n2, Hn2⟩ : ∃ x : ByteArray, Hid (x = nOf n) := ⟨nOf n, hidk rfl⟩
  obtain ⟨x1, HX1⟩ : ∃ x : ByteArray, Hid (x = bA (headB s.h)) := ⟨bA (headB s.h), hidk rfl⟩
  obtain ⟨x3, HX3⟩ : ∃ x : ByteArray, Hid (x = bA s.g) := ⟨bA s.g, hidk rfl⟩
  obtain ⟨l, Hl⟩ : ∃ l, Hid (l = signB s) := ⟨signB s, hidk rfl⟩
  have B1 : Hid (∀ W, Calls Tryd.prog 34 #[.agg HCs] W fun e w' => e = .returned (.string x1) ∧ Below W.heap.size W w') := fun W => by
    have := hLaid_any s.h hd W HCs HHC
    rwa [show putB s.h = headB s.h by unfold putB; rw [if_pos hrt], ← HX1.out] at this
  have N2 : Hid (∀ W, Calls Tryd.prog 35 #[.int .i64 2, .int .i64 n] W fun e w' => e = .returned (.agg #[.int .i64 2, .string n2]) ∧ Below W.heap.size W w') := fun W => by rw [Hn2.out]; exact hNum_any 2 n W
  have X3 : Hid (∀ W, Calls Tryd.prog 36 #[.int .i64 3, .agg D] W fun e w' => e = .returned (.agg #[.int .i64 3, .string x3]) ∧ Below W.heap.size W w') := fun W => by rw [HX3.out]; exact hDig_any 3 s.g hg W D HD
  have hL3 : fieldsN (sL s) = [(1, x1), (2, n2), (3, x3)] := by rw [HX1.out, Hn2.out, HX3.out, Hn.out]; rfl
  have LY : Hid (∀ W, Calls Tryd.prog 33 #[.slice (some ⟨W.heap.size, 0, none⟩) 3 3] (W.alloc (.cells #[.int .i64 1, .string x1, .int .i64 2, .string n2, .int .i64 3, .string x3] 59)) fun e w' => ∃ a c, e = .returned (.tuple #[.slice a l.length c, .int .i64 0]) ∧ Reads w' a l.length c l ∧ Below W.heap.size W w') := fun W => by
    have hk := layE_sL s hd hg
    have hrw := rowOf_ok hk
    rw [hL3] at hk hrw
    have hmm : ∀ f ∈ [((1 : Int), x1), (2, n2), (3, x3)], f.2.size ≤ maxLen := fun y hy => by
      simp only [List.mem_cons, List.not_mem_nil, or_false] at hy
      unfold maxLen
      rcases hy with rfl | rfl | rfl
      · have := bA_size (headB s.h); rw [← HX1.out] at this; have := headB_length s.h hd; show x1.size ≤ _; omega
      · have := nOf_size n; rw [← Hn2.out] at this; show n2.size ≤ _; omega
      · have := bA_size s.g; rw [← HX3.out] at this; show x3.size ≤ _; omega
    have hF := freads_lit W #[.int .i64 1, .string x1, .int .i64 2, .string n2, .int .i64 3, .string x3] (0, 0) [((1 : Int), x1), (2, n2), (3, x3)] rfl (by show 3 ≤ 1048576; decide) hmm
    rw [← alloc_size W (.cells #[.int .i64 1, .string x1, .int .i64 2, .string n2, .int .i64 3, .string x3] 59)] at hF
    refine (lay_reads (some ⟨W.heap.size, 0, none⟩) 3 3 [((1 : Int), x1), (2, n2), (3, x3)] _ hF (by decide) (k := 0) (l := l) hk (by rw [hrw, Hl.out, ← hL3]; rfl)).mono ?_
    rintro e w' ⟨a, c, he, hrd, hb⟩
    exact ⟨a, c, he, hrd, ((Below.refl _ _).alloc (Nat.le_refl _) _).trans (hb.mono (by simp))⟩
  have HDL : Hid (D.toList = cellsOf s.g) := by show _ = _; rw [HD.out]
  have HHL : Hid (HCs.toList = hcells s.h) := by show _ = _; rw [HHC.out]
  rw [← Hl.out]
  clear HC hL3 HX1 HX3 HD Hn2 Hl hm hrt
  go_enter Tryd.func13, Tryd.ntmps13
  go_wp2_with (first
    | (show wpList _ _ _ ({ dst := some 4, op := _, type := _, pos := _, after := _, guard := _ } :: _) _ _; refine wpList_load_row rfl 28 (.tmp 1) rfl w.heap.size rfl 28 C (0, 0) _ HRW.out Tryd.underlying28 rfl HSC.out ?_; try simp only [Act.put, List.setIfInBounds_toArray, List.set_cons_zero, List.set_cons_succ])
    | fail)
  refine (K1.out _).mono ?_
  rintro e w0 ⟨rfl, hb0⟩
  have HB0 := hidk (HB.out.trans (hb0.mono HB.out.size))
  have HR0 := hidk (HR.out.keep hb0)
  clear hb0 HB HR HRW K1
  go_wp2
  refine wp_region_held_drew (S := (fun W => SRow W w.heap.size 0 s)) (by kernel_rfl) (show SRow w0.drew w.heap.size 0 s from HR0.out.keep (Below.refl _ _).drew) (fun hHeld => ?_)
  refine wpAnyH_take (i := 0) (oi := { dst := some 7, op := Op.fieldAddr 28 (Operand.tmp 1) 0, type := 0, pos := "head.go:96", after := #[], guard := none }) (v := .pointer (some ⟨w.heap.size, 0, none⟩)) rfl (by kernel_rfl) (by kernel_rfl) (by kernel_rfl) (fun _ _ _ h => h) (Or.inl ⟨by rfl, by intro W hSw; go_simp⟩) hHeld ?_
  try simp only [Act.put, List.setIfInBounds_toArray, List.set_cons_zero, List.set_cons_succ]
  refine wpAnyH_take (i := 1) (oi := { dst := some 8, op := Op.load 26 (Operand.tmp 7), type := 26, pos := "head.go:96", after := #[{ on := 0, ground := Ground.data }], guard := none }) (v := .agg HCs) rfl (by kernel_rfl) (by kernel_rfl) (by kernel_rfl) (fun _ _ _ h => h) (yieldsIf_mid (by rfl) 26 (.tmp 7) rfl w.heap.size 0 rfl HCs _ (fun _ h => by rw [HHL.out]; exact h.h) Tryd.underlying26 rfl HSH.out) hHeld ?_
  try simp only [Act.put, List.setIfInBounds_toArray, List.set_cons_zero, List.set_cons_succ]
  refine wpAnyH_take (i := 4) (oi := { dst := some 11, op := Op.fieldAddr 28 (Operand.tmp 1) 1, type := 0, pos := "head.go:96", after := #[], guard := none }) (v := .pointer (some ⟨w.heap.size, 36, none⟩)) rfl (by kernel_rfl) (by kernel_rfl) (by kernel_rfl) (fun _ _ _ h => h) (Or.inl ⟨by rfl, by intro W hSw; go_simp⟩) hHeld ?_
  try simp only [Act.put, List.setIfInBounds_toArray, List.set_cons_zero, List.set_cons_succ]
  refine wpAnyH_take (i := 5) (oi := { dst := some 12, op := Op.load 3 (Operand.tmp 11), type := 3, pos := "head.go:96", after := #[{ on := 4, ground := Ground.data }], guard := none }) (v := .int .i64 n) rfl (by kernel_rfl) (by kernel_rfl) (by kernel_rfl) (fun _ _ _ h => h) (Or.inl ⟨by rfl, by intro W hSw; have h1 := hSw.n; rw [← Hn.out, Nat.zero_add] at h1; go_simp⟩) hHeld ?_
  try simp only [Act.put, List.setIfInBounds_toArray, List.set_cons_zero, List.set_cons_succ]
  refine wpAnyH_take (i := 7) (oi := { dst := some 14, op := Op.fieldAddr 28 (Operand.tmp 1) 2, type := 0, pos := "head.go:96", after := #[], guard := none }) (v := .pointer (some ⟨w.heap.size, 37, none⟩)) rfl (by kernel_rfl) (by kernel_rfl) (by kernel_rfl) (fun _ _ _ h => h) (Or.inl ⟨by rfl, by intro W hSw; go_simp⟩) hHeld ?_
  try simp only [Act.put, List.setIfInBounds_toArray, List.set_cons_zero, List.set_cons_succ]
  refine wpAnyH_take (i := 8) (oi := { dst := some 15, op := Op.load 24 (Operand.tmp 14), type := 24, pos := "head.go:96", after := #[{ on := 7, ground := Ground.data }], guard := none }) (v := .agg D) rfl (by kernel_rfl) (by kernel_rfl) (by kernel_rfl) (fun _ _ _ h => h) (yieldsIf_mid (by rfl) 24 (.tmp 14) rfl w.heap.size 37 rfl D _ (fun _ h => by rw [HDL.out]; have := h.g; rwa [Nat.zero_add] at this) Tryd.underlying24 rfl HSD.out) hHeld ?_
  try simp only [Act.put, List.setIfInBounds_toArray, List.set_cons_zero, List.set_cons_succ]
  refine wpAnyH_ready (rs := [2]) (by kernel_rfl) (by simp) ?_
  refine (AllReadyH.cons (o := { dst := some 9, op := Op.call { callee := Callee.value (Operand.func 34), args := #[Operand.tmp 8], argTypes := #[26] }, type := 9, pos := "head.go:97", after := #[{ on := 1, ground := Ground.data }], guard := none }) rfl (fun K hK => ?_) AllReadyH.nil)
  go_simp
  refine (B1.out _).mono ?_
  rintro e w2 ⟨rfl, hb1⟩
  have HBc := hidk (HB0.out.drew.trans (hb1.mono HB0.out.size))
  go_wp2_with fail
  refine hK.out _ _ (hHeld.keep hb1) (fun hHeld => ?_)
  clear hK K
  try simp only [Act.put, List.setIfInBounds_toArray, List.set_cons_zero, List.set_cons_succ]
  refine wpAnyH_take (i := 3) (oi := { dst := some 10, op := Op.build 59 #[(0, Operand.const (Value.int IntKind.i64 1)), (1, Operand.tmp 9)], type := 59, pos := "head.go:96", after := #[{ on := 2, ground := Ground.data }], guard := none }) (v := .agg #[.int .i64 1, .string x1]) rfl (by kernel_rfl) (by kernel_rfl) (by kernel_rfl) (fun _ _ _ h => h) (Or.inl ⟨by rfl, by intro W hSw; go_simp⟩) hHeld ?_
  try simp only [Act.put, List.setIfInBounds_toArray, List.set_cons_zero, List.set_cons_succ]
  refine wpAnyH_ready (rs := [6]) (by kernel_rfl) (by simp) ?_
  refine (AllReadyH.cons (o := { dst := some 13, op := Op.call { callee := Callee.value (Operand.func 35), args := #[Operand.const (Value.int IntKind.i64 2), Operand.tmp 12], argTypes := #[3, 3] }, type := 59, pos := "head.go:98", after := #[{ on := 5, ground := Ground.data }, { on := 2, ground := Ground.chain }], guard := none }) rfl (fun K hK => ?_) AllReadyH.nil)
  go_simp
  refine (N2.out _).mono ?_
  rintro e w6 ⟨rfl, hb2⟩
  replace HBc := hidk (HBc.out.trans (hb2.mono HBc.out.size))
  go_wp2_with fail
  refine hK.out _ _ (hHeld.keep hb2) (fun hHeld => ?_)
  clear hK K
  try simp only [Act.put, List.setIfInBounds_toArray, List.set_cons_zero, List.set_cons_succ]
  refine wpAnyH_ready (rs := [9]) (by kernel_rfl) (by simp) ?_
  refine (AllReadyH.cons (o := { dst := some 16, op := Op.call { callee := Callee.value (Operand.func 36), args := #[Operand.const (Value.int IntKind.i64 3), Operand.tmp 15], argTypes := #[3, 24] }, type := 59, pos := "head.go:99", after := #[{ on := 8, ground := Ground.data }, { on := 6, ground := Ground.chain }], guard := none }) rfl (fun K hK => ?_) AllReadyH.nil)
  go_simp
  refine (X3.out _).mono ?_
  rintro e w9 ⟨rfl, hb3⟩
  replace HBc := hidk (HBc.out.trans (hb3.mono HBc.out.size))
  go_wp2_with fail
  refine hK.out _ _ (hHeld.keep hb3) (fun hHeld => ?_)
  clear hK K
  try simp only [Act.put, List.setIfInBounds_toArray, List.set_cons_zero, List.set_cons_succ]
  refine wpAnyH_ready (rs := [10]) (by kernel_rfl) (by simp) ?_
  refine (AllReadyH.cons (o := { dst := some 17, op := Op.buildSlice 62 3 #[(0, Operand.tmp 10), (1, Operand.tmp 13), (2, Operand.tmp 16)], type := 62, pos := "head.go:96", after := #[{ on := 3, ground := Ground.data }, { on := 6, ground := Ground.data }, { on := 9, ground := Ground.data }], guard := none }) rfl (fun K hK => ?_) AllReadyH.nil)
  have HRc := hidk hHeld
  go_simp
  refine hK.out _ _ (hHeld.keep ((Below.refl _ _).alloc (Nat.le_refl _) _)) (fun hHeld => ?_)
  clear hK K
  try simp only [Act.put, List.setIfInBounds_toArray, List.set_cons_zero, List.set_cons_succ]
  refine wpAnyH_ready (rs := [11]) (by kernel_rfl) (by simp) ?_
  refine (AllReadyH.cons (o := { dst := some 18, op := Op.call { callee := Callee.value (Operand.func 33), args := #[Operand.tmp 17], argTypes := #[62] }, type := 36, pos := "head.go:96", after := #[{ on := 10, ground := Ground.data }, { on := 9, ground := Ground.chain }], guard := none }) rfl (fun K hK => ?_) AllReadyH.nil)
  go_simp
  refine (LY.out _).mono ?_
  rintro e w11 ⟨a11, c11, rfl, hrd, hb6⟩
  have HRD := hidk hrd
  have HBF := hidk (HBc.out.trans (hb6.mono HBc.out.size))
  go_wp2_with fail
  refine hK.out _ _ (HRc.out.keep hb6) (fun hHeld => ?_)
  clear hK K
  try simp only [Act.put, List.setIfInBounds_toArray, List.set_cons_zero, List.set_cons_succ]
  refine wpAnyH_take (i := 12) (oi := { dst := some 19, op := Op.extract (Operand.tmp 18) 0, type := 35, pos := "head.go:96", after := #[{ on := 11, ground := Ground.data }], guard := none }) (v := .slice a11 l.length c11) rfl (by kernel_rfl) (by kernel_rfl) (by kernel_rfl) (fun _ _ _ h => h) (Or.inl ⟨by rfl, by intro W hSw; go_simp⟩) hHeld ?_
  try simp only [Act.put, List.setIfInBounds_toArray, List.set_cons_zero, List.set_cons_succ]
  refine wpAnyH_take (i := 13) (oi := { dst := some 20, op := Op.extract (Operand.tmp 18) 1, type := 29, pos := "head.go:96", after := #[{ on := 11, ground := Ground.data }], guard := none }) (v := .int .i64 0) rfl (by kernel_rfl) (by kernel_rfl) (by kernel_rfl) (fun _ _ _ h => h) (Or.inl ⟨by rfl, by intro W hSw; go_simp⟩) hHeld ?_
  try simp only [Act.put, List.setIfInBounds_toArray, List.set_cons_zero, List.set_cons_succ]
  refine wpAnyH_take (i := 14) (oi := { dst := some 2, op := Op.assign (Operand.tmp 19), type := 35, pos := "head.go:96", after := #[{ on := 12, ground := Ground.data }, { on := 11, ground := Ground.chain }, { on := 0, ground := Ground.phase }, { on := 1, ground := Ground.phase }, { on := 2, ground := Ground.phase }, { on := 3, ground := Ground.phase }, { on := 4, ground := Ground.phase }, { on := 5, ground := Ground.phase }, { on := 6, ground := Ground.phase }, { on := 7, ground := Ground.phase }, { on := 8, ground := Ground.phase }, { on := 9, ground := Ground.phase }, { on := 10, ground := Ground.phase }, { on := 11, ground := Ground.phase }, { on := 12, ground := Ground.phase }, { on := 13, ground := Ground.phase }], guard := none }) (v := .slice a11 l.length c11) rfl (by kernel_rfl) (by kernel_rfl) (by kernel_rfl) (fun _ _ _ h => h) (Or.inl ⟨by rfl, by intro W hSw; go_simp⟩) hHeld ?_
  try simp only [Act.put, List.setIfInBounds_toArray, List.set_cons_zero, List.set_cons_succ]
  refine wpAnyH_take (i := 15) (oi := { dst := some 3, op := Op.assign (Operand.tmp 20), type := 29, pos := "head.go:96", after := #[{ on := 13, ground := Ground.data }, { on := 14, ground := Ground.chain }, { on := 0, ground := Ground.phase }, { on := 1, ground := Ground.phase }, { on := 2, ground := Ground.phase }, { on := 3, ground := Ground.phase }, { on := 4, ground := Ground.phase }, { on := 5, ground := Ground.phase }, { on := 6, ground := Ground.phase }, { on := 7, ground := Ground.phase }, { on := 8, ground := Ground.phase }, { on := 9, ground := Ground.phase }, { on := 10, ground := Ground.phase }, { on := 11, ground := Ground.phase }, { on := 12, ground := Ground.phase }, { on := 13, ground := Ground.phase }, { on := 14, ground := Ground.phase }], guard := none }) (v := .int .i64 0) rfl (by kernel_rfl) (by kernel_rfl) (by kernel_rfl) (fun _ _ _ h => h) (Or.inl ⟨by rfl, by intro W hSw; go_simp⟩) hHeld ?_
  try simp only [Act.put, List.setIfInBounds_toArray, List.set_cons_zero, List.set_cons_succ]
  refine wpAnyH_done (by kernel_rfl) ?_ _
  go_wp2
  go_ret2
  exact ⟨⟨_, _, rfl, HRD.out⟩, HBF.out⟩
theorem hPutS_any (s : SgT) (hs : InS s) (w : World) (C : Array Value) (HC : Hid (C = (scells s).toArray)) :
    Calls Tryd.prog 13 #[.agg C] w fun e w' => BytesE (putSB s) (putSE s) e w' ∧ Below w.heap.size w w' := by
  unfold putSB putSE
  cases hr : mayS s
  · exact hPutS_no s hs hr w C HC
  · exact hPutS_yes s hs hr w C HC
theorem came2 (w : World) (M C : Array Value) (t u : TypeId) : Below w.heap.size w ((w.alloc (.cells M t)).alloc (.cells C u)) ∧ ((w.alloc (.cells M t)).alloc (.cells C u)).heap[w.heap.size]? = some (.cells M t (0, 0)) ∧ ((w.alloc (.cells M t)).alloc (.cells C u)).heap[w.heap.size + 1]? = some (.cells C u (0, 0)) :=
  ⟨((Below.refl _ _).alloc (Nat.le_refl _) _).alloc (by simp) _, heap_keep (heap_alloc_new w _), by have := heap_alloc_new (w.alloc (.cells M t)) (.cells C u); rwa [alloc_size] at this⟩
theorem srow_row {W : World} {g : Nat} {s : SgT} (hd : s.h.d.length = 32) {C : Array Value} (HC : Hid (C = (scells s).toArray)) {t : TypeId} (h : W.heap[g]? = some (.cells C t (0, 0))) : SRow W g 0 s := by
  refine srow_of hd fun j v hj => ?_
  rw [Nat.zero_add, cell_of_row _ _ j _ t (0, 0) h, HC.out]
  simpa using hj
theorem srow_r {W : World} {g : Nat} {s : SgT} (h : SRow W g 0 s) : W.cell? ⟨g, 0, none⟩ = some (.int .i64 s.h.r) := by
  have := h.h 0 (.int .i64 s.h.r) rfl
  simpa using this
set_option maxHeartbeats 8000000 in
theorem hVerify_any (master : List UInt8) (s : SgT) (w : World) (M C : Array Value) (HM : Hid (M = (cellsOf master).toArray)) (HC : Hid (C = (scells s).toArray)) (hm : master.length = 32) (hs : InS s) (hT : TabT w) :
    Calls Tryd.prog 11 #[.agg M, .agg C] w fun e w' => e = .returned (.int .i64 (verE master s)) ∧ Below w.heap.size w w' := by
  have hnot : ∀ (x : Bool) (w : World), (Op.unary .not (.bool x)).run Tryd.prog w = .ok (.bool (!x)) w := fun _ _ => rfl
  have hd := hs.h.d
  have hg := hs.g
  have HSM : Hid ((Tryd.prog.info? 23).map (·.size) = some M.size) := by show _ = _; rw [sizeY, HM.out]; simp [cellsOf_length, hm]
  have HSC : Hid ((Tryd.prog.info? 28).map (·.size) = some C.size) := by show _ = _; rw [sizeS, HC.out]; simp [scells_length s hd hg]
  obtain ⟨b, hb⟩ : ∃ b, b = mayS s := ⟨_, rfl⟩
  have K1 : Hid (∀ W, Calls Tryd.prog 23 #[.agg C] W fun e w' => e = .returned (.bool b) ∧ Below W.heap.size W w') := fun W => by rw [hb]; exact hMay_any s hd W C HC
  obtain ⟨r, Hr⟩ : ∃ r, Hid (r = s.h.r) := ⟨s.h.r, hidk rfl⟩
  obtain ⟨n, Hn⟩ : ∃ n, Hid (n = s.n) := ⟨s.n, hidk rfl⟩
  obtain ⟨HCs, HHC, HSH, H36⟩ := head_row s.h hd
  obtain ⟨D, HD, HSD, H1D, H32D⟩ := dig_row' s.g hg
  obtain ⟨u, HU⟩ : ∃ u, Hid (u = signT s.h) := ⟨_, hidk rfl⟩
  have T1 : Hid (∀ W, Calls Tryd.prog 26 #[.agg HCs] W fun e w' => e = .returned (.string u) ∧ Below W.heap.size W w') := fun W => by rw [HU.out]; exact hText_any s.h hd W HCs HHC
  obtain ⟨k, Hk⟩ : ∃ k, Hid (k = holdE master r n u.data.toList s.g) := ⟨_, hidk rfl⟩
  have Q1 : Hid (∀ W, Below w.heap.size w W → Calls Tryd.prog 31 #[.agg M, .int .i64 r, .int .i64 n, .string u, .agg D] W fun e w' => e = .returned (.int .i64 k) ∧ Below W.heap.size W w') := fun W hbw => by
    rw [Hk.out]
    exact holds_any master r n u s.g W M D HM HD hm hg (by rw [HU.out]; exact signT_size s.h hd) (hT.keep hbw)
  have HV : Hid (verE master s = if b = true then k else 70) := by
    show _ = _
    unfold verE
    rw [hb]
    cases hq : mayS s
    · rfl
    · have ho := mayS_owner s hq
      have hrt := ((mayS_iff s).1 hq).1
      rw [if_pos rfl, if_pos rfl, Hk.out, Hr.out, Hn.out, HU.out, holdE_in _ _ _ _ _ ho, signT_right s.h hrt]
      rfl
  rw [HV.out]
  have HW0 := hidk (came2 w M C 23 28)
  have HS0 := hidk (srow_row hd HC HW0.out.2.2)
  have HDL : Hid (D.toList = cellsOf s.g) := by show _ = _; rw [HD.out]
  have HHL : Hid (HCs.toList = hcells s.h) := by show _ = _; rw [HHC.out]
  clear HC HM hT HD HV Hk HU hb
  cases b
  · go_enter Tryd.func11, Tryd.ntmps11
    go_wp2_with (first
      | (show wpList _ _ _ ({ dst := some 5, op := _, type := _, pos := _, after := _, guard := _ } :: _) _ _; refine wpList_load_row rfl 28 (.tmp 3) rfl (w.heap.size + 1) rfl 28 C (0, 0) _ HW0.out.2.2 Tryd.underlying28 rfl HSC.out ?_; try simp only [Act.put, List.setIfInBounds_toArray, List.set_cons_zero, List.set_cons_succ])
      | fail)
    refine (K1.out _).mono ?_
    rintro e w1 ⟨rfl, hb1⟩
    have HB1 := hidk (HW0.out.1.trans (hb1.mono HW0.out.1.size))
    clear hb1
    go_wp2
    go_ret
    exact ⟨rfl, HB1.out⟩
  · go_enter Tryd.func11, Tryd.ntmps11
    go_wp2_with (first
      | (show wpList _ _ _ ({ dst := some 5, op := _, type := _, pos := _, after := _, guard := _ } :: _) _ _; refine wpList_load_row rfl 28 (.tmp 3) rfl (w.heap.size + 1) rfl 28 C (0, 0) _ HW0.out.2.2 Tryd.underlying28 rfl HSC.out ?_; try simp only [Act.put, List.setIfInBounds_toArray, List.set_cons_zero, List.set_cons_succ])
      | fail)
    refine (K1.out _).mono ?_
    rintro e w1 ⟨rfl, hb1⟩
    have HB1 := hidk (HW0.out.1.trans (hb1.mono HW0.out.1.size))
    have HM1 := hidk ((hb1.block _ (heap_lt HW0.out.2.1)).trans HW0.out.2.1)
    have HS1 := hidk (HS0.out.keep hb1)
    clear hb1 HW0 HS0 K1
    go_wp2
    refine wp_region_held_drew (S := (fun W => W.heap[w.heap.size]? = some (.cells M 23 (0, 0)) ∧ SRow W (w.heap.size + 1) 0 s)) (by kernel_rfl) ⟨HM1.out, HS1.out.keep (Below.refl _ _).drew⟩ (fun hHeld => ?_)
    refine wpAnyH_take (i := 0) (oi := { dst := some 8, op := Op.load 23 (Operand.tmp 2), type := 23, pos := "head.go:88", after := #[], guard := none }) (v := .agg M) rfl (by kernel_rfl) (by kernel_rfl) (by kernel_rfl) (fun _ _ _ h => h) (yieldsIf_row (by rfl) 23 (.tmp 2) rfl w.heap.size rfl 23 M (0, 0) _ (fun _ h => h.1) Tryd.underlying23 rfl HSM.out) hHeld ?_
    try simp only [Act.put, List.setIfInBounds_toArray, List.set_cons_zero, List.set_cons_succ]
    refine wpAnyH_take (i := 1) (oi := { dst := some 9, op := Op.fieldAddr 28 (Operand.tmp 3) 0, type := 0, pos := "head.go:88", after := #[], guard := none }) (v := .pointer (some ⟨w.heap.size + 1, 0, none⟩)) rfl (by kernel_rfl) (by kernel_rfl) (by kernel_rfl) (fun _ _ _ h => h) (Or.inl ⟨by rfl, by intro W hSw; go_simp⟩) hHeld ?_
    try simp only [Act.put, List.setIfInBounds_toArray, List.set_cons_zero, List.set_cons_succ]
    refine wpAnyH_take (i := 2) (oi := { dst := some 10, op := Op.fieldAddr 26 (Operand.tmp 9) 0, type := 0, pos := "head.go:88", after := #[{ on := 1, ground := Ground.data }], guard := none }) (v := .pointer (some ⟨w.heap.size + 1, 0, none⟩)) rfl (by kernel_rfl) (by kernel_rfl) (by kernel_rfl) (fun _ _ _ h => h) (Or.inl ⟨by rfl, by intro W hSw; go_simp⟩) hHeld ?_
    try simp only [Act.put, List.setIfInBounds_toArray, List.set_cons_zero, List.set_cons_succ]
    refine wpAnyH_take (i := 3) (oi := { dst := some 11, op := Op.load 3 (Operand.tmp 10), type := 3, pos := "head.go:88", after := #[{ on := 2, ground := Ground.data }], guard := none }) (v := .int .i64 r) rfl (by kernel_rfl) (by kernel_rfl) (by kernel_rfl) (fun _ _ _ h => h) (Or.inl ⟨by rfl, by intro W hSw; have h1 := srow_r hSw.2; rw [← Hr.out] at h1; go_simp⟩) hHeld ?_
    try simp only [Act.put, List.setIfInBounds_toArray, List.set_cons_zero, List.set_cons_succ]
    refine wpAnyH_take (i := 4) (oi := { dst := some 12, op := Op.fieldAddr 28 (Operand.tmp 3) 1, type := 0, pos := "head.go:88", after := #[], guard := none }) (v := .pointer (some ⟨w.heap.size + 1, 36, none⟩)) rfl (by kernel_rfl) (by kernel_rfl) (by kernel_rfl) (fun _ _ _ h => h) (Or.inl ⟨by rfl, by intro W hSw; go_simp⟩) hHeld ?_
    try simp only [Act.put, List.setIfInBounds_toArray, List.set_cons_zero, List.set_cons_succ]
    refine wpAnyH_take (i := 5) (oi := { dst := some 13, op := Op.load 3 (Operand.tmp 12), type := 3, pos := "head.go:88", after := #[{ on := 4, ground := Ground.data }], guard := none }) (v := .int .i64 n) rfl (by kernel_rfl) (by kernel_rfl) (by kernel_rfl) (fun _ _ _ h => h) (Or.inl ⟨by rfl, by intro W hSw; have h1 := hSw.2.n; rw [← Hn.out, Nat.zero_add] at h1; go_simp⟩) hHeld ?_
    try simp only [Act.put, List.setIfInBounds_toArray, List.set_cons_zero, List.set_cons_succ]
    refine wpAnyH_take (i := 6) (oi := { dst := some 14, op := Op.fieldAddr 28 (Operand.tmp 3) 0, type := 0, pos := "head.go:88", after := #[], guard := none }) (v := .pointer (some ⟨w.heap.size + 1, 0, none⟩)) rfl (by kernel_rfl) (by kernel_rfl) (by kernel_rfl) (fun _ _ _ h => h) (Or.inl ⟨by rfl, by intro W hSw; go_simp⟩) hHeld ?_
    try simp only [Act.put, List.setIfInBounds_toArray, List.set_cons_zero, List.set_cons_succ]
    refine wpAnyH_take (i := 7) (oi := { dst := some 15, op := Op.load 26 (Operand.tmp 14), type := 26, pos := "head.go:88", after := #[{ on := 6, ground := Ground.data }], guard := none }) (v := .agg HCs) rfl (by kernel_rfl) (by kernel_rfl) (by kernel_rfl) (fun _ _ _ h => h) (yieldsIf_mid (by rfl) 26 (.tmp 14) rfl (w.heap.size + 1) 0 rfl HCs _ (fun _ h => by rw [HHL.out]; exact h.2.h) Tryd.underlying26 rfl HSH.out) hHeld ?_
    try simp only [Act.put, List.setIfInBounds_toArray, List.set_cons_zero, List.set_cons_succ]
    refine wpAnyH_take (i := 9) (oi := { dst := some 17, op := Op.fieldAddr 28 (Operand.tmp 3) 2, type := 0, pos := "head.go:88", after := #[], guard := none }) (v := .pointer (some ⟨w.heap.size + 1, 37, none⟩)) rfl (by kernel_rfl) (by kernel_rfl) (by kernel_rfl) (fun _ _ _ h => h) (Or.inl ⟨by rfl, by intro W hSw; go_simp⟩) hHeld ?_
    try simp only [Act.put, List.setIfInBounds_toArray, List.set_cons_zero, List.set_cons_succ]
    refine wpAnyH_take (i := 10) (oi := { dst := some 18, op := Op.load 24 (Operand.tmp 17), type := 24, pos := "head.go:88", after := #[{ on := 9, ground := Ground.data }], guard := none }) (v := .agg D) rfl (by kernel_rfl) (by kernel_rfl) (by kernel_rfl) (fun _ _ _ h => h) (yieldsIf_mid (by rfl) 24 (.tmp 17) rfl (w.heap.size + 1) 37 rfl D _ (fun _ h => by rw [HDL.out]; have := h.2.g; rwa [Nat.zero_add] at this) Tryd.underlying24 rfl HSD.out) hHeld ?_
    try simp only [Act.put, List.setIfInBounds_toArray, List.set_cons_zero, List.set_cons_succ]
    refine wpAnyH_ready (rs := [8]) (by kernel_rfl) (by simp) ?_
    refine (AllReadyH.cons (o := { dst := some 16, op := Op.call { callee := Callee.value (Operand.func 26), args := #[Operand.tmp 15], argTypes := #[26] }, type := 9, pos := "head.go:88", after := #[{ on := 7, ground := Ground.data }], guard := none }) rfl (fun K hK => ?_) AllReadyH.nil)
    go_simp
    refine (T1.out _).mono ?_
    rintro e w8 ⟨rfl, hb8⟩
    have HBc := hidk (HB1.out.drew.trans (hb8.mono HB1.out.size))
    go_wp2_with fail
    refine hK.out _ _ ⟨(hb8.block _ (heap_lt hHeld.1)).trans hHeld.1, hHeld.2.keep hb8⟩ (fun hHeld => ?_)
    clear hK K
    try simp only [Act.put, List.setIfInBounds_toArray, List.set_cons_zero, List.set_cons_succ]
    refine wpAnyH_ready (rs := [11]) (by kernel_rfl) (by simp) ?_
    refine (AllReadyH.cons (o := { dst := some 19, op := Op.call { callee := Callee.value (Operand.func 31), args := #[Operand.tmp 8, Operand.tmp 11, Operand.tmp 13, Operand.tmp 16, Operand.tmp 18], argTypes := #[23, 3, 3, 9, 24] }, type := 29, pos := "head.go:88", after := #[{ on := 0, ground := Ground.data }, { on := 3, ground := Ground.data }, { on := 5, ground := Ground.data }, { on := 8, ground := Ground.data }, { on := 10, ground := Ground.data }, { on := 8, ground := Ground.chain }], guard := none }) rfl (fun K hK => ?_) AllReadyH.nil)
    go_simp
    refine (Q1.out _ HBc.out).mono ?_
    rintro e w11 ⟨rfl, hb9⟩
    have HBF := hidk (HBc.out.trans (hb9.mono HBc.out.size))
    go_wp2_with fail
    refine hK.out _ _ ⟨(hb9.block _ (heap_lt hHeld.1)).trans hHeld.1, hHeld.2.keep hb9⟩ (fun hHeld => ?_)
    clear hK K
    try simp only [Act.put, List.setIfInBounds_toArray, List.set_cons_zero, List.set_cons_succ]
    refine wpAnyH_take (i := 12) (oi := { dst := some 4, op := Op.assign (Operand.tmp 19), type := 29, pos := "head.go:88", after := #[{ on := 11, ground := Ground.data }, { on := 11, ground := Ground.chain }, { on := 0, ground := Ground.phase }, { on := 1, ground := Ground.phase }, { on := 2, ground := Ground.phase }, { on := 3, ground := Ground.phase }, { on := 4, ground := Ground.phase }, { on := 5, ground := Ground.phase }, { on := 6, ground := Ground.phase }, { on := 7, ground := Ground.phase }, { on := 8, ground := Ground.phase }, { on := 9, ground := Ground.phase }, { on := 10, ground := Ground.phase }, { on := 11, ground := Ground.phase }], guard := none }) (v := .int .i64 k) rfl (by kernel_rfl) (by kernel_rfl) (by kernel_rfl) (fun _ _ _ h => h) (Or.inl ⟨by rfl, by intro W hSw; go_simp⟩) hHeld ?_
    try simp only [Act.put, List.setIfInBounds_toArray, List.set_cons_zero, List.set_cons_succ]
    refine wpAnyH_done (by kernel_rfl) ?_ _
    go_wp2
    go_ret
    exact ⟨rfl, HBF.out⟩
end Go.Proofs.YtdnhnjimhbbabaaDoor

/- What head.Sign answers. -/
namespace Go.Proofs.YtdnhnjimhbbabaaDoor
open Go.RowKit Sums Nums
set_option linter.unusedVariables false
set_option linter.unusedSimpArgs false
set_option maxRecDepth 100000
theorem builtS2 (h : HdT) (n : Int) (hd : h.d.length = 32) (C R : Array Value) (HC : Hid (C = (hcells h).toArray)) (HR : Hid (R = (scells ⟨h, n, List.replicate 32 0⟩).toArray)) : Tryd.prog.built 28 [(0, .agg C), (1, .int .i64 n)] = some R := by
  have hi := infoS
  have hzl := hcells_length zeroH rfl
  cases hq : Tryd.prog.info? 28 with
  | none => rw [hq] at hi; cases hi
  | some i =>
    rw [hq] at hi
    simp only [Option.map_some, Option.some.injEq, Prod.mk.injEq] at hi
    have hH := sizeH
    have hD := size23
    have h3 : (Tryd.prog.info? 3).map (·.size) = some 1 := by kernel_rfl
    cases hqH : Tryd.prog.info? 26 with
    | none => rw [hqH] at hH; cases hH
    | some iH =>
      cases hqD : Tryd.prog.info? 24 with
      | none => rw [hqD] at hD; cases hD
      | some iD =>
        cases hq3 : Tryd.prog.info? 3 with
        | none => rw [hq3] at h3; cases h3
        | some i3 =>
          rw [hqH] at hH
          rw [hqD] at hD
          rw [hq3] at h3
          simp only [Option.map_some, Option.some.injEq] at hH hD h3
          unfold Program.built
          simp only [hq, Tryd.underlying28, hi.1, List.mapM_cons, List.mapM_nil, hqH, hqD, hq3, hH, hD, h3, Option.map_some, Option.bind_eq_bind, Option.bind_some, Option.pure_def]
          show Instr.fill _ (scells zeroS).toArray _ = some R
          have hc36 : C.size = 36 := by rw [HC.out]; simp [hcells_length h hd]
          refine (fill_val _ 0 0 36 (.agg C) C _ [] (hcells zeroH) ([.int .i64 0] ++ cellsOf (List.replicate 32 0)) _ rfl rfl hc36 (by simp [scells, zeroS]) rfl hzl).trans ?_
          refine (fill_val _ 1 36 1 (.int .i64 n) #[.int .i64 n] _ C.toList [.int .i64 0] (cellsOf (List.replicate 32 0)) _ rfl rfl rfl (by simp) (by simpa using hc36) rfl).trans ?_
          simp only [Instr.fill, List.append_nil, Option.some.injEq]
          rw [HR.out, HC.out]
          rfl
/-- A row stored in the midst of a variable, as one step of a region that draws its order. -/
theorem step_set_mid {P : Program} {ops : Array Oper} {o : Oper} {a : Act} {w : World} {K : Act → World → Prop} {Q : Exit → Act → World → Prop} {E : Prop} (hw : Region.wanted o (yielded ops a.tmps) = true) (ty : TypeId) (x y : Operand) (ho : o.op = .store ty x y)
    (g k : Nat) (D : Array Value) (hx : a.eval x = .pointer (some ⟨g, k, none⟩)) (hy : a.eval y = .agg D) (t' : TypeId) (Z : Array Value) (hg : w.heap[g]? = some (.cells Z t' (0, 0))) (hk : k + D.size ≤ Z.size) (hi : (P.info? ty).map (·.size) = some D.size) (h1 : D.all (·.oneCell') = true)
    (h : ∀ w', Hid (Wrote g (Z.toList.take k ++ D.toList ++ Z.toList.drop (k + D.size)).toArray t' w w') → K (a.put o.dst undef) w') : if Region.wanted o (yielded ops a.tmps) = true then Oper.wp P o a w K Q else E := by
  rw [if_pos hw]
  have hkk := h _ (wrote_row hg)
  have h1' : ∀ v ∈ D.toList, v.oneCell' = true := by
    intro v hv
    rw [Array.all_eq_true'] at h1
    exact h1 v (by simpa using hv)
  have hst := run_storeCells_at P g k t' D.toList 0 Z w hg (by simpa using hk) h1'
  cases hq : P.info? ty with
  | none => simp [hq] at hi
  | some i =>
    have hs : i.size = D.size := by simpa [hq] using hi
    unfold Oper.wp execOp
    simp only [ho, hx, hy, Instr.storeAt, Instr.sureAddr, Sem.run_bind, Sem.run_pure, Result.andThen_ok]
    simp only [Nat.add_zero, Nat.zero_add] at hst
    simp [storeVar, sizeOf, typeInfo, hq, Value.cells, hs, hst]
    simp only [List.append_assoc] at hkk ⊢
    exact hkk
theorem scells_sign (h : HdT) (n : Int) (t d : List UInt8) (hd : h.d.length = 32) (ht : t.length = 32) : ((scells ⟨h, n, t⟩).toArray.toList.take 37 ++ cellsOf d ++ (scells ⟨h, n, t⟩).toArray.toList.drop (37 + 32)).toArray = (scells ⟨h, n, d⟩).toArray := by
  unfold scells
  congr 1
  have e : ∀ l : List Value, l.toArray.toList = l := fun _ => rfl
  simp only [e, List.drop_append, List.take_append, List.length_append, hcells_length h hd, cellsOf_length, ht, List.length_singleton]
  rw [List.take_of_length_le (l := hcells h) (by rw [hcells_length h hd]; omega), List.drop_of_length_le (l := hcells h) (by rw [hcells_length h hd]; omega), List.drop_of_length_le (l := cellsOf t) (by rw [cellsOf_length, ht]; omega)]
  simp
theorem signsO_may (h : HdT) (n : Int) (g : List UInt8) : mayS ⟨h, n, g⟩ = signsO h n := by
  unfold mayS signsO
  rw [Bool.and_assoc]
set_option maxHeartbeats 8000000 in
theorem hSign_any (master : List UInt8) (h : HdT) (n : Int) (w : World) (M C R : Array Value) (HM : Hid (M = (cellsOf master).toArray)) (HC : Hid (C = (hcells h).toArray)) (hm : master.length = 32) (hd : h.d.length = 32) (hT : TabT w) (HR : Hid (R = (scells (signO master h n)).toArray)) :
    Calls Tryd.prog 8 #[.agg M, .agg C, .int .i64 n] w fun e w' => e = .returned (.tuple #[.agg R, .int .i64 (signE h n)]) ∧ Below w.heap.size w w' := by
  have hnot : ∀ (x : Bool) (w : World), (Op.unary .not (.bool x)).run Tryd.prog w = .ok (.bool (!x)) w := fun _ _ => rfl
  obtain ⟨Z, HZ, HA, HBZ, H69⟩ := noughtsS
  obtain ⟨ZY, HZY, HAY, HY32⟩ := noughtsY
  have HSZ : Hid ((Tryd.prog.info? 28).map (·.size) = some Z.size) := by show _ = _; rw [sizeS, H69.out]
  have H1Z : Hid (Z.all (·.oneCell') = true) := by show _ = _; rw [HZ.out]; exact one_cellsS _
  have HSM : Hid ((Tryd.prog.info? 23).map (·.size) = some M.size) := by show _ = _; rw [sizeY, HM.out]; simp [cellsOf_length, hm]
  have HSC : Hid ((Tryd.prog.info? 26).map (·.size) = some C.size) := by show _ = _; rw [sizeH, HC.out]; simp [hcells_length h hd]
  obtain ⟨S0, HS0, HSS, H1S, HS69⟩ := sign_row ⟨h, n, List.replicate 32 0⟩ hd rfl
  have HZS : Hid (Z.size = S0.size) := by show _ = _; rw [H69.out, HS69.out]
  have HBS : Hid (Tryd.prog.built 28 [(0, .agg C), (1, .int .i64 n)] = some S0) := builtS2 h n hd C S0 HC HS0
  obtain ⟨b, hb⟩ : ∃ b, b = signsO h n := ⟨_, rfl⟩
  have K1 : Hid (∀ W, Calls Tryd.prog 23 #[.agg S0] W fun e w' => e = .returned (.bool b) ∧ Below W.heap.size W w') := fun W => by rw [hb, ← signsO_may h n (List.replicate 32 0)]; exact hMay_any ⟨h, n, List.replicate 32 0⟩ hd W S0 HS0
  have HW0 := hidk (came2 w M C 23 26)
  cases b
  · have HRZ : Hid (R = Z) := by
      show _ = _
      rw [HR.out, HZ.out]; unfold signO; rw [← hb]; rfl
    rw [show signE h n = 70 by unfold signE; rw [← hb]; rfl, HRZ.out]
    clear HM HC hm hT HR HS0 hb HRZ HZ H69 HZY HAY HY32
    go_enter Tryd.func8, Tryd.ntmps8
    go_wp2_with (first
      | (show wpList _ _ _ ({ dst := some 6, op := _, type := _, pos := _, after := _, guard := _ } :: _) _ _; refine wpList_new_var rfl 28 rfl Z HA.out ?_; intro g6 w1 HM6; try simp only [Act.put, List.setIfInBounds_toArray, List.set_cons_zero, List.set_cons_succ])
      | (show wpList _ _ _ ({ dst := some 11, op := _, type := _, pos := _, after := _, guard := _ } :: _) _ _; refine wpList_load_row rfl 26 (.tmp 4) rfl (w.heap.size + 1) rfl 26 C (0, 0) _ ((HM6.out.below.block _ (heap_lt HW0.out.2.2)).trans HW0.out.2.2) Tryd.underlying26 rfl HSC.out ?_; try simp only [Act.put, List.setIfInBounds_toArray, List.set_cons_zero, List.set_cons_succ])
      | (show wpList _ _ _ ({ dst := some 13, op := _, type := _, pos := _, after := _, guard := _ } :: _) _ _; refine wpList_build_two rfl 28 0 1 (.tmp 11) (.tmp 12) rfl S0 (.agg C) (.int .i64 n) rfl rfl HBS.out ?_; try simp only [Act.put, List.setIfInBounds_toArray, List.set_cons_zero, List.set_cons_succ])
      | (show wpList _ _ _ ({ dst := some 8, op := _, type := _, pos := _, after := _, guard := _ } :: _) _ _; refine wpList_new_var rfl 28 rfl Z HA.out ?_; intro g8 w2 HM8; try simp only [Act.put, List.setIfInBounds_toArray, List.set_cons_zero, List.set_cons_succ])
      | (refine wpList_set_var rfl 28 (.tmp 8) (.tmp 13) rfl g8 S0 rfl rfl 28 Z HM8.out.row HSS.out HZS.out H1S.out ?_; intro w3 HW8; try simp only [Act.put, List.setIfInBounds_toArray, List.set_cons_zero, List.set_cons_succ])
      | (show wpList _ _ _ ({ dst := some 14, op := _, type := _, pos := _, after := _, guard := _ } :: _) _ _; refine wpList_load_row rfl 28 (.tmp 8) rfl g8 rfl 28 S0 (0, 0) _ HW8.out.row Tryd.underlying28 rfl HSS.out ?_; try simp only [Act.put, List.setIfInBounds_toArray, List.set_cons_zero, List.set_cons_succ])
      | fail)
    have HB1 := hidk (HW0.out.1.trans (HM6.out.below.mono HW0.out.1.size))
    have h6 : w.heap.size ≤ g6 := by rw [HM6.out.new]; exact HW0.out.1.size
    have h8 : g6 < g8 := by rw [HM8.out.new]; exact heap_lt HM6.out.row
    have HB3 := hidk (HW8.out.below _ _ (HB1.out.trans (HM8.out.below.mono HB1.out.size)) (by omega))
    have HR6 := hidk ((HW8.out.other g6 (by omega)).trans ((HM8.out.below.block _ (heap_lt HM6.out.row)).trans HM6.out.row))
    clear HM6 HM8 HW8 HB1 HW0
    refine (K1.out _).mono ?_
    rintro e w4 ⟨rfl, hb4⟩
    have HB4 := hidk (HB3.out.trans (hb4.mono HB3.out.size))
    have HR64 := hidk ((hb4.block _ (heap_lt HR6.out)).trans HR6.out)
    clear hb4 HB3 HR6 K1
    go_wp2_with (first
      | (show wpList _ _ _ ({ dst := some 17, op := _, type := _, pos := _, after := _, guard := _ } :: _) _ _; refine wpList_build_none rfl 28 rfl Z HBZ.out ?_; try simp only [Act.put, List.setIfInBounds_toArray, List.set_cons_zero, List.set_cons_succ])
      | (refine wpList_set_var rfl 28 (.tmp 6) (.tmp 17) rfl g6 Z rfl rfl 28 Z HR64.out HSZ.out rfl H1Z.out ?_; intro w5 HW6; try simp only [Act.put, List.setIfInBounds_toArray, List.set_cons_zero, List.set_cons_succ])
      | fail)
    refine bodyPost_ret (v := .tuple #[.agg Z, .int .i64 70]) ?_ rfl ⟨rfl, HW6.out.below w.heap.size w HB4.out h6⟩
    exact results_row_tmp (p := 6) (q := 7) (ty := 28) rfl _ _ g6 28 Z (0, 0) _ rfl HW6.out.row Tryd.underlying28 rfl HSZ.out
  · have ho := signsO_owner h n hb.symm
    have hrt : rightH h = true := by
      have := hb.symm
      unfold signsO at this
      simp only [Bool.and_eq_true] at this
      exact this.1
    have hR2 : R = (scells ⟨h, n, tagD master h n⟩).toArray := by rw [HR.out]; unfold signO; rw [← hb]; rfl
    rw [show signE h n = 0 by unfold signE; rw [← hb]; rfl]
    obtain ⟨r, Hr⟩ : ∃ r, Hid (r = h.r) := ⟨h.r, hidk rfl⟩
    obtain ⟨Ky, HK, HSK, H1K, H32K⟩ := key_row (keyD master r n) (keyD_length sumD_length _ _ _)
    obtain ⟨u, HU⟩ : ∃ u, Hid (u = signT h) := ⟨_, hidk rfl⟩
    obtain ⟨D, HD, HSD, H1D, H32D⟩ := dig_row' (tagD master h n) (tagD_length sumD_length _ _ _)
    have HZK : Hid (ZY.size = Ky.size) := by show _ = _; rw [HY32.out, H32K.out]
    have C1 : Hid (∀ W, Below w.heap.size w W → Calls Tryd.prog 24 #[.agg M, .int .i64 r, .int .i64 n] W fun e w' => e = .returned (.tuple #[.agg Ky, .int .i64 0]) ∧ Below W.heap.size W w') := fun W hbw => by
      have := key_any master r n W M Ky HM hm (hT.keep hbw) (by show _ = _; rw [HK.out, keyO_in _ _ _ (by rw [Hr.out]; exact ho)])
      rwa [show keyE r n = 0 by unfold keyE; rw [if_pos (by rw [Hr.out]; exact ho)]] at this
    have T1 : Hid (∀ W, Calls Tryd.prog 26 #[.agg C] W fun e w' => e = .returned (.string u) ∧ Below W.heap.size W w') := fun W => by rw [HU.out]; exact hText_any h hd W C HC
    have C2 : Hid (∀ W, Below w.heap.size w W → Calls Tryd.prog 25 #[.agg Ky, .string u] W fun e w' => e = .returned (.agg D) ∧ Below W.heap.size W w') := fun W hbw =>
      mac_any (keyD master r n) u W Ky D HK (keyD_length sumD_length _ _ _) (by rw [HU.out]; exact signT_size h hd) (hT.keep hbw) (by show _ = _; rw [HD.out, HU.out, signT_right h hrt, Hr.out]; rfl)
    have HSR : Hid ((Tryd.prog.info? 28).map (·.size) = some R.size) := by show _ = _; rw [sizeS, hR2, List.size_toArray]; exact congrArg some (scells_length _ hd (tagD_length sumD_length _ _ _)).symm
    have H1R : Hid (R.all (·.oneCell') = true) := by show _ = _; rw [hR2]; exact one_cellsS _
    have HZR : Hid (Z.size = R.size) := by show _ = _; rw [H69.out, hR2, List.size_toArray]; exact (scells_length _ hd (tagD_length sumD_length _ _ _)).symm
    have HRR : Hid ((S0.toList.take 37 ++ D.toList ++ S0.toList.drop (37 + D.size)).toArray = R) := by
      show _ = _
      rw [H32D.out, HS0.out, HD.out, hR2]
      exact scells_sign h n (List.replicate 32 0) (tagD master h n) hd rfl
    have HOO : Hid (37 + D.size ≤ S0.size) := by show _ ≤ _; rw [H32D.out, HS69.out]; omega
    have HCr : Hid (∀ (W : World) (g : Nat), W.heap[g]? = some (.cells C 26 (0, 0)) → W.cell? ⟨g, 0, none⟩ = some (.int .i64 r)) := fun W g hh => by
      rw [cell_of_row W g 0 _ _ (0, 0) hh, HC.out, Hr.out]; rfl
    clear HM HC hm hT HR HS0 hb HZ H69 HZY HY32 HK HU HD hR2 ho hrt H32D HS69 H32K Hr
    go_enter Tryd.func8, Tryd.ntmps8
    go_wp2_with (first
      | (show wpList _ _ _ ({ dst := some 6, op := _, type := _, pos := _, after := _, guard := _ } :: _) _ _; refine wpList_new_var rfl 28 rfl Z HA.out ?_; intro g6 w1 HM6; try simp only [Act.put, List.setIfInBounds_toArray, List.set_cons_zero, List.set_cons_succ])
      | (show wpList _ _ _ ({ dst := some 11, op := _, type := _, pos := _, after := _, guard := _ } :: _) _ _; refine wpList_load_row rfl 26 (.tmp 4) rfl (w.heap.size + 1) rfl 26 C (0, 0) _ ((HM6.out.below.block _ (heap_lt HW0.out.2.2)).trans HW0.out.2.2) Tryd.underlying26 rfl HSC.out ?_; try simp only [Act.put, List.setIfInBounds_toArray, List.set_cons_zero, List.set_cons_succ])
      | (show wpList _ _ _ ({ dst := some 13, op := _, type := _, pos := _, after := _, guard := _ } :: _) _ _; refine wpList_build_two rfl 28 0 1 (.tmp 11) (.tmp 12) rfl S0 (.agg C) (.int .i64 n) rfl rfl HBS.out ?_; try simp only [Act.put, List.setIfInBounds_toArray, List.set_cons_zero, List.set_cons_succ])
      | (show wpList _ _ _ ({ dst := some 8, op := _, type := _, pos := _, after := _, guard := _ } :: _) _ _; refine wpList_new_var rfl 28 rfl Z HA.out ?_; intro g8 w2 HM8; try simp only [Act.put, List.setIfInBounds_toArray, List.set_cons_zero, List.set_cons_succ])
      | (refine wpList_set_var rfl 28 (.tmp 8) (.tmp 13) rfl g8 S0 rfl rfl 28 Z HM8.out.row HSS.out HZS.out H1S.out ?_; intro w3 HW8; try simp only [Act.put, List.setIfInBounds_toArray, List.set_cons_zero, List.set_cons_succ])
      | (show wpList _ _ _ ({ dst := some 14, op := _, type := _, pos := _, after := _, guard := _ } :: _) _ _; refine wpList_load_row rfl 28 (.tmp 8) rfl g8 rfl 28 S0 (0, 0) _ HW8.out.row Tryd.underlying28 rfl HSS.out ?_; try simp only [Act.put, List.setIfInBounds_toArray, List.set_cons_zero, List.set_cons_succ])
      | fail)
    have HB1 := hidk (HW0.out.1.trans (HM6.out.below.mono HW0.out.1.size))
    have h6 : w.heap.size + 1 < g6 := by rw [HM6.out.new]; exact heap_lt HW0.out.2.2
    have h8 : g6 < g8 := by rw [HM8.out.new]; exact heap_lt HM6.out.row
    have HBa := hidk (HM6.out.below.trans (HM8.out.below.mono HM6.out.below.size))
    have HB3 := hidk (HW8.out.below _ _ (HB1.out.trans (HM8.out.below.mono HB1.out.size)) (by omega))
    have HR6 := hidk ((HW8.out.other g6 (by omega)).trans ((HM8.out.below.block _ (heap_lt HM6.out.row)).trans HM6.out.row))
    have HR8 := hidk HW8.out.row
    have HRM := hidk ((HW8.out.other w.heap.size (by omega)).trans ((HBa.out.block _ (heap_lt HW0.out.2.1)).trans HW0.out.2.1))
    have HRC := hidk ((HW8.out.other (w.heap.size + 1) (by omega)).trans ((HBa.out.block _ (heap_lt HW0.out.2.2)).trans HW0.out.2.2))
    clear HM6 HM8 HW8 HB1 HW0 HBa
    refine (K1.out _).mono ?_
    rintro e w4 ⟨rfl, hb4⟩
    replace HB3 := hidk (HB3.out.trans (hb4.mono HB3.out.size))
    replace HR6 := hidk ((hb4.block _ (heap_lt HR6.out)).trans HR6.out)
    replace HR8 := hidk ((hb4.block _ (heap_lt HR8.out)).trans HR8.out)
    replace HRM := hidk ((hb4.block _ (heap_lt HRM.out)).trans HRM.out)
    replace HRC := hidk ((hb4.block _ (heap_lt HRC.out)).trans HRC.out)
    have hcr := HCr.out w4 _ HRC.out
    clear hb4 K1
    go_wp2_with (first
      | (show wpList _ _ _ ({ dst := some 19, op := _, type := _, pos := _, after := _, guard := _ } :: _) _ _; refine wpList_load_row rfl 23 (.tmp 3) rfl w.heap.size rfl 23 M (0, 0) _ HRM.out Tryd.underlying23 rfl HSM.out ?_; try simp only [Act.put, List.setIfInBounds_toArray, List.set_cons_zero, List.set_cons_succ])
      | fail)
    refine (C1.out _ HB3.out).mono ?_
    rintro e w5 ⟨rfl, hb5⟩
    replace HB3 := hidk (HB3.out.trans (hb5.mono HB3.out.size))
    replace HR6 := hidk ((hb5.block _ (heap_lt HR6.out)).trans HR6.out)
    replace HR8 := hidk ((hb5.block _ (heap_lt HR8.out)).trans HR8.out)
    replace HRC := hidk ((hb5.block _ (heap_lt HRC.out)).trans HRC.out)
    clear hb5 C1 hcr HRM HCr
    go_wp2_with (first
      | (show wpList _ _ _ ({ dst := some 9, op := _, type := _, pos := _, after := _, guard := _ } :: _) _ _; refine wpList_new_var rfl 23 rfl ZY HAY.out ?_; intro g9 w6 HM9; try simp only [Act.put, List.setIfInBounds_toArray, List.set_cons_zero, List.set_cons_succ])
      | (refine wpList_set_var rfl 23 (.tmp 9) (.tmp 24) rfl g9 Ky rfl rfl 23 ZY HM9.out.row HSK.out HZK.out H1K.out ?_; intro w7 HW9; try simp only [Act.put, List.setIfInBounds_toArray, List.set_cons_zero, List.set_cons_succ])
      | fail)
    have h9 : g8 < g9 := by rw [HM9.out.new]; exact heap_lt HR8.out
    have HBc : Hid (Below w.heap.size w w7.drew) := (HW9.out.below _ _ (HB3.out.trans (HM9.out.below.mono HB3.out.size)) (by omega)).drew
    replace HR6 := hidk ((HW9.out.other g6 (by omega)).trans ((HM9.out.below.block _ (heap_lt HR6.out)).trans HR6.out))
    replace HR8 := hidk ((HW9.out.other g8 (by omega)).trans ((HM9.out.below.block _ (heap_lt HR8.out)).trans HR8.out))
    replace HRC := hidk ((HW9.out.other (w.heap.size + 1) (by omega)).trans ((HM9.out.below.block _ (heap_lt HRC.out)).trans HRC.out))
    have HR9 := hidk HW9.out.row
    clear HM9 HW9 HB3
    refine wp_region_held_drew (S := (fun W => W.heap[g9]? = some (.cells Ky 23 (0, 0)) ∧ W.heap[w.heap.size + 1]? = some (.cells C 26 (0, 0)))) (by kernel_rfl) ⟨HR9.out, HRC.out⟩ (fun hHeld => ?_)
    refine wpAnyH_take (i := 0) (oi := { dst := some 26, op := Op.load 23 (Operand.tmp 9), type := 23, pos := "head.go:79", after := #[], guard := none }) (v := .agg Ky) rfl (by kernel_rfl) (by kernel_rfl) (by kernel_rfl) (fun _ _ _ h => h) (yieldsIf_row (by rfl) 23 (.tmp 9) rfl g9 rfl 23 Ky (0, 0) _ (fun _ h => h.1) Tryd.underlying23 rfl HSK.out) hHeld ?_
    try simp only [Act.put, List.setIfInBounds_toArray, List.set_cons_zero, List.set_cons_succ]
    refine wpAnyH_take (i := 1) (oi := { dst := some 27, op := Op.load 26 (Operand.tmp 4), type := 26, pos := "head.go:79", after := #[], guard := none }) (v := .agg C) rfl (by kernel_rfl) (by kernel_rfl) (by kernel_rfl) (fun _ _ _ h => h) (yieldsIf_row (by rfl) 26 (.tmp 4) rfl (w.heap.size + 1) rfl 26 C (0, 0) _ (fun _ h => h.2) Tryd.underlying26 rfl HSC.out) hHeld ?_
    try simp only [Act.put, List.setIfInBounds_toArray, List.set_cons_zero, List.set_cons_succ]
    refine wpAnyH_ready (rs := [2]) (by kernel_rfl) (by simp) ?_
    refine (AllReadyH.cons (o := { dst := some 28, op := Op.call { callee := Callee.value (Operand.func 26), args := #[Operand.tmp 27], argTypes := #[26] }, type := 9, pos := "head.go:79", after := #[{ on := 1, ground := Ground.data }], guard := none }) rfl (fun K hK => ?_) AllReadyH.nil)
    go_simp
    refine (T1.out _).mono ?_
    rintro e v2 ⟨rfl, hb2⟩
    replace HBc := hidk (HBc.out.trans (hb2.mono HBc.out.size))
    replace HR6 := hidk ((hb2.block _ (heap_lt HR6.out)).trans HR6.out)
    replace HR8 := hidk ((hb2.block _ (heap_lt HR8.out)).trans HR8.out)
    go_wp2_with fail
    refine hK.out _ _ ⟨(hb2.block _ (heap_lt hHeld.1)).trans hHeld.1, (hb2.block _ (heap_lt hHeld.2)).trans hHeld.2⟩ (fun hHeld => ?_)
    clear hK K
    try simp only [Act.put, List.setIfInBounds_toArray, List.set_cons_zero, List.set_cons_succ]
    refine wpAnyH_ready (rs := [3]) (by kernel_rfl) (by simp) ?_
    refine (AllReadyH.cons (o := { dst := some 29, op := Op.call { callee := Callee.value (Operand.func 25), args := #[Operand.tmp 26, Operand.tmp 28], argTypes := #[23, 9] }, type := 24, pos := "head.go:79", after := #[{ on := 0, ground := Ground.data }, { on := 2, ground := Ground.data }, { on := 2, ground := Ground.chain }], guard := none }) rfl (fun K hK => ?_) AllReadyH.nil)
    go_simp
    refine (C2.out _ HBc.out).mono ?_
    rintro e v3 ⟨rfl, hb3⟩
    replace HBc := hidk (HBc.out.trans (hb3.mono HBc.out.size))
    replace HR6 := hidk ((hb3.block _ (heap_lt HR6.out)).trans HR6.out)
    replace HR8 := hidk ((hb3.block _ (heap_lt HR8.out)).trans HR8.out)
    go_wp2_with fail
    refine hK.out _ _ ⟨(hb3.block _ (heap_lt hHeld.1)).trans hHeld.1, (hb3.block _ (heap_lt hHeld.2)).trans hHeld.2⟩ (fun hHeld => ?_)
    clear hK K
    try simp only [Act.put, List.setIfInBounds_toArray, List.set_cons_zero, List.set_cons_succ]
    refine wpAnyH_take (i := 4) (oi := { dst := some 30, op := Op.fieldAddr 28 (Operand.tmp 8) 2, type := 0, pos := "head.go:79", after := #[{ on := 0, ground := Ground.phase }, { on := 1, ground := Ground.phase }, { on := 2, ground := Ground.phase }, { on := 3, ground := Ground.phase }], guard := none }) (v := .pointer (some ⟨g8, 37, none⟩)) rfl (by kernel_rfl) (by kernel_rfl) (by kernel_rfl) (fun _ _ _ h => h) (Or.inl ⟨by rfl, by intro W hSw; go_simp⟩) hHeld ?_
    try simp only [Act.put, List.setIfInBounds_toArray, List.set_cons_zero, List.set_cons_succ]
    refine wpAnyH_ready (rs := [5]) (by kernel_rfl) (by simp) ?_
    refine (AllReadyH.cons (o := { dst := none, op := Op.store 24 (Operand.tmp 30) (Operand.tmp 29), type := 0, pos := "head.go:79", after := #[{ on := 4, ground := Ground.data }, { on := 3, ground := Ground.data }, { on := 3, ground := Ground.chain }, { on := 0, ground := Ground.phase }, { on := 1, ground := Ground.phase }, { on := 2, ground := Ground.phase }, { on := 3, ground := Ground.phase }], guard := none }) rfl (fun K hK => ?_) AllReadyH.nil)
    refine step_set_mid (by rfl) 24 (.tmp 30) (.tmp 29) rfl g8 37 D rfl rfl 28 S0 HR8.out HOO.out HSD.out H1D.out ?_
    intro v5 HW8
    refine hK.out _ _ ⟨(HW8.out.other g9 (by omega)).trans hHeld.1, (HW8.out.other (w.heap.size + 1) (by omega)).trans hHeld.2⟩ (fun hHeld => ?_)
    clear hK K
    try simp only [Act.put, List.setIfInBounds_toArray, List.set_cons_zero, List.set_cons_succ]
    refine wpAnyH_done (by kernel_rfl) ?_ _
    have HB8 := hidk (HW8.out.below w.heap.size w HBc.out (by omega))
    have HR68 := hidk ((HW8.out.other g6 (by omega)).trans HR6.out)
    have HR88 := hidk HW8.out.row
    rw [HRR.out] at HR88
    clear HW8 HBc HR6 HR8
    go_wp2_with (first
      | (show wpList _ _ _ ({ dst := some 31, op := _, type := _, pos := _, after := _, guard := _ } :: _) _ _; refine wpList_load_row rfl 28 (.tmp 8) rfl g8 rfl 28 R (0, 0) _ HR88.out Tryd.underlying28 rfl HSR.out ?_; try simp only [Act.put, List.setIfInBounds_toArray, List.set_cons_zero, List.set_cons_succ])
      | (refine wpList_set_var rfl 28 (.tmp 6) (.tmp 31) rfl g6 R rfl rfl 28 Z HR68.out HSR.out HZR.out H1R.out ?_; intro w9 HW6; try simp only [Act.put, List.setIfInBounds_toArray, List.set_cons_zero, List.set_cons_succ])
      | fail)
    refine bodyPost_ret (v := .tuple #[.agg R, .int .i64 0]) ?_ rfl ⟨rfl, HW6.out.below w.heap.size w HB8.out (by omega)⟩
    exact results_row_tmp (p := 6) (q := 7) (ty := 28) rfl _ _ g6 28 R (0, 0) _ rfl HW6.out.row Tryd.underlying28 rfl HSR.out
end Go.Proofs.YtdnhnjimhbbabaaDoor

/- What head.GetSigned answers. -/
namespace Go.Proofs.YtdnhnjimhbbabaaDoor
open Go.RowKit Sums Nums
set_option linter.unusedVariables false
set_option linter.unusedSimpArgs false
set_option maxRecDepth 100000
def hV (tag : Int) (fs : List (Int × ByteArray)) : HdT := getHO (tkD tag fs).data.toList
def hB (tag : Int) (fs : List (Int × ByteArray)) : Bool := tkB tag fs && (getO (tkD tag fs).data.toList).isSome
theorem hV_digs (tag : Int) (fs : List (Int × ByteArray)) : (hV tag fs).d.length = 32 := getHO_digs _
set_option maxHeartbeats 4000000 in
theorem rhead_any (W : World) (lo g : Nat) (fs : List (Int × ByteArray)) (tag : Int) (h : Rd W lo g fs) (hsz : (tkD tag fs).size ≤ 1000000) (D : Array Value) (HD : Hid (D = (hcells (hV tag fs)).toArray)) :
    Calls Tryd.prog 41 #[.pointer (some ⟨g, 0, none⟩), .int .i64 tag] W fun e w' => e = .returned (.tuple #[.agg D, .bool (hB tag fs)]) ∧ W.grownBy w' (some g) ∧ Rd w' lo g (tkR tag fs) := by
  obtain ⟨Z, HZ, HA, HBZ, H36⟩ := noughtsH
  have HH := hidk h
  have D1 : Hid (∀ V, Rd V lo g fs → Calls Tryd.prog 64 #[.pointer (some ⟨g, 0, none⟩), .int .i64 tag] V fun e w' => e = .returned (.tuple #[.string (tkD tag fs), .bool (tkB tag fs)]) ∧ V.grownBy w' (some g) ∧ Rd w' lo g (tkR tag fs)) := fun V hV => data_any V lo g fs tag hV
  have hlt := h.lt
  have hD36 : D.size = 36 := by rw [HD.out, List.size_toArray]; exact hcells_length _ (hV_digs tag fs)
  have HSD : Hid ((Tryd.prog.info? 26).map (·.size) = some D.size) := by show _ = _; rw [sizeH, hD36]
  have H1D : Hid (D.all (·.oneCell') = true) := by show _ = _; rw [HD.out]; exact one_cells _
  have HZD : Hid (Z.size = D.size) := by show _ = _; rw [H36.out, hD36]
  obtain ⟨E, hE⟩ : ∃ E, E = getHE (tkD tag fs).data.toList := ⟨_, rfl⟩
  have G1 : Hid (∀ V a c, Reads V a (tkD tag fs).size c (tkD tag fs).data.toList → Calls Tryd.prog 18 #[.slice a (tkD tag fs).size c] V fun e w' => e = .returned (.tuple #[.agg D, .int .i64 E]) ∧ Below V.heap.size V w') := fun V a c hr => by rw [hE]; exact hGet_any a _ c _ V hr hsz D HD
  have hE2 : (E = 0 ∧ (getO (tkD tag fs).data.toList).isSome = true) ∨ (E = 70 ∧ (getO (tkD tag fs).data.toList).isSome = false) := by
    rw [hE]; unfold getHE
    cases (getO (tkD tag fs).data.toList).isSome
    · exact .inr ⟨rfl, rfl⟩
    · exact .inl ⟨rfl, rfl⟩
  unfold hB
  obtain ⟨d, hd⟩ : ∃ d, d = tkD tag fs := ⟨_, rfl⟩
  obtain ⟨b, hb⟩ : ∃ b, b = tkB tag fs := ⟨_, rfl⟩
  obtain ⟨r, hr⟩ : ∃ r, r = tkR tag fs := ⟨_, rfl⟩
  simp only [← hd, ← hb, ← hr] at D1 G1 hE2 hsz ⊢
  have hml : d.size ≤ maxLen := by unfold maxLen; omega
  clear hd hb hr h HD HZ hE hD36
  rcases hE2 with ⟨rfl, hq⟩ | ⟨rfl, hq⟩
  all_goals
    rw [hq]
    clear hq
    cases b
    all_goals
      go_enter Tryd.func41, Tryd.ntmps41
      go_wp2_with (first
        | (show wpList _ _ _ ({ dst := some 4, op := _, type := _, pos := _, after := _, guard := _ } :: _) _ _; refine wpList_new_var rfl 26 rfl Z HA.out ?_; intro g4 w1 HM4; try simp only [Act.put, List.setIfInBounds_toArray, List.set_cons_zero, List.set_cons_succ])
        | fail)
      refine (D1.out w1 (HH.out.below HM4.out.below)).mono ?_
      rintro e w2 ⟨rfl, hg2, hr2⟩
      have HG2 := hidk (grown_trans (grown_below HM4.out.below) hg2)
      have HR2 := hidk hr2
      have h4 : W.heap.size ≤ g4 := Nat.le_of_eq HM4.out.new.symm
      have HR4 : Hid (w2.heap[g4]? = some (.cells Z 26 (0, 0))) := (hg2.block _ (heap_lt HM4.out.row) (by intro e; cases e; omega)).trans HM4.out.row
      clear hg2 hr2 HM4 D1 HH
      go_wp2_with (first
        | (show wpList _ _ _ ({ dst := some 18, op := _, type := _, pos := _, after := _, guard := _ } :: _) _ _; refine wpList_conv_text rfl 9 35 5 (.tmp 17) rfl d rfl Tryd.underlying9 Tryd.underlying35 Tryd.underlying5 hml ?_; intro a3 c3 w3 HV; try simp only [Act.put, List.setIfInBounds_toArray, List.set_cons_zero, List.set_cons_succ])
        | fail)
      refine (G1.out _ _ _ HV.out.1).mono ?_
      rintro e w5 ⟨rfl, hb5⟩
      have hbb := HV.out.2.trans (hb5.mono HV.out.2.size)
      have HG5 := hidk (grown_trans HG2.out (grown_below hbb))
      have HR5 := hidk (HR2.out.below hbb)
      have HR45 := hidk ((hbb.block _ (heap_lt HR4.out)).trans HR4.out)
      clear hb5 hbb HV HG2 HR2 HR4
      go_wp2_with (first
        | (show wpList _ _ _ ({ dst := some 8, op := _, type := _, pos := _, after := _, guard := _ } :: _) _ _; refine wpList_new_var rfl 26 rfl Z HA.out ?_; intro g8 w6 HM8; try simp only [Act.put, List.setIfInBounds_toArray, List.set_cons_zero, List.set_cons_succ])
        | (refine wpList_set_var rfl 26 (.tmp 8) (.tmp 20) rfl g8 D rfl rfl 26 Z HM8.out.row HSD.out HZD.out H1D.out ?_; intro w7 HW8; try simp only [Act.put, List.setIfInBounds_toArray, List.set_cons_zero, List.set_cons_succ])
        | (show wpList _ _ _ ({ dst := some 22, op := _, type := _, pos := _, after := _, guard := _ } :: _) _ _; refine wpList_load_row rfl 26 (.tmp 8) rfl g8 rfl 26 D (0, 0) _ HW8.out.row Tryd.underlying26 rfl HSD.out ?_; try simp only [Act.put, List.setIfInBounds_toArray, List.set_cons_zero, List.set_cons_succ])
        | (refine wpList_set_var rfl 26 (.tmp 4) (.tmp 22) rfl g4 D rfl rfl 26 Z ((HW8.out.other _ (by have e1 := HM8.out.new; have := heap_lt HR45.out; omega)).trans ((HM8.out.below.block _ (heap_lt HR45.out)).trans HR45.out)) HSD.out HZD.out H1D.out ?_; intro w8 HW4; try simp only [Act.put, List.setIfInBounds_toArray, List.set_cons_zero, List.set_cons_succ])
        | fail)
      have h8 : w5.heap.size ≤ g8 := Nat.le_of_eq HM8.out.new.symm
      have hg5 := HR5.out.lt
      have hs5 := HG5.out.size
      refine bodyPost_ret (v := .tuple #[.agg D, .bool _]) ?_ rfl ⟨rfl, grown_wrote (grown_wrote (grown_trans HG5.out (grown_below HM8.out.below)) HW8.out (by omega)) HW4.out h4, ((HR5.out.below HM8.out.below).wrote HW8.out (.inr (by omega))).wrote HW4.out (.inr (by omega))⟩
      exact results_row_tmp (p := 4) (q := 5) (ty := 26) rfl _ _ g4 26 D (0, 0) _ rfl HW4.out.row Tryd.underlying26 rfl HSD.out
set_option maxHeartbeats 2000000 in
theorem into_head (W : World) (lo g gh off : Nat) (fs : List (Int × ByteArray)) (tag : Int) (h : Rd W lo g fs) (hsz : (tkD tag fs).size ≤ 1000000) (C C' D : Array Value) (t : TypeId) (hC : W.heap[gh]? = some (.cells C t (0, 0))) (ho : off + 36 ≤ C.size) (hl : gh < lo) (HD : Hid (D = (hcells (hV tag fs)).toArray)) (HC' : Hid (C' = (C.toList.take off ++ D.toList ++ C.toList.drop (off + 36)).toArray)) :
    Calls Tryd.prog 40 #[.pointer (some ⟨gh, off, none⟩), .int .i64 tag, .func (.func 41) #[.pointer (some ⟨g, 0, none⟩)] #[]] W fun e w' =>
      e = .returned (.bool (hB tag fs)) ∧ w'.heap[gh]? = some (.cells C' t (0, 0)) ∧ Rd w' lo g (tkR tag fs) ∧ Went gh g W w' := by
  obtain ⟨Z, HZ, HA, HBZ, H36⟩ := noughtsH
  have N1 := hidk (rhead_any W lo g fs tag h hsz D HD)
  have hlt := h.lt
  have hD36 : D.size = 36 := by rw [HD.out, List.size_toArray]; exact hcells_length _ (hV_digs tag fs)
  have HSD : Hid ((Tryd.prog.info? 26).map (·.size) = some D.size) := by show _ = _; rw [sizeH, hD36]
  have H1D : Hid (D.all (·.oneCell') = true) := by show _ = _; rw [HD.out]; exact one_cells _
  have HZD : Hid (Z.size = D.size) := by show _ = _; rw [H36.out, hD36]
  have hgg : gh ≠ g := by obtain ⟨_, _, _, q, _⟩ := h; omega
  have HCC : Hid (C' = (C.toList.take off ++ D.toList ++ C.toList.drop (off + D.size)).toArray) := by show _ = _; rw [hD36, HC'.out]
  have HOO : Hid (off + D.size ≤ C.size) := by show _ ≤ _; rw [hD36]; exact ho
  have HC := hidk hC
  obtain ⟨b, hb⟩ : ∃ n, n = hB tag fs := ⟨_, rfl⟩
  rw [← hb] at N1
  rw [← hb]
  clear HC' hb hC HD hD36 HZ ho HBZ H36
  go_enter Tryd.func40, Tryd.ntmps40
  go_wp2_with fail
  refine N1.out.mono ?_
  rintro e w1 ⟨rfl, hg1, hr1⟩
  have HG := hidk hg1
  have HR := hidk hr1
  have HC1 := hidk ((hg1.block _ (heap_lt HC.out) (by intro e; cases e; exact hgg rfl)).trans HC.out)
  have hs1 := hg1.size
  clear hg1 hr1 h
  go_wp2_with (first
    | (show wpList _ _ _ ({ dst := some 7, op := _, type := _, pos := _, after := _, guard := _ } :: _) _ _; refine wpList_new_var rfl 26 rfl Z HA.out ?_; intro g7 w2 HM7; try simp only [Act.put, List.setIfInBounds_toArray, List.set_cons_zero, List.set_cons_succ])
    | (refine wpList_set_var rfl 26 (.tmp 7) (.tmp 13) rfl g7 D rfl rfl 26 Z HM7.out.row HSD.out HZD.out H1D.out ?_; intro w3 HW7; try simp only [Act.put, List.setIfInBounds_toArray, List.set_cons_zero, List.set_cons_succ])
    | (show wpList _ _ _ ({ dst := some 16, op := _, type := _, pos := _, after := _, guard := _ } :: _) _ _; refine wpList_load_row rfl 26 (.tmp 7) rfl g7 rfl 26 D (0, 0) _ HW7.out.row Tryd.underlying26 rfl HSD.out ?_; try simp only [Act.put, List.setIfInBounds_toArray, List.set_cons_zero, List.set_cons_succ])
    | (refine wpList_set_mid rfl 26 (.tmp 17) (.tmp 16) rfl gh off D rfl rfl t C ((HW7.out.other _ (by have e1 := HM7.out.new; have := heap_lt HC1.out; omega)).trans ((HM7.out.below.block _ (heap_lt HC1.out)).trans HC1.out)) HOO.out HSD.out H1D.out ?_; intro w4 HW; try simp only [Act.put, List.setIfInBounds_toArray, List.set_cons_zero, List.set_cons_succ])
    | fail)
  have h7 : w1.heap.size ≤ g7 := Nat.le_of_eq HM7.out.new.symm
  have HG2 := hidk (grown_wrote (grown_trans HG.out (grown_below HM7.out.below)) HW7.out (Nat.le_trans HG.out.size h7))
  have hb1 := HR.out.lt
  go_ret
  refine ⟨rfl, ?_, ((HR.out.below HM7.out.below).wrote HW7.out (.inr (by omega))).wrote HW.out (.inl hl), went_of HG2.out HW.out hlt⟩
  rw [HCC.out]
  exact HW.out.row
theorem gt_head {w W : World} {g2 g4 g5 lo : Nat} {Z C C' : Array Value} {T : TypeId} {fs fs' : List (Int × ByteArray)} (tag : Int) (off : Nat) (b : Bool) (h : GtS w W g2 g4 g5 lo Z C T fs) (hsz : (tkD tag fs).size ≤ 1000000) (ho : off + 36 ≤ C.size) (hC : C' = (C.toList.take off ++ hcells (hV tag fs) ++ C.toList.drop (off + 36)).toArray) (hb : b = hB tag fs) (hf : fs' = tkR tag fs) :
    Calls Tryd.prog 40 #[.pointer (some ⟨g4, off, none⟩), .int .i64 tag, .func (.func 41) #[.pointer (some ⟨g5, 0, none⟩)] #[]] W fun e w' => e = .returned (.bool b) ∧ GtS w w' g2 g4 g5 lo Z C' T fs' := by
  subst hb hf
  refine (into_head W lo g5 g4 off fs tag h.rd hsz C C' (hcells (hV tag fs)).toArray T h.r4 ho h.ol (hidk rfl) (by show _ = _; rw [hC])).mono ?_
  rintro e w' ⟨rfl, h1, h2, h3⟩
  exact ⟨rfl, h.went h1 h2 h3⟩
theorem readF_64 (bs : List UInt8) : ∀ f ∈ readF bs, f.2.size ≤ 65536 := by
  intro f hf
  unfold readF at hf
  by_cases h : readE bs = 0
  · rw [if_pos h] at hf
    unfold toF at hf
    obtain ⟨x, hx, rfl⟩ := List.mem_map.1 hf
    have := parse_small _ _ _ x hx
    show x.d.toArray.size ≤ 65536
    simp
    omega
  · rw [if_neg h] at hf; simp at hf
theorem tkD_le (tag : Int) (fs : List (Int × ByteArray)) (n : Nat) (h : ∀ f ∈ fs, f.2.size ≤ n) : (tkD tag fs).size ≤ n := by
  cases fs with
  | nil => exact Nat.zero_le _
  | cons f r =>
    by_cases e : f.1 = tag
    · rw [show tkD tag (f :: r) = f.2 from if_pos e]; exact h f (List.mem_cons_self ..)
    · rw [show tkD tag (f :: r) = ⟨#[]⟩ from if_neg e]; exact Nat.zero_le _
theorem hB_tk {tag : Int} {fs : List (Int × ByteArray)} (h : hB tag fs = true) : tkB tag fs = true ∧ getO (tkD tag fs).data.toList = some (hV tag fs) := by
  unfold hB at h
  simp only [Bool.and_eq_true] at h
  refine ⟨h.1, ?_⟩
  unfold hV getHO
  cases hg : getO (tkD tag fs).data.toList with
  | none => rw [hg] at h; cases h.2
  | some x => rfl
def seqS (f0 : List (Int × ByteArray)) : SgT := ⟨hV 1 f0, nV 2 (tkR 1 f0), dV 3 (tkR 2 (tkR 1 f0))⟩
def allS (f0 : List (Int × ByteArray)) : Bool := hB 1 f0 && (nB 2 (tkR 1 f0) && (dB 3 (tkR 2 (tkR 1 f0)) && (decide ((tkR 3 (tkR 2 (tkR 1 f0))).length = 0) && mayS (seqS f0))))
theorem get_seqS (bs : List UInt8) : Go.Proofs.YtdnhnjimhbbabaaDoor.getS bs = if allS (readF bs) = true then some (seqS (readF bs)) else none := by
  by_cases h0 : readE bs = 0
  · by_cases ha : allS (readF bs) = true
    · rw [if_pos ha]
      obtain ⟨f0, hf0⟩ : ∃ f, f = readF bs := ⟨_, rfl⟩
      rw [← hf0] at ha ⊢
      unfold allS at ha
      simp only [Bool.and_eq_true, decide_eq_true_eq] at ha
      obtain ⟨a1, a2, a3, a6, a7⟩ := ha
      have s1 := tk_shape (hB_tk a1).1
      have s2 := tk_shape (nB_tk a2).1
      have s3 := tk_shape (dB_tk a3).1
      have s6 := List.eq_nil_of_length_eq_zero a6
      have hh : seqS f0 = ⟨hV 1 f0, valO (tkD 2 (tkR 1 f0)).data.toList, (tkD 3 (tkR 2 (tkR 1 f0))).data.toList⟩ := by
        unfold seqS
        rw [nV_val a2, dV_yes a3]
      have hx := (dB_tk a3).2
      have hg1 := (hB_tk a1).2
      obtain ⟨x1, e1⟩ : ∃ x, x = tkD 1 f0 := ⟨_, rfl⟩
      obtain ⟨x2, e2⟩ : ∃ x, x = tkD 2 (tkR 1 f0) := ⟨_, rfl⟩
      obtain ⟨x3, e3⟩ : ∃ x, x = tkD 3 (tkR 2 (tkR 1 f0)) := ⟨_, rfl⟩
      rw [← e2, ← e3] at hh
      rw [← e3] at hx
      rw [← e1] at hg1
      have hs : readF bs = fieldsN [x1, x2, x3] := by
        rw [s6, ← e3] at s3
        rw [s3, ← e2] at s2
        rw [s2, ← e1] at s1
        rw [← hf0, s1]
        rfl
      have hp : partsO bs 3 = some [x1, x2, x3] := partsO_of h0 hs
      unfold Go.Proofs.YtdnhnjimhbbabaaDoor.getS
      rw [hp]
      show (match getO x1.data.toList with | some h => if x3.size = 32 ∧ mayS ⟨h, valO x2.data.toList, x3.data.toList⟩ = true then some (⟨h, valO x2.data.toList, x3.data.toList⟩ : SgT) else none | none => none) = _
      rw [hg1]
      show (if x3.size = 32 ∧ mayS ⟨hV 1 f0, valO x2.data.toList, x3.data.toList⟩ = true then some (⟨hV 1 f0, valO x2.data.toList, x3.data.toList⟩ : SgT) else none) = _
      rw [← hh, if_pos ⟨hx, a7⟩]
    · rw [if_neg ha]
      cases hg : Go.Proofs.YtdnhnjimhbbabaaDoor.getS bs with
      | none => rfl
      | some s =>
        exfalso
        apply ha
        unfold Go.Proofs.YtdnhnjimhbbabaaDoor.getS at hg
        split at hg
        · rename_i x1 x2 x3 hp
          split at hg
          · rename_i h1 hg1
            split at hg
            · rename_i hh
              have hr := (mayS_iff _).1 hh.2
              simp only at hr
              have hf := (partsO_fields hp).2.1
              rw [hf]
              have n2 := valO_num (l := x2.data.toList) (by omega)
              have hhv : hV 1 [((1 : Int), x1), (2, x2), (3, x3)] = h1 := by
                unfold hV getHO
                rw [tkD_hit, hg1]
                rfl
              have hhb : hB 1 [((1 : Int), x1), (2, x2), (3, x3)] = true := by
                unfold hB
                rw [tkB_hit, tkD_hit, hg1]
                rfl
              have hq : seqS [((1 : Int), x1), (2, x2), (3, x3)] = ⟨h1, valO x2.data.toList, x3.data.toList⟩ := by
                unfold seqS
                rw [hhv]
                simp only [tkR_hit, nV_hit]
                rw [dV_yes (by rw [dB_hit]; simpa using hh.1), tkD_hit]
                unfold vOf valO
                rw [if_pos n2, if_pos n2]
              show allS [((1 : Int), x1), (2, x2), (3, x3)] = true
              unfold allS
              rw [hq, hhb]
              simp only [tkR_hit, nB_hit, dB_hit, n2, hh.2, List.length_nil, Bool.true_and, Bool.and_true, decide_true]
              simpa using hh.1
            · cases hg
          · cases hg
        · cases hg
  · have hf := readF_none h0
    have hg : Go.Proofs.YtdnhnjimhbbabaaDoor.getS bs = none := by
      cases hg : partsO bs 3 with
      | none => unfold Go.Proofs.YtdnhnjimhbbabaaDoor.getS; rw [hg]
      | some l => exact absurd (partsO_fields hg).1 h0
    rw [hg, hf, if_neg]
    intro h
    cases h
theorem scells_zero (o : HdT) (h : HdT) (n : Int) (t : List UInt8) (hd : h.d.length = 32) : ((scells ⟨h, n, t⟩).toArray.toList.take 0 ++ hcells o ++ (scells ⟨h, n, t⟩).toArray.toList.drop (0 + 36)).toArray = (scells ⟨o, n, t⟩).toArray := by
  unfold scells
  congr 1
  simp [List.drop_append, hcells_length h hd]
theorem scells_node (h : HdT) (n v : Int) (t : List UInt8) (hd : h.d.length = 32) : (scells ⟨h, n, t⟩).toArray.setIfInBounds 36 (.int .i64 v) = (scells ⟨h, v, t⟩).toArray := by
  unfold scells
  rw [List.setIfInBounds_toArray]
  congr 1
  rw [List.append_assoc, List.append_assoc, List.set_append_right _ _ (by simp [hcells_length h hd])]
  simp [hcells_length h hd]
set_option maxHeartbeats 8000000 in
theorem hGetS_any (a : Option Addr) (len cap : Nat) (bs : List UInt8) (w : World) (hR : Reads w a len cap bs) (hl : len ≤ 1000000) (R : Array Value) (HR : Hid (R = (scells (getSO bs)).toArray)) :
    Calls Tryd.prog 16 #[.slice a len cap] w fun e w' => e = .returned (.tuple #[.agg R, .int .i64 (getSE bs)]) ∧ Below w.heap.size w w' := by
  obtain ⟨Z, HZ, HA, HBZ, H36⟩ := noughtsS
  have HSZ : Hid ((Tryd.prog.info? 28).map (·.size) = some Z.size) := by show _ = _; rw [sizeS, H36.out]
  have H1Z : Hid (Z.all (·.oneCell') = true) := by show _ = _; rw [HZ.out]; exact one_cellsS _
  have hnot : ∀ (x : Bool) (w : World), (Op.unary .not (.bool x)).run Tryd.prog w = .ok (.bool (!x)) w := fun _ _ => rfl
  obtain ⟨f0, hf0⟩ : ∃ f, f = readF bs := ⟨_, rfl⟩
  obtain ⟨f1, hf1⟩ : ∃ f, f = tkR 1 f0 := ⟨_, rfl⟩
  obtain ⟨f2, hf2⟩ : ∃ f, f = tkR 2 f1 := ⟨_, rfl⟩
  obtain ⟨f3, hf3⟩ : ∃ f, f = tkR 3 f2 := ⟨_, rfl⟩
  have hsz : (tkD 1 f0).size ≤ 1000000 := Nat.le_trans (tkD_le 1 f0 65536 (by rw [hf0]; exact readF_64 bs)) (by decide)
  obtain ⟨C1, hC1⟩ : ∃ C, C = (scells ⟨hV 1 f0, 0, List.replicate 32 0⟩).toArray := ⟨_, rfl⟩
  obtain ⟨C2, hC2⟩ : ∃ C, C = (scells ⟨hV 1 f0, nV 2 f1, List.replicate 32 0⟩).toArray := ⟨_, rfl⟩
  obtain ⟨C3, hC3⟩ : ∃ C, C = (scells ⟨hV 1 f0, nV 2 f1, dV 3 f2⟩).toArray := ⟨_, rfl⟩
  have hz1 : C1.size = 69 := by rw [hC1, List.size_toArray]; exact scells_length _ (hV_digs _ _) rfl
  have hz2 : C2.size = 69 := by rw [hC2, List.size_toArray]; exact scells_length _ (hV_digs _ _) rfl
  have hz3 : C3.size = 69 := by rw [hC3, List.size_toArray]; exact scells_length _ (hV_digs _ _) (dV_length _ _)
  obtain ⟨b1, hb1⟩ : ∃ b, b = hB 1 f0 := ⟨_, rfl⟩
  obtain ⟨b2, hb2⟩ : ∃ b, b = nB 2 f1 := ⟨_, rfl⟩
  obtain ⟨b3, hb3⟩ : ∃ b, b = dB 3 f2 := ⟨_, rfl⟩
  obtain ⟨b4, hb4⟩ : ∃ b, b = decide (f3.length = 0) := ⟨_, rfl⟩
  obtain ⟨br, hbr⟩ : ∃ b, b = mayS (seqS f0) := ⟨_, rfl⟩
  have hq : seqS f0 = ⟨hV 1 f0, nV 2 f1, dV 3 f2⟩ := by unfold seqS; rw [hf2, hf1]
  have hall : allS f0 = (b1 && (b2 && (b3 && (b4 && br)))) := by
    unfold allS
    rw [hb1, hb2, hb3, hb4, hbr, hf3, hf2, hf1]
  have hget := get_seqS bs
  rw [← hf0, hall] at hget
  obtain ⟨K, hKK⟩ : ∃ K, K = getSE bs := ⟨_, rfl⟩
  rw [← hKK]
  have HF : Hid ((b1 && (b2 && (b3 && (b4 && br)))) = false → R = Z ∧ K = 70) := fun hh => by
    rw [hh] at hget
    have hget : Go.Proofs.YtdnhnjimhbbabaaDoor.getS bs = none := hget
    rw [HR.out, HZ.out, hKK]
    unfold getSO getSE
    rw [hget]
    exact ⟨rfl, rfl⟩
  have HT : Hid ((b1 && (b2 && (b3 && (b4 && br)))) = true → R = C3 ∧ K = 0) := fun hh => by
    rw [hh] at hget
    have hget : Go.Proofs.YtdnhnjimhbbabaaDoor.getS bs = some (seqS f0) := hget
    rw [HR.out, hC3, hKK]
    unfold getSO getSE
    rw [hget, hq]
    exact ⟨rfl, rfl⟩
  have O1 : Hid (∀ W, Below w.heap.size w W → Calls Tryd.prog 39 #[.slice a len cap] W fun e w' => ∃ x c, e = .returned (.slice x f0.length c) ∧ Lie w' W.heap.size x c f0 ∧ Below W.heap.size W w') := fun W hb => by rw [hf0]; exact open_any a len cap bs W (hR.below hb) hl
  have I1 : Hid (∀ W g2 g4 g5 lo, GtS w W g2 g4 g5 lo Z Z 28 f0 → Calls Tryd.prog 40 #[.pointer (some ⟨g4, 0, none⟩), .int .i64 1, .func (.func 41) #[.pointer (some ⟨g5, 0, none⟩)] #[]] W fun e w' => e = .returned (.bool b1) ∧ GtS w w' g2 g4 g5 lo Z C1 28 f1) := fun W g2 g4 g5 lo hs => gt_head 1 0 b1 hs hsz (by rw [H36.out]; omega) (by rw [HZ.out, hC1]; exact (scells_zero (hV 1 f0) zeroH 0 (List.replicate 32 0) rfl).symm) hb1 hf1
  have I2 : Hid (∀ W g2 g4 g5 lo, GtS w W g2 g4 g5 lo Z C1 28 f1 → Calls Tryd.prog 42 #[.pointer (some ⟨g4, 36, none⟩), .int .i64 2, .func (.func 43) #[.pointer (some ⟨g5, 0, none⟩)] #[]] W fun e w' => e = .returned (.bool b2) ∧ GtS w w' g2 g4 g5 lo Z C2 28 f2) := fun W g2 g4 g5 lo hs => gt_int 2 36 b2 hs (by rw [hz1]; omega) (by rw [hC1, hC2]; exact (scells_node (hV 1 f0) 0 (nV 2 f1) (List.replicate 32 0) (hV_digs _ _)).symm) hb2 hf2
  have I3 : Hid (∀ W g2 g4 g5 lo, GtS w W g2 g4 g5 lo Z C2 28 f2 → Calls Tryd.prog 44 #[.pointer (some ⟨g4, 37, none⟩), .int .i64 3, .func (.func 45) #[.pointer (some ⟨g5, 0, none⟩)] #[]] W fun e w' => e = .returned (.bool b3) ∧ GtS w w' g2 g4 g5 lo Z C3 28 f3) := fun W g2 g4 g5 lo hs => gt_dig 3 37 b3 hs (by rw [hz2]; omega) (by rw [hC2, hC3]; exact (scells_sign (hV 1 f0) (nV 2 f1) (List.replicate 32 0) (dV 3 f2) (hV_digs _ _) rfl).symm) hb3 hf3
  have I4 : Hid (∀ W g2 g4 g5 lo, GtS w W g2 g4 g5 lo Z C3 28 f3 → Calls Tryd.prog 46 #[.pointer (some ⟨g5, 0, none⟩)] W fun e w' => e = .returned (.bool b4) ∧ GtS w w' g2 g4 g5 lo Z C3 28 f3) := fun W g2 g4 g5 lo hs => gt_ended b4 hs hb4
  obtain ⟨E, hE⟩ : ∃ E, E = mayS (seqS f0) := ⟨_, rfl⟩
  have hd5 : (seqS f0).h.d.length = 32 := hV_digs _ _
  have K1 : Hid (∀ W, Calls Tryd.prog 23 #[.agg C3] W fun e w' => e = .returned (.bool E) ∧ Below W.heap.size W w') := fun W => by rw [hE]; exact hMay_any (seqS f0) hd5 W C3 (by rw [hC3, hq]; exact hidk rfl)
  have hK : (E = true ∧ br = true) ∨ (E = false ∧ br = false) := by
    rw [hE, hbr]
    cases mayS (seqS f0)
    · exact .inr ⟨rfl, rfl⟩
    · exact .inl ⟨rfl, rfl⟩
  have HSC : Hid ((Tryd.prog.info? 28).map (·.size) = some C3.size) := by show _ = _; rw [sizeS, hz3]
  have H1C : Hid (C3.all (·.oneCell') = true) := by show _ = _; rw [hC3]; exact one_cellsS _
  have HZC : Hid (Z.size = C3.size) := by show _ = _; rw [H36.out, hz3]
  clear hf0 hf1 hf2 hf3 hC1 hC2 hC3 hz1 hz2 hz3 hb1 hb2 hb3 hb4 hbr hq hall hget hKK hE hd5 HR H36 hsz
  clear HZ hR
  go_enter Tryd.func16, Tryd.ntmps16
  go_wp2_with (first
    | (show wpList _ _ _ ({ dst := some 2, op := _, type := _, pos := _, after := _, guard := _ } :: _) _ _; refine wpList_new_var rfl 28 rfl Z HA.out ?_; intro g2 w1 HM2; try simp only [Act.put, List.setIfInBounds_toArray, List.set_cons_zero, List.set_cons_succ])
    | (show wpList _ _ _ ({ dst := some 4, op := _, type := _, pos := _, after := _, guard := _ } :: _) _ _; refine wpList_new_var rfl 28 rfl Z HA.out ?_; intro g4 w2 HM4; try simp only [Act.put, List.setIfInBounds_toArray, List.set_cons_zero, List.set_cons_succ])
    | fail)
  have HB2 : Hid (Below w.heap.size w w2) := HM2.out.below.trans (HM4.out.below.mono HM2.out.below.size)
  refine (O1.out w2 HB2.out).mono ?_
  rintro e w3 ⟨x, c, rfl, hl3, hb3⟩
  have HS0 : Hid (GtS w (w3.alloc (.cells #[.slice x f0.length c] 65)) g2 g4 w3.heap.size w2.heap.size Z Z 28 f0) := by
    have hbb := HB2.out.trans (hb3.mono HB2.out.size)
    have q2 : w2.heap[g2]? = some (.cells Z 28 (0, 0)) := (HM4.out.below.block _ (heap_lt HM2.out.row)).trans HM2.out.row
    refine ⟨hbb.alloc hbb.size _, heap_keep ((hb3.block _ (heap_lt q2)).trans q2), heap_keep ((hb3.block _ (heap_lt HM4.out.row)).trans HM4.out.row), rd_new hl3 hb3.size, Nat.le_of_eq HM2.out.new.symm, ?_, heap_lt HM4.out.row, hb3.size⟩
    rw [HM4.out.new]; exact heap_lt HM2.out.row
  obtain ⟨g5, hg5⟩ : ∃ g, g = w3.heap.size := ⟨_, rfl⟩
  obtain ⟨lo, hlo⟩ : ∃ g, g = w2.heap.size := ⟨_, rfl⟩
  rw [← hg5, ← hlo] at HS0
  clear HM2 HM4 HB2 hb3 hl3 O1 hlo
  go_wp2_with fail
  rw [← hg5]
  clear hg5
  refine (I1.out _ _ _ _ _ HS0.out).mono ?_
  rintro e v1 ⟨rfl, hs1⟩
  have HS1 := hidk hs1
  clear hs1 HS0 I1
  cases b1
  · skip
    go_wp2_with (first
      | (show wpList _ _ _ ({ dst := some 32, op := _, type := _, pos := _, after := _, guard := _ } :: _) _ _; refine wpList_build_none rfl 28 rfl Z HBZ.out ?_; try simp only [Act.put, List.setIfInBounds_toArray, List.set_cons_zero, List.set_cons_succ])
      | (refine wpList_set_var rfl 28 (.tmp 2) (.tmp 32) rfl g2 Z rfl rfl 28 Z HS1.out.r2 HSZ.out rfl H1Z.out ?_; intro wz HWz; try simp only [Act.put, List.setIfInBounds_toArray, List.set_cons_zero, List.set_cons_succ])
      | fail)
    refine bodyPost_ret (v := .tuple #[.agg R, .int .i64 K]) ?_ rfl ⟨rfl, HWz.out.below w.heap.size w HS1.out.below HS1.out.o2⟩
    rw [(HF.out rfl).1, (HF.out rfl).2]
    exact results_row_tmp (p := 2) (q := 3) (ty := 28) rfl _ _ g2 28 Z (0, 0) _ rfl HWz.out.row Tryd.underlying28 rfl HSZ.out
  go_wp2_with fail
  refine (I2.out _ _ _ _ _ HS1.out).mono ?_
  rintro e v2 ⟨rfl, hs2⟩
  have HS2 := hidk hs2
  clear hs2 HS1 I2
  cases b2
  · skip
    go_wp2_with (first
      | (show wpList _ _ _ ({ dst := some 32, op := _, type := _, pos := _, after := _, guard := _ } :: _) _ _; refine wpList_build_none rfl 28 rfl Z HBZ.out ?_; try simp only [Act.put, List.setIfInBounds_toArray, List.set_cons_zero, List.set_cons_succ])
      | (refine wpList_set_var rfl 28 (.tmp 2) (.tmp 32) rfl g2 Z rfl rfl 28 Z HS2.out.r2 HSZ.out rfl H1Z.out ?_; intro wz HWz; try simp only [Act.put, List.setIfInBounds_toArray, List.set_cons_zero, List.set_cons_succ])
      | fail)
    refine bodyPost_ret (v := .tuple #[.agg R, .int .i64 K]) ?_ rfl ⟨rfl, HWz.out.below w.heap.size w HS2.out.below HS2.out.o2⟩
    rw [(HF.out rfl).1, (HF.out rfl).2]
    exact results_row_tmp (p := 2) (q := 3) (ty := 28) rfl _ _ g2 28 Z (0, 0) _ rfl HWz.out.row Tryd.underlying28 rfl HSZ.out
  go_wp2_with fail
  refine (I3.out _ _ _ _ _ HS2.out).mono ?_
  rintro e v3 ⟨rfl, hs3⟩
  have HS3 := hidk hs3
  clear hs3 HS2 I3
  cases b3
  · skip
    go_wp2_with (first
      | (show wpList _ _ _ ({ dst := some 32, op := _, type := _, pos := _, after := _, guard := _ } :: _) _ _; refine wpList_build_none rfl 28 rfl Z HBZ.out ?_; try simp only [Act.put, List.setIfInBounds_toArray, List.set_cons_zero, List.set_cons_succ])
      | (refine wpList_set_var rfl 28 (.tmp 2) (.tmp 32) rfl g2 Z rfl rfl 28 Z HS3.out.r2 HSZ.out rfl H1Z.out ?_; intro wz HWz; try simp only [Act.put, List.setIfInBounds_toArray, List.set_cons_zero, List.set_cons_succ])
      | fail)
    refine bodyPost_ret (v := .tuple #[.agg R, .int .i64 K]) ?_ rfl ⟨rfl, HWz.out.below w.heap.size w HS3.out.below HS3.out.o2⟩
    rw [(HF.out rfl).1, (HF.out rfl).2]
    exact results_row_tmp (p := 2) (q := 3) (ty := 28) rfl _ _ g2 28 Z (0, 0) _ rfl HWz.out.row Tryd.underlying28 rfl HSZ.out
  go_wp2_with fail
  refine (I4.out _ _ _ _ _ HS3.out).mono ?_
  rintro e v4 ⟨rfl, hs4⟩
  have HS4 := hidk hs4
  clear hs4 HS3 I4
  cases b4
  · skip
    go_wp2_with (first
      | (show wpList _ _ _ ({ dst := some 32, op := _, type := _, pos := _, after := _, guard := _ } :: _) _ _; refine wpList_build_none rfl 28 rfl Z HBZ.out ?_; try simp only [Act.put, List.setIfInBounds_toArray, List.set_cons_zero, List.set_cons_succ])
      | (refine wpList_set_var rfl 28 (.tmp 2) (.tmp 32) rfl g2 Z rfl rfl 28 Z HS4.out.r2 HSZ.out rfl H1Z.out ?_; intro wz HWz; try simp only [Act.put, List.setIfInBounds_toArray, List.set_cons_zero, List.set_cons_succ])
      | fail)
    refine bodyPost_ret (v := .tuple #[.agg R, .int .i64 K]) ?_ rfl ⟨rfl, HWz.out.below w.heap.size w HS4.out.below HS4.out.o2⟩
    rw [(HF.out rfl).1, (HF.out rfl).2]
    exact results_row_tmp (p := 2) (q := 3) (ty := 28) rfl _ _ g2 28 Z (0, 0) _ rfl HWz.out.row Tryd.underlying28 rfl HSZ.out
  go_wp2_with (first
    | (show wpList _ _ _ ({ dst := some 28, op := _, type := _, pos := _, after := _, guard := _ } :: _) _ _; refine wpList_load_row_w (by rfl) 28 (.tmp 4) rfl g4 rfl 28 C3 (0, 0) _ HS4.out.r4 Tryd.underlying28 rfl HSC.out ?_; try simp only [Act.put, List.setIfInBounds_toArray, List.set_cons_zero, List.set_cons_succ])
    | fail)
  refine (K1.out _).mono ?_
  rintro e vk ⟨rfl, hbk⟩
  have HSk := hidk (HS4.out.keep hbk)
  clear hbk HS4 K1
  rcases hK with ⟨rfl, rfl⟩ | ⟨rfl, rfl⟩
  · go_wp2_with (first
      | (show wpList _ _ _ ({ dst := some 33, op := _, type := _, pos := _, after := _, guard := _ } :: _) _ _; refine wpList_load_row rfl 28 (.tmp 4) rfl g4 rfl 28 C3 (0, 0) _ HSk.out.r4 Tryd.underlying28 rfl HSC.out ?_; try simp only [Act.put, List.setIfInBounds_toArray, List.set_cons_zero, List.set_cons_succ])
      | (refine wpList_set_var rfl 28 (.tmp 2) (.tmp 33) rfl g2 C3 rfl rfl 28 Z HSk.out.r2 HSC.out HZC.out H1C.out ?_; intro wz HWz; try simp only [Act.put, List.setIfInBounds_toArray, List.set_cons_zero, List.set_cons_succ])
      | fail)
    refine bodyPost_ret (v := .tuple #[.agg R, .int .i64 K]) ?_ rfl ⟨rfl, HWz.out.below w.heap.size w HSk.out.below HSk.out.o2⟩
    rw [(HT.out rfl).1, (HT.out rfl).2]
    exact results_row_tmp (p := 2) (q := 3) (ty := 28) rfl _ _ g2 28 C3 (0, 0) _ rfl HWz.out.row Tryd.underlying28 rfl HSC.out
  · skip
    go_wp2_with (first
      | (show wpList _ _ _ ({ dst := some 32, op := _, type := _, pos := _, after := _, guard := _ } :: _) _ _; refine wpList_build_none rfl 28 rfl Z HBZ.out ?_; try simp only [Act.put, List.setIfInBounds_toArray, List.set_cons_zero, List.set_cons_succ])
      | (refine wpList_set_var rfl 28 (.tmp 2) (.tmp 32) rfl g2 Z rfl rfl 28 Z HSk.out.r2 HSZ.out rfl H1Z.out ?_; intro wz HWz; try simp only [Act.put, List.setIfInBounds_toArray, List.set_cons_zero, List.set_cons_succ])
      | fail)
    refine bodyPost_ret (v := .tuple #[.agg R, .int .i64 K]) ?_ rfl ⟨rfl, HWz.out.below w.heap.size w HSk.out.below HSk.out.o2⟩
    rw [(HF.out rfl).1, (HF.out rfl).2]
    exact results_row_tmp (p := 2) (q := 3) (ty := 28) rfl _ _ g2 28 Z (0, 0) _ rfl HWz.out.row Tryd.underlying28 rfl HSZ.out
end Go.Proofs.YtdnhnjimhbbabaaDoor

/- What the calls of package head answer, all together. -/
namespace Go.Proofs.YtdnhnjimhbbabaaDoor
open Go.RowKit Sums Nums
set_option linter.unusedVariables false
/-- What the calls of package head answer. -/
theorem headC : HeadC where
  check := fun h hh w C HC => hCheck_any h hh.d w C HC
  put := fun h hh w C HC => hPut_any h hh.d w C HC
  get := fun a len cap bs w hR hl R HR => hGet_any a len cap bs w hR (by omega) R HR
  sign := fun master h n w M C R HM HC hm hh hn hT HR => hSign_any master h n w M C R HM HC hm hh.d hT HR
  verify := fun master s w M C HM HC hm hs hT => hVerify_any master s w M C HM HC hm hs hT
  putS := fun s hs w C HC => hPutS_any s hs w C HC
  getS := fun a len cap bs w hR hl R HR => hGetS_any a len cap bs w hR (by omega) R HR
end Go.Proofs.YtdnhnjimhbbabaaDoor

/- Heads, signed heads and bytes that came in. -/
namespace Go.Proofs.YtdnhnjimhbbabaaDoor
open Go.RowKit Sums Nums
set_option linter.unusedVariables false
set_option maxRecDepth 100000
theorem reads_arg {w : World} {x : Addr} {len cap : Nat} {zs : List Int} (hl : len ≤ cap) (hm : cap ≤ maxLen) (hz : zs.length = cap)
    (hcell : ∀ i, i < zs.length → w.cell? (x.add i) = some (.int .u8 (zs.getD i 0))) (hwz : ∀ n ∈ zs, (Lit.int .u8 n).wf = true) :
    ∃ l, Reads w (some x) len cap l := by
  have hm' : cap ≤ 9223372036854775807 := by unfold maxLen at hm; omega
  refine ⟨(zs.take len).map fun n => UInt8.ofNat n.toNat, by simp; omega, hl, hm', ?_⟩
  by_cases h0 : len = 0
  · exact .inr (.inl ⟨x, rfl, h0⟩)
  · have hc := hcell 0 (by omega)
    obtain ⟨b, off, spot⟩ := x
    have hspot : spot = none := by simpa [Addr.add] using World.cell?_spot hc
    subst hspot
    refine .inr (.inr ⟨b, off, rfl, ?_, fun i hi => ?_⟩)
    · rw [add_plain] at hc
      exact World.block_lt_of_cell? _ _ hc
    · have hi' : i < zs.length := by simp at hi; omega
      have := hcell i hi'
      rw [add_plain] at this
      rw [this]
      have hb := bounds_u8 (hwz zs[i] (List.getElem_mem hi'))
      simp only [List.getD, List.getElem?_eq_getElem hi', Option.getD_some, List.getElem_map, List.getElem_take]
      congr 2
      rw [UInt8.toNat_ofNat']
      omega
theorem open_bytes {H : Type} {enc : TypeId × Value → H} {W : World} {base : Nat} {held : Bool} {a : Option Addr} {len cap : Nat} {d : DataW H} {p : List MemPlace}
    (h : DataW.Trod enc Tryd.prog W base (fun _ => true) held 35 (.slice a len cap) d p) : ∃ l, Reads W a len cap l := by
  obtain ⟨fuel, hf⟩ := h
  rcases Go.ChangeShapes.open_ints Tryd.underlying35 Tryd.underlying5 (by kernel_rfl) hf with ⟨hcs, _⟩ | ⟨x, l, c, zs, hcs, _, hl, hm, hz, _, hcell, hwz⟩
  · simp [Value.cells] at hcs
    obtain ⟨rfl, rfl, rfl⟩ := hcs
    exact ⟨[], reads_none _⟩
  · simp [Value.cells] at hcs
    obtain ⟨rfl, rfl, rfl⟩ := hcs
    exact reads_arg hl hm (by simpa using hz) hcell hwz
variable {H : Type} {enc : TypeId × Value → H} {W : World} {base : Nat} {sp : Nat → Bool} {held : Bool} {fuel : Nat} {x : DataW H × List MemPlace}
end Go.Proofs.YtdnhnjimhbbabaaDoor
