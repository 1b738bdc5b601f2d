/- What tag.Key answers. -/
import Derived.Test.YtkmndchbmbhlhaaDoorMc
namespace Go.Proofs.YtkmndchbmbhlhaaDoor
open Go.RowKit Sums
set_option linter.unusedVariables false
set_option linter.unusedSimpArgs false

theorem zero3 : (Tryd.prog.info? 44).map (fun i => (i.zero, i.size)) = some (some (.agg #[.int .u8 0, .int .u8 0, .int .u8 0]), 3) := by kernel_rfl
theorem size3 : (Tryd.prog.info? 44).map (·.size) = some 3 := by kernel_rfl
theorem built3 (r n : Int) : Tryd.prog.built 44 [(0, .int .u8 75), (1, .int .u8 r), (2, .int .u8 n)] = some #[.int .u8 75, .int .u8 r, .int .u8 n] := by
  have h1 : (Tryd.prog.built 44 [(0, .int .u8 75), (1, .int .u8 0), (2, .int .u8 0)]).isSome = true := by kernel_rfl
  first | rfl | simp [Program.built] | kernel_rfl
theorem wpList_build_three {P : Program} {ops : Array Oper} {rest : List Oper} {o : Oper} {a : Act} {w : World} {Q : Exit → Act → World → Prop} (hg : o.guard = none) (t : TypeId) (x y z : Operand) (ho : o.op = .build t #[(0, x), (1, y), (2, z)])
    (cs : Array Value) (vx vy vz : Value) (hx : a.eval x = vx) (hy : a.eval y = vy) (hz : a.eval z = vz) (hb : P.built t [(0, vx), (1, vy), (2, vz)] = some cs) (h : wpList P ops Q rest (a.put o.dst (.agg cs)) w) : wpList P ops Q (o :: rest) a w :=
  wpList_build_row hg t #[(0, x), (1, y), (2, z)] ho cs (by simpa [hx, hy, hz] using hb) h
theorem conv3 (W : World) (g : Nat) (r n : Int) (hr : 0 ≤ r ∧ r ≤ 255) (hn : 0 ≤ n ∧ n ≤ 255) (t : TypeId) (h : W.heap[g]? = some (.cells #[.int .u8 75, .int .u8 r, .int .u8 n] t (0, 0))) : (convert 38 9 (.slice (some ⟨g, 0, none⟩) 3 3)).run Tryd.prog W = .ok (.string ⟨#[75, UInt8.ofNat r.toNat, UInt8.ofNat n.toNat]⟩) W := by
  have e1 : ((UInt8.ofNat r.toNat).toNat : Int) = r := by rw [UInt8.toNat_ofNat']; omega
  have e2 : ((UInt8.ofNat n.toNat).toNat : Int) = n := by rw [UInt8.toNat_ofNat']; omega
  refine conv_any (l := [75, UInt8.ofNat r.toNat, UInt8.ofNat n.toNat]) (t := t) ?_ rfl
  rw [h]
  show _ = some (Obj.cells #[.int .u8 75, .int .u8 ((UInt8.ofNat r.toNat).toNat : Int), .int .u8 ((UInt8.ofNat n.toNat).toNat : Int)] t (0, 0))
  rw [e1, e2]

set_option maxHeartbeats 4000000 in
theorem key_out1 (r n : Int) (w : World) (M Z : Array Value) (HBY : Hid (Tryd.prog.built 23 [] = some Z)) (HA : Hid ((Tryd.prog.info? 23).map (fun i => (i.zero, i.size)) = some (some (.agg Z), Z.size))) (HSZ : Hid ((Tryd.prog.info? 23).map (·.size) = some Z.size)) (H1Z : Hid (Z.all (·.oneCell') = true)) (hd : r < 1) :
    Calls Tryd.prog 12 #[.agg M, .int .i64 r, .int .i64 n] w fun e w' => e = .returned (.tuple #[.agg Z, .int .i64 50]) ∧ Below w.heap.size w w' := by
  have d1 : decide (r < 1) = true := by rw [decide_eq_true_eq]; omega
  clear hd
  go_enter Tryd.func12, Tryd.ntmps12
  go_wp2_with (first
    | (show wpList _ _ _ ({ dst := some 6, op := _, type := _, pos := _, after := _, guard := _ } :: _) _ _; refine wpList_new_var rfl 23 rfl Z HA.out ?_; intro g6 w1 HM6; try simp only [Act.put, List.setIfInBounds_toArray, List.set_cons_zero, List.set_cons_succ])
    | (show wpList _ _ _ ({ dst := some 23, op := _, type := _, pos := _, after := _, guard := _ } :: _) _ _; refine wpList_build_none rfl 23 rfl Z HBY.out ?_; try simp only [Act.put, List.setIfInBounds_toArray, List.set_cons_zero, List.set_cons_succ])
    | (refine wpList_set_var rfl 23 (.tmp 6) (.tmp 23) rfl g6 Z rfl rfl 23 Z HM6.out.row HSZ.out rfl H1Z.out ?_; intro w2 HW6; try simp only [Act.put, List.setIfInBounds_toArray, List.set_cons_zero, List.set_cons_succ])
    | fail)
  refine bodyPost_ret (v := .tuple #[.agg Z, .int .i64 50]) ?_ rfl ⟨rfl, ?_⟩
  · exact results_row_tmp (p := 6) (q := 7) (ty := 23) rfl _ _ g6 23 Z (0, 0) _ rfl HW6.out.row Tryd.underlying23 rfl HSZ.out
  · have e := HM6.out.new
    rw [alloc_size] at e
    exact HW6.out.below w.heap.size w (((Below.refl _ _).alloc (Nat.le_refl _) _).trans (HM6.out.below.mono (by simp))) (by omega)

set_option maxHeartbeats 4000000 in
theorem key_out2 (r n : Int) (w : World) (M Z : Array Value) (HBY : Hid (Tryd.prog.built 23 [] = some Z)) (HA : Hid ((Tryd.prog.info? 23).map (fun i => (i.zero, i.size)) = some (some (.agg Z), Z.size))) (HSZ : Hid ((Tryd.prog.info? 23).map (·.size) = some Z.size)) (H1Z : Hid (Z.all (·.oneCell') = true)) (hd : ¬ r < 1 ∧ 5 < r) :
    Calls Tryd.prog 12 #[.agg M, .int .i64 r, .int .i64 n] w fun e w' => e = .returned (.tuple #[.agg Z, .int .i64 50]) ∧ Below w.heap.size w w' := by
  have d1 : decide (r < 1) = false := by rw [decide_eq_false_iff_not]; omega
  have d2 : decide (5 < r) = true := by rw [decide_eq_true_eq]; omega
  clear hd
  go_enter Tryd.func12, Tryd.ntmps12
  go_wp2_with (first
    | (show wpList _ _ _ ({ dst := some 6, op := _, type := _, pos := _, after := _, guard := _ } :: _) _ _; refine wpList_new_var rfl 23 rfl Z HA.out ?_; intro g6 w1 HM6; try simp only [Act.put, List.setIfInBounds_toArray, List.set_cons_zero, List.set_cons_succ])
    | (show wpList _ _ _ ({ dst := some 23, op := _, type := _, pos := _, after := _, guard := _ } :: _) _ _; refine wpList_build_none rfl 23 rfl Z HBY.out ?_; try simp only [Act.put, List.setIfInBounds_toArray, List.set_cons_zero, List.set_cons_succ])
    | (refine wpList_set_var rfl 23 (.tmp 6) (.tmp 23) rfl g6 Z rfl rfl 23 Z HM6.out.row HSZ.out rfl H1Z.out ?_; intro w2 HW6; try simp only [Act.put, List.setIfInBounds_toArray, List.set_cons_zero, List.set_cons_succ])
    | fail)
  refine bodyPost_ret (v := .tuple #[.agg Z, .int .i64 50]) ?_ rfl ⟨rfl, ?_⟩
  · exact results_row_tmp (p := 6) (q := 7) (ty := 23) rfl _ _ g6 23 Z (0, 0) _ rfl HW6.out.row Tryd.underlying23 rfl HSZ.out
  · have e := HM6.out.new
    rw [alloc_size] at e
    exact HW6.out.below w.heap.size w (((Below.refl _ _).alloc (Nat.le_refl _) _).trans (HM6.out.below.mono (by simp))) (by omega)

set_option maxHeartbeats 4000000 in
theorem key_out3 (r n : Int) (w : World) (M Z : Array Value) (HBY : Hid (Tryd.prog.built 23 [] = some Z)) (HA : Hid ((Tryd.prog.info? 23).map (fun i => (i.zero, i.size)) = some (some (.agg Z), Z.size))) (HSZ : Hid ((Tryd.prog.info? 23).map (·.size) = some Z.size)) (H1Z : Hid (Z.all (·.oneCell') = true)) (hd : ¬ r < 1 ∧ ¬ 5 < r ∧ n < 1) :
    Calls Tryd.prog 12 #[.agg M, .int .i64 r, .int .i64 n] w fun e w' => e = .returned (.tuple #[.agg Z, .int .i64 50]) ∧ Below w.heap.size w w' := by
  have d1 : decide (r < 1) = false := by rw [decide_eq_false_iff_not]; omega
  have d2 : decide (5 < r) = false := by rw [decide_eq_false_iff_not]; omega
  have d3 : decide (n < 1) = true := by rw [decide_eq_true_eq]; omega
  clear hd
  go_enter Tryd.func12, Tryd.ntmps12
  go_wp2_with (first
    | (show wpList _ _ _ ({ dst := some 6, op := _, type := _, pos := _, after := _, guard := _ } :: _) _ _; refine wpList_new_var rfl 23 rfl Z HA.out ?_; intro g6 w1 HM6; try simp only [Act.put, List.setIfInBounds_toArray, List.set_cons_zero, List.set_cons_succ])
    | (show wpList _ _ _ ({ dst := some 23, op := _, type := _, pos := _, after := _, guard := _ } :: _) _ _; refine wpList_build_none rfl 23 rfl Z HBY.out ?_; try simp only [Act.put, List.setIfInBounds_toArray, List.set_cons_zero, List.set_cons_succ])
    | (refine wpList_set_var rfl 23 (.tmp 6) (.tmp 23) rfl g6 Z rfl rfl 23 Z HM6.out.row HSZ.out rfl H1Z.out ?_; intro w2 HW6; try simp only [Act.put, List.setIfInBounds_toArray, List.set_cons_zero, List.set_cons_succ])
    | fail)
  refine bodyPost_ret (v := .tuple #[.agg Z, .int .i64 50]) ?_ rfl ⟨rfl, ?_⟩
  · exact results_row_tmp (p := 6) (q := 7) (ty := 23) rfl _ _ g6 23 Z (0, 0) _ rfl HW6.out.row Tryd.underlying23 rfl HSZ.out
  · have e := HM6.out.new
    rw [alloc_size] at e
    exact HW6.out.below w.heap.size w (((Below.refl _ _).alloc (Nat.le_refl _) _).trans (HM6.out.below.mono (by simp))) (by omega)

set_option maxHeartbeats 4000000 in
theorem key_out4 (r n : Int) (w : World) (M Z : Array Value) (HBY : Hid (Tryd.prog.built 23 [] = some Z)) (HA : Hid ((Tryd.prog.info? 23).map (fun i => (i.zero, i.size)) = some (some (.agg Z), Z.size))) (HSZ : Hid ((Tryd.prog.info? 23).map (·.size) = some Z.size)) (H1Z : Hid (Z.all (·.oneCell') = true)) (hd : ¬ r < 1 ∧ ¬ 5 < r ∧ ¬ n < 1 ∧ 3 < n) :
    Calls Tryd.prog 12 #[.agg M, .int .i64 r, .int .i64 n] w fun e w' => e = .returned (.tuple #[.agg Z, .int .i64 50]) ∧ Below w.heap.size w w' := by
  have d1 : decide (r < 1) = false := by rw [decide_eq_false_iff_not]; omega
  have d2 : decide (5 < r) = false := by rw [decide_eq_false_iff_not]; omega
  have d3 : decide (n < 1) = false := by rw [decide_eq_false_iff_not]; omega
  have d4 : decide (3 < n) = true := by rw [decide_eq_true_eq]; omega
  clear hd
  go_enter Tryd.func12, Tryd.ntmps12
  go_wp2_with (first
    | (show wpList _ _ _ ({ dst := some 6, op := _, type := _, pos := _, after := _, guard := _ } :: _) _ _; refine wpList_new_var rfl 23 rfl Z HA.out ?_; intro g6 w1 HM6; try simp only [Act.put, List.setIfInBounds_toArray, List.set_cons_zero, List.set_cons_succ])
    | (show wpList _ _ _ ({ dst := some 23, op := _, type := _, pos := _, after := _, guard := _ } :: _) _ _; refine wpList_build_none rfl 23 rfl Z HBY.out ?_; try simp only [Act.put, List.setIfInBounds_toArray, List.set_cons_zero, List.set_cons_succ])
    | (refine wpList_set_var rfl 23 (.tmp 6) (.tmp 23) rfl g6 Z rfl rfl 23 Z HM6.out.row HSZ.out rfl H1Z.out ?_; intro w2 HW6; try simp only [Act.put, List.setIfInBounds_toArray, List.set_cons_zero, List.set_cons_succ])
    | fail)
  refine bodyPost_ret (v := .tuple #[.agg Z, .int .i64 50]) ?_ rfl ⟨rfl, ?_⟩
  · exact results_row_tmp (p := 6) (q := 7) (ty := 23) rfl _ _ g6 23 Z (0, 0) _ rfl HW6.out.row Tryd.underlying23 rfl HSZ.out
  · have e := HM6.out.new
    rw [alloc_size] at e
    exact HW6.out.below w.heap.size w (((Below.refl _ _).alloc (Nat.le_refl _) _).trans (HM6.out.below.mono (by simp))) (by omega)

set_option maxHeartbeats 8000000 in
theorem key_in (master : List UInt8) (r n : Int) (w : World) (M Ky : Array Value) (HM : Hid (M = (cellsOf master).toArray)) (hm : master.length = 32) (ho : owner r n = true) (hT : TabT w) (HK : Hid (Ky = (cellsOf (keyD master r n)).toArray)) :
    Calls Tryd.prog 12 #[.agg M, .int .i64 r, .int .i64 n] w fun e w' => e = .returned (.tuple #[.agg Ky, .int .i64 0]) ∧ Below w.heap.size w w' := by
  obtain ⟨Z, HZ, HA, H32⟩ := noughtsY
  have hb := (owner_iff r n).1 ho
  have HSM : Hid ((Tryd.prog.info? 23).map (·.size) = some M.size) := by show _ = _; rw [sizeY, HM.out]; simp [cellsOf_length, hm]
  have HSK : Hid ((Tryd.prog.info? 23).map (·.size) = some Ky.size) := by show _ = _; rw [sizeY, HK.out]; simp [cellsOf_length, keyD, macD, sumD_length]
  have H1K : Hid (Ky.all (·.oneCell') = true) := by show _ = _; rw [HK.out]; exact cellsOf_all _
  have HZK : Hid (Z.size = Ky.size) := by show _ = _; rw [H32.out, HK.out]; simp [cellsOf_length, keyD, macD, sumD_length]
  have hw1 : IntKind.u8.wrap r = r := by have := IntKind.wrap_u8' r; omega
  have hw2 : IntKind.u8.wrap n = n := by have := IntKind.wrap_u8' n; omega
  have d1 : decide (r < 1) = false := by rw [decide_eq_false_iff_not]; omega
  have d2 : decide (5 < r) = false := by rw [decide_eq_false_iff_not]; omega
  have d3 : decide (n < 1) = false := by rw [decide_eq_false_iff_not]; omega
  have d4 : decide (3 < n) = false := by rw [decide_eq_false_iff_not]; omega
  obtain ⟨T3, HT3⟩ : ∃ T : Array Value, Hid (T = #[.int .u8 75, .int .u8 r, .int .u8 n]) := ⟨_, (rfl : _ = _)⟩
  obtain ⟨Z3, HZ3, HZZ⟩ : ∃ Z : Array Value, Hid ((Tryd.prog.info? 44).map (fun i => (i.zero, i.size)) = some (some (.agg Z), Z.size)) ∧ Hid (Z.size = 3) := ⟨#[.int .u8 0, .int .u8 0, .int .u8 0], zero3, (rfl : _ = _)⟩
  have HB3 : Hid (Tryd.prog.built 44 [(0, .int .u8 75), (1, .int .u8 r), (2, .int .u8 n)] = some T3) := by show _ = _; rw [HT3.out]; exact built3 r n
  have HS33 : Hid ((Tryd.prog.info? 44).map (·.size) = some T3.size) := by show _ = _; rw [HT3.out]; exact size3
  have HZT : Hid (Z3.size = T3.size) := by show _ = _; rw [HZZ.out, HT3.out]; rfl
  have H1T : Hid (T3.all (·.oneCell') = true) := by show _ = _; rw [HT3.out]; simp [Value.oneCell']
  obtain ⟨s3, HS3⟩ : ∃ s : ByteArray, Hid (s = ⟨#[75, UInt8.ofNat r.toNat, UInt8.ofNat n.toNat]⟩) := ⟨_, (rfl : _ = _)⟩
  have HCV : Hid (∀ (W : World) (g : Nat), W.heap[g]? = some (.cells T3 44 (0, 0)) → (convert 38 9 (.slice (some ⟨g, 0, none⟩) 3 3)).run Tryd.prog W = .ok (.string s3) W) := fun W g h => by rw [HS3.out]; rw [HT3.out] at h; exact conv3 W g r n (by omega) (by omega) _ h
  have C1 : Hid (∀ W, Below w.heap.size w W → Calls Tryd.prog 9 #[.agg M, .string s3] W fun e w' => e = .returned (.agg Ky) ∧ Below W.heap.size W w') := fun W hbw => mac_any master s3 W M Ky HM hm (by rw [HS3.out]; show 3 ≤ 100000; decide) (hT.keep hbw) (by show _ = _; rw [HK.out, HS3.out]; rfl)
  clear hT HK HM HS3 ho hb
  go_enter Tryd.func12, Tryd.ntmps12
  go_wp2_with (first
    | (show wpList _ _ _ ({ dst := some 6, op := _, type := _, pos := _, after := _, guard := _ } :: _) _ _; refine wpList_new_var rfl 23 rfl Z HA.out ?_; intro g6 w1 HM6; try simp only [Act.put, List.setIfInBounds_toArray, List.set_cons_zero, List.set_cons_succ])
    | (show wpList _ _ _ ({ dst := some 28, op := _, type := _, pos := _, after := _, guard := _ } :: _) _ _; refine wpList_build_three rfl 44 _ _ _ rfl T3 _ _ _ rfl rfl rfl HB3.out ?_; try simp only [Act.put, List.setIfInBounds_toArray, List.set_cons_zero, List.set_cons_succ])
    | (show wpList _ _ _ ({ dst := some 8, op := _, type := _, pos := _, after := _, guard := _ } :: _) _ _; refine wpList_new_var rfl 44 rfl Z3 HZ3.out ?_; intro g8 w2 HM8; try simp only [Act.put, List.setIfInBounds_toArray, List.set_cons_zero, List.set_cons_succ])
    | (refine wpList_set_var rfl 44 (.tmp 8) (.tmp 28) rfl g8 T3 rfl rfl 44 Z3 HM8.out.row HS33.out HZT.out H1T.out ?_; intro w3 HW8; try simp only [Act.put, List.setIfInBounds_toArray, List.set_cons_zero, List.set_cons_succ])
    | fail)
  have h6 : w.heap.size < g6 := by have e := HM6.out.new; rw [alloc_size] at e; omega
  have HB1 : Hid (Below w.heap.size w w1) := ((Below.refl _ _).alloc (Nat.le_refl _) _).trans (HM6.out.below.mono (by simp))
  have HX3 := hidk (HW8.out.below w1.heap.size w1 HM8.out.below (Nat.le_of_eq HM8.out.new.symm))
  have HK1 := hidk ((HM6.out.below.block _ (by simp)).trans (heap_alloc_new w (.cells M 23)))
  have HK3 := hidk ((HX3.out.block _ (heap_lt HK1.out)).trans HK1.out)
  have HR6 : Hid (w3.drew.heap[g6]? = some (.cells Z 23 (0, 0))) := (HX3.out.block _ (heap_lt HM6.out.row)).trans HM6.out.row
  have HR8 := hidk HW8.out.row
  have h8 : g6 < g8 := by rw [HM8.out.new]; exact heap_lt HM6.out.row
  have HBc : Hid (Below w.heap.size w w3.drew) := (HB1.out.trans (HX3.out.mono HB1.out.size)).drew
  clear HM6 HM8 HW8 HB1 HX3 HK1
  refine wp_region_held_drew (S := (fun W => W.heap[w.heap.size]? = some (.cells M 23 (0, 0)) ∧ W.heap[g8]? = some (.cells T3 44 (0, 0)))) (by kernel_rfl) ⟨HK3.out, HR8.out⟩ (fun hHeld => ?_)
  refine wpAnyH_take (i := 0) (oi := { dst := some 29, op := Op.load 23 (Operand.tmp 3), type := 23, pos := "tag.go:39", after := #[], guard := none }) (v := .agg M) rfl (by kernel_rfl) (by kernel_rfl) (by kernel_rfl) (fun _ _ _ h => h) (yieldsIf_row (by rfl) 23 (.tmp 3) rfl w.heap.size rfl 23 M (0, 0) _ (fun _ h => h.1) Tryd.underlying23 rfl HSM.out) hHeld ?_
  try simp only [Act.put, List.setIfInBounds_toArray, List.set_cons_zero, List.set_cons_succ]
  refine wpAnyH_take (i := 1) (oi := { dst := some 30, op := Op.slice 44 (Operand.tmp 8) none none none, type := 38, pos := "tag.go:39", after := #[], guard := none }) (v := .slice (some ⟨g8, 0, none⟩) 3 3) rfl (by kernel_rfl) (by kernel_rfl) (by kernel_rfl) (fun _ _ _ h => h) (Or.inl ⟨by rfl, by intro W hSw; go_simp⟩) hHeld ?_
  try simp only [Act.put, List.setIfInBounds_toArray, List.set_cons_zero, List.set_cons_succ]
  refine wpAnyH_take (i := 2) (oi := { dst := some 31, op := Op.convert 38 9 (Operand.tmp 30), type := 9, pos := "tag.go:39", after := #[{ on := 1, ground := Ground.data }], guard := none }) (v := .string s3) rfl (by kernel_rfl) (by kernel_rfl) (by kernel_rfl) (fun _ _ _ h => h) (Or.inl ⟨by rfl, by intro W hSw; have := HCV.out W g8 hSw.2; go_simp⟩) hHeld ?_
  try simp only [Act.put, List.setIfInBounds_toArray, List.set_cons_zero, List.set_cons_succ]
  refine wpAnyH_ready (rs := [3]) (by kernel_rfl) (by simp) ?_
  refine (AllReadyH.cons (o := { dst := some 32, op := Op.call { callee := Callee.value (Operand.func 9), args := #[Operand.tmp 29, Operand.tmp 31], argTypes := #[23, 9] }, type := 24, pos := "tag.go:39", after := #[{ on := 0, ground := Ground.data }, { on := 2, ground := Ground.data }], guard := none }) rfl (fun K hK => ?_) AllReadyH.nil)
  go_simp
  refine (C1.out _ HBc.out).mono ?_
  rintro e w5 ⟨rfl, hbz⟩
  replace HBc := hidk (HBc.out.trans (hbz.mono HBc.out.size))
  replace HR6 := hidk ((hbz.block _ (heap_lt HR6.out)).trans HR6.out)
  go_wp2_with fail
  refine hK.out _ _ ⟨(hbz.block _ (heap_lt hHeld.1)).trans hHeld.1, (hbz.block _ (heap_lt hHeld.2)).trans hHeld.2⟩ (fun hHeld => ?_)
  clear hK K
  try simp only [Act.put, List.setIfInBounds_toArray, List.set_cons_zero, List.set_cons_succ]
  refine wpAnyH_ready (rs := [4]) (by kernel_rfl) (by simp) ?_
  refine (AllReadyH.cons (o := { dst := none, op := Op.store 23 (Operand.tmp 6) (Operand.tmp 32), type := 0, pos := "tag.go:39", after := #[{ on := 3, ground := Ground.data }, { on := 3, ground := Ground.chain }, { on := 0, ground := Ground.phase }, { on := 1, ground := Ground.phase }, { on := 2, ground := Ground.phase }, { on := 3, ground := Ground.phase }], guard := none }) rfl (fun K hK => ?_) AllReadyH.nil)
  refine step_set_var (by rfl) 23 (.tmp 6) (.tmp 32) rfl g6 Ky rfl rfl 23 Z HR6.out HSK.out HZK.out H1K.out ?_
  intro wz HW6
  refine hK.out _ _ ⟨(HW6.out.other w.heap.size (by omega)).trans hHeld.1, (HW6.out.other g8 (by omega)).trans hHeld.2⟩ (fun hHeld => ?_)
  clear hK K
  try simp only [Act.put, List.setIfInBounds_toArray, List.set_cons_zero, List.set_cons_succ]
  refine wpAnyH_take (i := 5) (oi := { dst := some 7, op := Op.assign (Operand.const (Value.int IntKind.i64 0)), type := 29, pos := "tag.go:39", after := #[{ on := 4, ground := Ground.chain }, { on := 0, ground := Ground.phase }, { on := 1, ground := Ground.phase }, { on := 2, ground := Ground.phase }, { on := 3, ground := Ground.phase }, { on := 4, ground := Ground.phase }], guard := none }) (v := .int .i64 0) rfl (by kernel_rfl) (by kernel_rfl) (by kernel_rfl) (fun _ _ _ h => h) (Or.inl ⟨by rfl, by intro W hSw; go_simp⟩) hHeld ?_
  try simp only [Act.put, List.setIfInBounds_toArray, List.set_cons_zero, List.set_cons_succ]
  refine wpAnyH_done (by kernel_rfl) ?_ _
  go_wp2
  refine bodyPost_ret (v := .tuple #[.agg Ky, .int .i64 0]) ?_ rfl ⟨rfl, HW6.out.below w.heap.size w HBc.out (by omega)⟩
  exact results_row_tmp (p := 6) (q := 7) (ty := 23) rfl _ _ g6 23 Ky (0, 0) _ rfl HW6.out.row Tryd.underlying23 rfl HSK.out

theorem key_any (master : List UInt8) (r n : Int) (w : World) (M Ky : Array Value) (HM : Hid (M = (cellsOf master).toArray)) (hm : master.length = 32) (hT : TabT w) (HK : Hid (Ky = (cellsOf (keyO master r n)).toArray)) :
    Calls Tryd.prog 12 #[.agg M, .int .i64 r, .int .i64 n] w fun e w' => e = .returned (.tuple #[.agg Ky, .int .i64 (keyE r n)]) ∧ Below w.heap.size w w' := by
  by_cases ho : owner r n = true
  · rw [show keyE r n = 0 by unfold keyE; rw [if_pos ho]]
    rw [keyO_in _ _ _ ho] at HK
    exact key_in master r n w M Ky HM hm ho hT HK
  · rw [show keyE r n = 50 by unfold keyE; rw [if_neg ho]]
    rw [keyO_out _ _ _ ho] at HK
    obtain ⟨Z, HZ, HA, H32⟩ := noughtsY
    obtain rfl : Ky = Z := by rw [HK.out, HZ.out]
    have HBY : Hid (Tryd.prog.built 23 [] = some Ky) := by show _ = _; rw [HZ.out]; exact builtY
    have HSZ : Hid ((Tryd.prog.info? 23).map (·.size) = some Ky.size) := by show _ = _; rw [sizeY, H32.out]
    have H1Z : Hid (Ky.all (·.oneCell') = true) := by show _ = _; rw [HZ.out]; exact cellsOf_all _
    have h := fun q => ho ((owner_iff r n).2 q)
    by_cases h1 : r < 1
    · exact key_out1 r n w M Ky HBY HA HSZ H1Z h1
    by_cases h2 : 5 < r
    · exact key_out2 r n w M Ky HBY HA HSZ H1Z ⟨h1, h2⟩
    by_cases h3 : n < 1
    · exact key_out3 r n w M Ky HBY HA HSZ H1Z ⟨h1, h2, h3⟩
    by_cases h4 : 3 < n
    · exact key_out4 r n w M Ky HBY HA HSZ H1Z ⟨h1, h2, h3, h4⟩
    exact absurd ⟨by omega, by omega, by omega, by omega⟩ h
end Go.Proofs.YtkmndchbmbhlhaaDoor
