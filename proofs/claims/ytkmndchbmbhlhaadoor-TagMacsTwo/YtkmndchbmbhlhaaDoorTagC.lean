/- What the calls of package tag answer, as the document says (their proofs are of one commit of the code); the statements' own example over them. -/
import Derived.Test.YtkmndchbmbhlhaaDoorLaws6
import Derived.Test.YtkmndchbmbhlhaaDoorMacs
import Derived.Test.YtkmndchbmbhlhaaDoorHex
namespace Go.Proofs.YtkmndchbmbhlhaaDoor
open Go.RowKit Sums Digs
set_option linter.unusedVariables false
set_option linter.unusedSimpArgs false

/-- The tables that tag reads. -/
def TabT (w : World) : Prop := Table 0 w
theorem TabT.keep {w w' : World} (h : TabT w) (hb : Below w.heap.size w w') : TabT w' := Table.keep h hb
theorem TabT.sha {w : World} (h : TabT w) : Table 0 w := h

/-- What the calls of package tag answer. -/
structure TagC : Prop where
  mac : ∀ (key : List UInt8) (s : ByteArray) (w : World) (K D : Array Value) (HK : Hid (K = (cellsOf key).toArray)) (hk : key.length = 32) (hs : s.size ≤ 100000) (hT : TabT w) (HD : Hid (D = (cellsOf (macD key s.data.toList)).toArray)),
    Calls Tryd.prog 9 #[.agg K, .string s] w fun e w' => e = .returned (.agg D) ∧ Below w.heap.size w w'
  same : ∀ (a b : List UInt8) (w : World) (A B : Array Value) (HA : Hid (A = (cellsOf a).toArray)) (HB : Hid (B = (cellsOf b).toArray)) (ha : a.length = 32) (hb : b.length = 32),
    Calls Tryd.prog 11 #[.agg A, .agg B] w fun e w' => e = .returned (.bool (decide (a = b))) ∧ Below w.heap.size w w'
  key : ∀ (master : List UInt8) (r n : Int) (w : World) (M K : Array Value) (HM : Hid (M = (cellsOf master).toArray)) (hm : master.length = 32) (hr : -9223372036854775808 ≤ r ∧ r ≤ 9223372036854775807) (hn : -9223372036854775808 ≤ n ∧ n ≤ 9223372036854775807) (hT : TabT w) (HK : Hid (K = (cellsOf (keyO master r n)).toArray)),
    Calls Tryd.prog 12 #[.agg M, .int .i64 r, .int .i64 n] w fun e w' => e = .returned (.tuple #[.agg K, .int .i64 (keyE r n)]) ∧ Below w.heap.size w w'
  holds : ∀ (master : List UInt8) (r n : Int) (s : ByteArray) (t : List UInt8) (w : World) (M U : Array Value) (HM : Hid (M = (cellsOf master).toArray)) (HU : Hid (U = (cellsOf t).toArray)) (hm : master.length = 32) (ht : t.length = 32) (hr : -9223372036854775808 ≤ r ∧ r ≤ 9223372036854775807) (hn : -9223372036854775808 ≤ n ∧ n ≤ 9223372036854775807) (hs : s.size ≤ 100000) (hT : TabT w),
    Calls Tryd.prog 15 #[.agg M, .int .i64 r, .int .i64 n, .string s, .agg U] w fun e w' => e = .returned (.int .i64 (holdE master r n s.data.toList t)) ∧ Below w.heap.size w w'

theorem builtY : Tryd.prog.built 23 [] = some (cellsOf (List.replicate 32 0)).toArray := by kernel_rfl
theorem hex_none : (⟨(hexL (macD (List.replicate 32 0) [])).toArray⟩ : ByteArray) = ⟨#[98, 54, 49, 51, 54, 55, 57, 97, 48, 56, 49, 52, 100, 57, 101, 99, 55, 55, 50, 102, 57, 53, 100, 55, 55, 56, 99, 51, 53, 102, 99, 53, 102, 102, 49, 54, 57, 55, 99, 52, 57, 51, 55, 49, 53, 54, 53, 51, 99, 54, 99, 55, 49, 50, 49, 52, 52, 50, 57, 50, 99, 53, 97, 100]⟩ := by rw [mac_none]; decide +kernel
set_option maxHeartbeats 2000000 in
set_option maxRecDepth 100000 in
theorem macs_true (ck : TagC) (w : World) (hT : TabT w) : Calls Tryd.prog 8 #[] w fun e w' => e = .returned (.bool true) ∧ Below w.heap.size w w' := by
  obtain ⟨Z, HZ, HA, H32⟩ := noughtsY
  have HBY : Hid (Tryd.prog.built 23 [] = some Z) := by show _ = _; rw [HZ.out]; exact builtY
  have hzl : (List.replicate 32 (0 : UInt8)).length = 32 := rfl
  obtain ⟨K3, HK3, HS3, H13, H323⟩ := key_row (keyO (List.replicate 32 0) 5 3) (keyO_length sumD_length _ _ _)
  obtain ⟨D, HD, HSD, H1D, H32D⟩ := dig_row' (macD (List.replicate 32 0) []) (sumD_length _)
  have HSZ : Hid ((Tryd.prog.info? 23).map (·.size) = some Z.size) := by show _ = _; rw [sizeY, H32.out]
  have H1Z : Hid (Z.all (·.oneCell') = true) := by show _ = _; rw [HZ.out]; exact cellsOf_all _
  have HZ3 : Hid (Z.size = K3.size) := by show _ = _; rw [H32.out, H323.out]
  have C1 : Hid (∀ W, Below w.heap.size w W → Calls Tryd.prog 12 #[.agg Z, .int .i64 0, .int .i64 1] W fun e w' => e = .returned (.tuple #[.agg Z, .int .i64 50]) ∧ Below W.heap.size W w') := fun W hb => ck.key _ 0 1 W Z Z HZ hzl (by decide) (by decide) (hT.keep hb) (by rw [keyO_out _ _ _ (by decide)]; exact HZ)
  have C2 : Hid (∀ W, Below w.heap.size w W → Calls Tryd.prog 12 #[.agg Z, .int .i64 1, .int .i64 4] W fun e w' => e = .returned (.tuple #[.agg Z, .int .i64 50]) ∧ Below W.heap.size W w') := fun W hb => ck.key _ 1 4 W Z Z HZ hzl (by decide) (by decide) (hT.keep hb) (by rw [keyO_out _ _ _ (by decide)]; exact HZ)
  have C3 : Hid (∀ W, Below w.heap.size w W → Calls Tryd.prog 12 #[.agg Z, .int .i64 5, .int .i64 3] W fun e w' => e = .returned (.tuple #[.agg K3, .int .i64 0]) ∧ Below W.heap.size W w') := fun W hb => ck.key _ 5 3 W Z K3 HZ hzl (by decide) (by decide) (hT.keep hb) HK3
  have C4 : Hid (∀ W, Below w.heap.size w W → Calls Tryd.prog 9 #[.agg Z, .string ⟨#[]⟩] W fun e w' => e = .returned (.agg D) ∧ Below W.heap.size W w') := fun W hb => ck.mac _ ⟨#[]⟩ W Z D HZ hzl (by decide) (hT.keep hb) HD
  have C5 : Hid (∀ W, Calls Tryd.prog 18 #[.agg D] W fun e w' => e = .returned (.string ⟨#[98, 54, 49, 51, 54, 55, 57, 97, 48, 56, 49, 52, 100, 57, 101, 99, 55, 55, 50, 102, 57, 53, 100, 55, 55, 56, 99, 51, 53, 102, 99, 53, 102, 102, 49, 54, 57, 55, 99, 52, 57, 51, 55, 49, 53, 54, 53, 51, 99, 54, 99, 55, 49, 50, 49, 52, 52, 50, 57, 50, 99, 53, 97, 100]⟩) ∧ Below W.heap.size W w') := fun W => by
    have := hex_any (macD (List.replicate 32 0) []) (sumD_length _) W
    rw [hex_none] at this
    rw [HD.out]
    exact this
  clear hT HZ HD HK3
  go_enter Tryd.func8, Tryd.ntmps8
  go_wp2_with (first
    | (show wpList _ _ _ ({ dst := some 8, op := _, type := _, pos := _, after := _, guard := _ } :: _) _ _; refine wpList_build_none rfl 23 rfl Z HBY.out ?_; try simp only [Act.put, List.setIfInBounds_toArray, List.set_cons_zero, List.set_cons_succ])
    | fail)
  refine (C1.out _ (Below.refl _ _)).mono ?_
  rintro e w1 ⟨rfl, hb1⟩
  have HB1 := hidk hb1
  clear hb1 C1
  go_wp2_with (first
    | (show wpList _ _ _ ({ dst := some 1, op := _, type := _, pos := _, after := _, guard := _ } :: _) _ _; refine wpList_new_var rfl 23 rfl Z HA.out ?_; intro g1 w2 HM1; try simp only [Act.put, List.setIfInBounds_toArray, List.set_cons_zero, List.set_cons_succ])
    | (refine wpList_set_var rfl 23 (.tmp 1) (.tmp 10) rfl g1 Z rfl rfl 23 Z HM1.out.row HSZ.out rfl H1Z.out ?_; intro w3 HW1; try simp only [Act.put, List.setIfInBounds_toArray, List.set_cons_zero, List.set_cons_succ])
    | (show wpList _ _ _ ({ dst := some 13, op := _, type := _, pos := _, after := _, guard := _ } :: _) _ _; refine wpList_build_none rfl 23 rfl Z HBY.out ?_; try simp only [Act.put, List.setIfInBounds_toArray, List.set_cons_zero, List.set_cons_succ])
    | fail)
  have HB3 := hidk (HW1.out.below w.heap.size w (HB1.out.trans (HM1.out.below.mono HB1.out.size)) (by rw [HM1.out.new]; exact HB1.out.size))
  clear HM1 HW1 HB1
  refine (C2.out _ HB3.out).mono ?_
  rintro e w4 ⟨rfl, hb4⟩
  have HB4 := hidk (HB3.out.trans (hb4.mono HB3.out.size))
  clear hb4 C2 HB3
  go_wp2_with (first
    | (show wpList _ _ _ ({ dst := some 3, op := _, type := _, pos := _, after := _, guard := _ } :: _) _ _; refine wpList_new_var rfl 23 rfl Z HA.out ?_; intro g3 w5 HM3; try simp only [Act.put, List.setIfInBounds_toArray, List.set_cons_zero, List.set_cons_succ])
    | (refine wpList_set_var rfl 23 (.tmp 3) (.tmp 15) rfl g3 Z rfl rfl 23 Z HM3.out.row HSZ.out rfl H1Z.out ?_; intro w6 HW3; try simp only [Act.put, List.setIfInBounds_toArray, List.set_cons_zero, List.set_cons_succ])
    | (show wpList _ _ _ ({ dst := some 18, op := _, type := _, pos := _, after := _, guard := _ } :: _) _ _; refine wpList_build_none rfl 23 rfl Z HBY.out ?_; try simp only [Act.put, List.setIfInBounds_toArray, List.set_cons_zero, List.set_cons_succ])
    | fail)
  have HB6 := hidk (HW3.out.below w.heap.size w (HB4.out.trans (HM3.out.below.mono HB4.out.size)) (by rw [HM3.out.new]; exact HB4.out.size))
  clear HM3 HW3 HB4
  refine (C3.out _ HB6.out).mono ?_
  rintro e w7 ⟨rfl, hb7⟩
  have HB7 := hidk (HB6.out.trans (hb7.mono HB6.out.size))
  clear hb7 C3 HB6
  go_wp2_with (first
    | (show wpList _ _ _ ({ dst := some 5, op := _, type := _, pos := _, after := _, guard := _ } :: _) _ _; refine wpList_new_var rfl 23 rfl Z HA.out ?_; intro g5 w8 HM5; try simp only [Act.put, List.setIfInBounds_toArray, List.set_cons_zero, List.set_cons_succ])
    | (refine wpList_set_var rfl 23 (.tmp 5) (.tmp 20) rfl g5 K3 rfl rfl 23 Z HM5.out.row HS3.out HZ3.out H13.out ?_; intro w9 HW5; try simp only [Act.put, List.setIfInBounds_toArray, List.set_cons_zero, List.set_cons_succ])
    | (show wpList _ _ _ ({ dst := some 22, op := _, type := _, pos := _, after := _, guard := _ } :: _) _ _; refine wpList_build_none rfl 23 rfl Z HBY.out ?_; try simp only [Act.put, List.setIfInBounds_toArray, List.set_cons_zero, List.set_cons_succ])
    | fail)
  have HB9 := hidk (HW5.out.below w.heap.size w (HB7.out.trans (HM5.out.below.mono HB7.out.size)) (by rw [HM5.out.new]; exact HB7.out.size))
  clear HM5 HW5 HB7
  refine (C4.out _ HB9.out).mono ?_
  rintro e wa ⟨rfl, hba⟩
  have HBa := hidk (HB9.out.trans (hba.mono HB9.out.size))
  clear hba C4 HB9
  go_wp2_with fail
  refine (C5.out _).mono ?_
  rintro e wb ⟨rfl, hbb⟩
  have HBb := hidk (HBa.out.trans (hbb.mono HBa.out.size))
  clear hbb C5 HBa
  go_wp2
  go_ret
  exact ⟨rfl, HBb.out⟩
end Go.Proofs.YtkmndchbmbhlhaaDoor
