/- What TagHolds says of any input, over what the calls of package tag answer. -/
import Derived.Test.YtkmndchbmbhlhaaDoorTagC
namespace Go.Proofs.YtkmndchbmbhlhaaDoor
open Go.RowKit Sums
set_option linter.unusedVariables false
set_option linter.unusedSimpArgs false

/-- A byte of a digest that is turned. -/
def turnD (t : List UInt8) (i : Nat) (b : UInt8) : List UInt8 := t.set i ((t.getD i 0) ^^^ b)
theorem turnD_length (t : List UInt8) (i : Nat) (b : UInt8) : (turnD t i b).length = t.length := by unfold turnD; simp
theorem turnD_zero (t : List UInt8) (i : Nat) (hi : i < t.length) : turnD t i 0 = t := by
  unfold turnD
  rw [UInt8.xor_zero]
  apply List.ext_getElem? 
  intro j
  rw [List.getElem?_set]
  by_cases h : i = j
  · subst h; rw [if_pos rfl, if_pos hi]; simp [List.getD, List.getElem?_eq_getElem hi]
  · rw [if_neg h]
theorem turnD_apart (t : List UInt8) (i : Nat) (b : UInt8) (hi : i < t.length) (hb : b ≠ 0) : t ≠ turnD t i b := by
  intro e
  have h : t[i]? = (turnD t i b)[i]? := by rw [← e]
  unfold turnD at h
  rw [List.getElem?_set, if_pos rfl, if_pos hi, List.getElem?_eq_getElem hi, Option.some.injEq] at h
  have h2 : t.getD i 0 = t[i] := by simp [List.getD, List.getElem?_eq_getElem hi]
  rw [h2] at h
  apply hb
  have h3 : t[i] ^^^ t[i] = t[i] ^^^ (t[i] ^^^ b) := by rw [← h]
  rw [← UInt8.xor_assoc, UInt8.xor_self, UInt8.zero_xor] at h3
  exact h3.symm
theorem turnD_cells (t : List UInt8) (i : Nat) (b : UInt8) (hi : i < t.length) (D : Array Value) (HD : Hid (D = (cellsOf t).toArray)) : D.setIfInBounds i (.int .u8 ((t.getD i 0 ^^^ b).toNat : Int)) = (cellsOf (turnD t i b)).toArray := by
  rw [HD.out]
  unfold turnD cellsOf
  rw [List.setIfInBounds_toArray, List.map_set]

set_option maxHeartbeats 8000000 in
theorem tagHolds_of (ck : TagC) (z0 : List UInt8) (a1 a2 : Int) (a3 : ByteArray) (a4 a5 : Int) (w : World) (w0 : z0.length = 32) (w1 : (Lit.int .i64 a1).wf = true) (w2 : (Lit.int .i64 a2).wf = true) (w3 : a3.size ≤ maxLen) (w4 : (Lit.int .i64 a4).wf = true) (w5 : (Lit.int .u8 a5).wf = true) (hT : TabT w) :
    Calls Tryd.prog 5 #[digV z0, .int .i64 a1, .int .i64 a2, .string a3, .int .i64 a4, .int .u8 a5] w fun e w' => e = .returned (.bool true) ∧ Below w.heap.size w w' := by
  unfold digV
  have b1 := bounds_i64 w1
  have b2 := bounds_i64 w2
  have b4 := bounds_i64 w4
  have b5 := bounds_u8 w5
  obtain ⟨M, HM, HSM, H1M, H32M⟩ := key_row z0 w0
  rw [← HM.out]
  have HB : Hid (Below w.heap.size w (w.alloc (.cells M 23)) ∧ (w.alloc (.cells M 23)).heap[w.heap.size]? = some (.cells M 23 (0, 0))) := ⟨(Below.refl _ _).alloc (Nat.le_refl _) _, heap_alloc_new w _⟩
  have hml : a3.size ≤ 9223372036854775807 := by unfold maxLen at w3; omega
  by_cases hlen : 16384 < a3.size
  · have d0 : decide (16384 < (a3.size : Int)) = true := by rw [decide_eq_true_eq]; omega
    have d0' : decide (16384 < a3.size) = true := by rw [decide_eq_true_eq]; omega
    clear hlen
    go_enter Tryd.func5, Tryd.ntmps5
    go_wp2
    go_ret
    exact ⟨rfl, HB.out.1⟩
  have d0 : decide (16384 < (a3.size : Int)) = false := by rw [decide_eq_false_iff_not]; omega
  have d0' : decide (16384 < a3.size) = false := by rw [decide_eq_false_iff_not]; omega
  have hle : a3.size ≤ 100000 := by omega
  by_cases h4n : a4 < 0
  · have d4 : decide (a4 < 0) = true := by rw [decide_eq_true_eq]; exact h4n
    clear h4n
    go_enter Tryd.func5, Tryd.ntmps5
    go_wp2
    go_ret
    exact ⟨rfl, HB.out.1⟩
  have d4 : decide (a4 < 0) = false := by rw [decide_eq_false_iff_not]; exact h4n
  by_cases h4b : 32 ≤ a4
  · have d5 : decide (32 ≤ a4) = true := by rw [decide_eq_true_eq]; exact h4b
    clear h4n h4b
    go_enter Tryd.func5, Tryd.ntmps5
    go_wp2
    go_ret
    exact ⟨rfl, HB.out.1⟩
  obtain ⟨A, rfl⟩ : ∃ A : Nat, a4 = A := ⟨a4.toNat, by omega⟩
  have hA : A < 32 := by omega
  have d5 : decide (32 ≤ (A : Int)) = false := by rw [decide_eq_false_iff_not]; exact h4b
  have d5' : decide (32 ≤ A) = false := by rw [decide_eq_false_iff_not]; omega
  clear h4n h4b d4 b4 w4
  have d4 : decide ((A : Int) < 0) = false := by rw [decide_eq_false_iff_not]; omega
  obtain ⟨bv, rfl⟩ : ∃ bv : UInt8, a5 = (bv.toNat : Int) := ⟨UInt8.ofNat a5.toNat, by rw [UInt8.toNat_ofNat']; omega⟩
  obtain ⟨Z, HZ, HA, H32⟩ := noughtsY
  obtain ⟨ZD, HZD, HAD, HSZD, H1ZD, H32D⟩ := noughts27
  obtain ⟨K, HK, HSK, H1K, H32K⟩ := key_row (keyO z0 a1 a2) (keyO_length sumD_length _ _ _)
  have HZK : Hid (Z.size = K.size) := by show _ = _; rw [H32.out, H32K.out]
  obtain ⟨t, Ht⟩ : ∃ t, Hid (t = macD (keyO z0 a1 a2) a3.data.toList) := ⟨_, (rfl : _ = _)⟩
  have ht32 : t.length = 32 := by rw [Ht.out]; exact sumD_length _
  obtain ⟨D, HD, HSD, H1D, H32DD⟩ := dig_row' t ht32
  have HZDD : Hid (ZD.size = D.size) := by show _ = _; rw [H32D.out, H32DD.out]
  have C0 : Hid (∀ W, Below w.heap.size w W → Calls Tryd.prog 8 #[] W fun e w' => e = .returned (.bool true) ∧ Below W.heap.size W w') := fun W hb => macs_true ck W (hT.keep hb)
  have C2 : Hid (∀ W, Below w.heap.size w W → Calls Tryd.prog 9 #[.agg K, .string a3] W fun e w' => e = .returned (.agg D) ∧ Below W.heap.size W w') := fun W hb => ck.mac _ a3 W K D HK (keyO_length sumD_length _ _ _) hle (hT.keep hb) (by rw [← Ht.out]; exact HD)
  by_cases ho : owner a1 a2 = true
  · have hE : keyE a1 a2 = 0 := by unfold keyE; rw [if_pos ho]
    have C1 : Hid (∀ W, Below w.heap.size w W → Calls Tryd.prog 12 #[.agg M, .int .i64 a1, .int .i64 a2] W fun e w' => e = .returned (.tuple #[.agg K, .int .i64 0]) ∧ Below W.heap.size W w') := fun W hb => by rw [← hE]; exact ck.key z0 a1 a2 W M K HM w0 b1 b2 (hT.keep hb) HK
    have hold : ∀ x, holdE z0 a1 a2 a3.data.toList x = if t = x then 0 else 72 := fun x => by rw [holdE_in _ _ _ _ _ ho, ← keyO_in _ _ _ ho, ← Ht.out]
    have C3 : Hid (∀ W, Below w.heap.size w W → Calls Tryd.prog 15 #[.agg M, .int .i64 a1, .int .i64 a2, .string a3, .agg D] W fun e w' => e = .returned (.int .i64 0) ∧ Below W.heap.size W w') := fun W hb => by
      have := ck.holds z0 a1 a2 a3 t W M D HM HD w0 ht32 b1 b2 hle (hT.keep hb)
      rwa [hold t, if_pos rfl] at this
    have hu32 : (turnD t A bv).length = 32 := by rw [turnD_length]; exact ht32
    obtain ⟨V, HV, HSV, H1V, H32V⟩ := dig_row' (turnD t A bv) hu32
    obtain ⟨F, hF⟩ : ∃ F : Int, (if t = turnD t A bv then (0 : Int) else 72) = F := ⟨_, rfl⟩
    obtain ⟨bb, hbb⟩ : ∃ b, decide (t = turnD t A bv) = b := ⟨_, rfl⟩
    have C4 : Hid (∀ W, Below w.heap.size w W → Calls Tryd.prog 15 #[.agg M, .int .i64 a1, .int .i64 a2, .string a3, .agg V] W fun e w' => e = .returned (.int .i64 F) ∧ Below W.heap.size W w') := fun W hb => by
      have := ck.holds z0 a1 a2 a3 (turnD t A bv) W M V HM HV w0 hu32 b1 b2 hle (hT.keep hb)
      rwa [hold (turnD t A bv), hF] at this
    have C5 : Hid (∀ W, Calls Tryd.prog 11 #[.agg D, .agg V] W fun e w' => e = .returned (.bool bb) ∧ Below W.heap.size W w') := fun W => by rw [← hbb]; exact ck.same t (turnD t A bv) W D V HD HV ht32 hu32
    obtain ⟨x, Hx⟩ : ∃ x : UInt8, Hid (x = t.getD A 0) := ⟨_, (rfl : _ = _)⟩
    obtain ⟨y, Hy⟩ : ∃ y : UInt8, Hid (y = x ^^^ bv) := ⟨_, (rfl : _ = _)⟩
    have hxr : bits .xor .u8 (x.toNat : Int) (bv.toNat : Int) = (y.toNat : Int) := by rw [xor8, Hy.out]
    have HDA : Hid (D[A]? = some (.int .u8 (x.toNat : Int))) := by
      show _ = _
      rw [HD.out, Hx.out, List.getElem?_toArray, cellsOf_at t A (by omega)]
      simp [List.getD, List.getElem?_eq_getElem (show A < t.length by omega)]
    have HDV : Hid (D.setIfInBounds A (.int .u8 (y.toNat : Int)) = V) := by
      show _ = _
      rw [HV.out, Hy.out, Hx.out]
      exact turnD_cells t A bv (by omega) D HD
    have HCASE : Hid ((bv = 0 ∧ F = 0 ∧ bb = true) ∨ (bv ≠ 0 ∧ F = 72 ∧ bb = false)) := by
      by_cases hv0 : bv = 0
      · left
        have e := turnD_zero t A (by omega)
        rw [hv0] at hF hbb ⊢
        rw [e] at hF hbb
        exact ⟨rfl, by rw [← hF, if_pos rfl], by rw [← hbb]; simp⟩
      · right
        have e := turnD_apart t A bv (by omega) hv0
        exact ⟨hv0, by rw [← hF, if_neg e], by rw [← hbb]; simp [e]⟩
    clear hT HM HK HV HD Ht hF hbb ho hE hold hlen w1 w2 w3 w5 b5 Hx Hy HZ HZD
    go_enter Tryd.func5, Tryd.ntmps5
    go_wp2_with (first
      | (show wpList _ _ _ ({ dst := some 30, op := _, type := _, pos := _, after := _, guard := _ } :: _) _ _; refine wpList_load_row rfl 23 (.tmp 6) rfl w.heap.size rfl 23 M (0, 0) _ HB.out.2 Tryd.underlying23 rfl HSM.out ?_; try simp only [Act.put, List.setIfInBounds_toArray, List.set_cons_zero, List.set_cons_succ])
      | fail)
    refine (C1.out _ HB.out.1).mono ?_
    rintro e w1 ⟨rfl, hb1⟩
    have HB1 := hidk (HB.out.1.trans (hb1.mono HB.out.1.size))
    have HRM1 := hidk ((hb1.block _ (heap_lt HB.out.2)).trans HB.out.2)
    clear hb1 HB C1
    go_wp2_with (first
      | (show wpList _ _ _ ({ dst := some 13, op := _, type := _, pos := _, after := _, guard := _ } :: _) _ _; refine wpList_new_var rfl 23 rfl Z HA.out ?_; intro g13 w2 HM13; try simp only [Act.put, List.setIfInBounds_toArray, List.set_cons_zero, List.set_cons_succ])
      | (refine wpList_set_var rfl 23 (.tmp 13) (.tmp 34) rfl g13 K rfl rfl 23 Z HM13.out.row HSK.out HZK.out H1K.out ?_; intro w3 HW13; try simp only [Act.put, List.setIfInBounds_toArray, List.set_cons_zero, List.set_cons_succ])
      | (show wpList _ _ _ ({ dst := some 36, op := _, type := _, pos := _, after := _, guard := _ } :: _) _ _; refine wpList_load_row rfl 23 (.tmp 13) rfl g13 rfl 23 K (0, 0) _ HW13.out.row Tryd.underlying23 rfl HSK.out ?_; try simp only [Act.put, List.setIfInBounds_toArray, List.set_cons_zero, List.set_cons_succ])
      | fail)
    have hg13 : w1.heap.size = g13 := HM13.out.new.symm
    have hl1 := heap_lt HRM1.out
    have HX3 := hidk (HW13.out.below w1.heap.size w1 HM13.out.below (by omega))
    have HB3 := hidk (HB1.out.trans (HX3.out.mono HB1.out.size))
    have HRM3 := hidk ((HX3.out.block _ hl1).trans HRM1.out)
    clear HM13 HW13 HX3 HB1 HRM1 hg13
    refine (C2.out _ HB3.out).mono ?_
    rintro e w3b ⟨rfl, hb3⟩
    have HB3b := hidk (HB3.out.trans (hb3.mono HB3.out.size))
    have HRM3b := hidk ((hb3.block _ (heap_lt HRM3.out)).trans HRM3.out)
    clear hb3 HB3 HRM3 C2
    go_wp2_with (first
      | (show wpList _ _ _ ({ dst := some 15, op := _, type := _, pos := _, after := _, guard := _ } :: _) _ _; refine wpList_new_var rfl 24 rfl ZD HAD.out ?_; intro g15 w4a HM15; try simp only [Act.put, List.setIfInBounds_toArray, List.set_cons_zero, List.set_cons_succ])
      | (refine wpList_set_var rfl 24 (.tmp 15) (.tmp 38) rfl g15 D rfl rfl 24 ZD HM15.out.row HSD.out HZDD.out H1D.out ?_; intro w4 HW15; try simp only [Act.put, List.setIfInBounds_toArray, List.set_cons_zero, List.set_cons_succ])
      | (show wpList _ _ _ ({ dst := some 51, op := _, type := _, pos := _, after := _, guard := _ } :: _) _ _; refine wpList_load_row rfl 24 (.tmp 15) rfl g15 rfl 24 D (0, 0) _ HW15.out.row Tryd.underlying24 rfl HSD.out ?_; try simp only [Act.put, List.setIfInBounds_toArray, List.set_cons_zero, List.set_cons_succ])
      | (show wpList _ _ _ ({ dst := some 16, op := _, type := _, pos := _, after := _, guard := _ } :: _) _ _; refine wpList_new_var rfl 24 rfl ZD HAD.out ?_; intro g16 w5 HM16; try simp only [Act.put, List.setIfInBounds_toArray, List.set_cons_zero, List.set_cons_succ])
      | (refine wpList_set_var rfl 24 (.tmp 16) (.tmp 51) rfl g16 D rfl rfl 24 ZD HM16.out.row HSD.out HZDD.out H1D.out ?_; intro w6 HW16; have hc6 : w6.cell? ⟨g16, A, none⟩ = some (.int .u8 (x.toNat : Int)) := by { rw [cell_of_row w6 g16 A _ 24 (0, 0) HW16.out.row]; exact HDA.out }; have hf6 : w6.frozen? ⟨g16, A, none⟩ = false := frozen_of_row w6 g16 A _ 24 HW16.out.row; have HR16 := hidk HW16.out.row; have hlm := heap_lt HRM3b.out; have hg15 : w3b.heap.size ≤ g15 := Nat.le_of_eq HM15.out.new.symm; have hg16 : g15 < g16 := by { rw [HM16.out.new]; exact heap_lt HW15.out.row }; have HX4 := hidk (HW15.out.below w3b.heap.size w3b HM15.out.below hg15); have HB4 := hidk (HB3b.out.trans (HX4.out.mono HB3b.out.size)); have HRM4 := hidk ((HX4.out.block _ hlm).trans HRM3b.out); have HX6 := hidk (HW16.out.below w4.heap.size w4 HM16.out.below (Nat.le_of_eq HM16.out.new.symm)); have HB6 := hidk (HB4.out.trans (HX6.out.mono HB4.out.size)); have HRM6 := hidk ((HX6.out.block _ (heap_lt HRM4.out)).trans HRM4.out); have HR156 := hidk ((HX6.out.block _ (heap_lt HW15.out.row)).trans HW15.out.row); have HR16b : Hid ((w6.setCell ⟨g16, A, none⟩ (.int .u8 (y.toNat : Int))).heap[g16]? = some (.cells V 24 (0, 0))) := by { show _ = _; rw [heap_setCell_same w6 g16 A _ 24 _ HR16.out, HDV.out] }; have HR15b : Hid ((w6.setCell ⟨g16, A, none⟩ (.int .u8 (y.toNat : Int))).heap[g15]? = some (.cells D 24 (0, 0))) := by { show _ = _; rw [Below.heap_setCell _ _ _ _ (by show g15 ≠ g16; omega)]; exact HR156.out }; have HRMb : Hid ((w6.setCell ⟨g16, A, none⟩ (.int .u8 (y.toNat : Int))).heap[w.heap.size]? = some (.cells M 23 (0, 0))) := by { show _ = _; rw [Below.heap_setCell _ _ _ _ (by show w.heap.size ≠ g16; omega)]; exact HRM6.out }; have HBb : Hid (Below w.heap.size w (w6.setCell ⟨g16, A, none⟩ (.int .u8 (y.toNat : Int)))) := HB6.out.setCell (by show w.heap.size ≤ g16; omega) _; try simp only [Act.put, List.setIfInBounds_toArray, List.set_cons_zero, List.set_cons_succ])
      | (show wpList _ _ _ ({ dst := some 59, op := _, type := _, pos := _, after := _, guard := _ } :: _) _ _; refine wpList_load_row rfl 23 (.tmp 6) rfl w.heap.size rfl 23 M (0, 0) _ HRMb.out Tryd.underlying23 rfl HSM.out ?_; try simp only [Act.put, List.setIfInBounds_toArray, List.set_cons_zero, List.set_cons_succ])
      | (show wpList _ _ _ ({ dst := some 63, op := _, type := _, pos := _, after := _, guard := _ } :: _) _ _; refine wpList_load_row rfl 24 (.tmp 16) rfl g16 rfl 24 V (0, 0) _ HR16b.out Tryd.underlying24 rfl HSV.out ?_; try simp only [Act.put, List.setIfInBounds_toArray, List.set_cons_zero, List.set_cons_succ])
      | fail)
    refine (C4.out _ HBb.out).mono ?_
    rintro e w8 ⟨rfl, hb8⟩
    have HB8 := hidk (HBb.out.trans (hb8.mono HBb.out.size))
    have HRM8 := hidk ((hb8.block _ (heap_lt HRMb.out)).trans HRMb.out)
    have HR158 := hidk ((hb8.block _ (heap_lt HR15b.out)).trans HR15b.out)
    have HR168 := hidk ((hb8.block _ (heap_lt HR16b.out)).trans HR16b.out)
    clear hb8 HBb HRMb HR15b HR16b C4 hc6 hf6
    go_wp2_with fail
    refine (C0.out _ HB8.out).mono ?_
    rintro e w9 ⟨rfl, hb9⟩
    have HB9 := hidk (HB8.out.trans (hb9.mono HB8.out.size))
    have HRM9 := hidk ((hb9.block _ (heap_lt HRM8.out)).trans HRM8.out)
    have HR159 := hidk ((hb9.block _ (heap_lt HR158.out)).trans HR158.out)
    have HR169 := hidk ((hb9.block _ (heap_lt HR168.out)).trans HR168.out)
    clear hb9 HB8 HRM8 HR158 HR168 C0
    go_wp2_with (first
      | (show wpList _ _ _ ({ dst := some 67, op := _, type := _, pos := _, after := _, guard := _ } :: _) _ _; refine wpList_load_row_w (by rfl) 23 (.tmp 6) rfl w.heap.size rfl 23 M (0, 0) _ HRM9.out Tryd.underlying23 rfl HSM.out ?_; try simp only [Act.put, List.setIfInBounds_toArray, List.set_cons_zero, List.set_cons_succ])
      | (show wpList _ _ _ ({ dst := some 71, op := _, type := _, pos := _, after := _, guard := _ } :: _) _ _; refine wpList_load_row_w (by rfl) 24 (.tmp 15) rfl g15 rfl 24 D (0, 0) _ HR159.out Tryd.underlying24 rfl HSD.out ?_; try simp only [Act.put, List.setIfInBounds_toArray, List.set_cons_zero, List.set_cons_succ])
      | fail)
    refine (C3.out _ HB9.out).mono ?_
    rintro e wa ⟨rfl, hba⟩
    have HBa := hidk (HB9.out.trans (hba.mono HB9.out.size))
    have HR15a := hidk ((hba.block _ (heap_lt HR159.out)).trans HR159.out)
    have HR16a := hidk ((hba.block _ (heap_lt HR169.out)).trans HR169.out)
    clear hba HB9 HRM9 HR159 HR169 C3
    rcases HCASE.out with ⟨rfl, rfl, rfl⟩ | ⟨hv, rfl, rfl⟩
    · clear HCASE
      go_wp2_with (first
        | (show wpList _ _ _ ({ dst := some 91, op := _, type := _, pos := _, after := _, guard := _ } :: _) _ _; refine wpList_load_row_w (by rfl) 24 (.tmp 15) rfl g15 rfl 24 D (0, 0) _ HR15a.out Tryd.underlying24 rfl HSD.out ?_; try simp only [Act.put, List.setIfInBounds_toArray, List.set_cons_zero, List.set_cons_succ])
        | (show wpList _ _ _ ({ dst := some 92, op := _, type := _, pos := _, after := _, guard := _ } :: _) _ _; refine wpList_load_row_w (by rfl) 24 (.tmp 16) rfl g16 rfl 24 V (0, 0) _ HR16a.out Tryd.underlying24 rfl HSV.out ?_; try simp only [Act.put, List.setIfInBounds_toArray, List.set_cons_zero, List.set_cons_succ])
        | fail)
      refine (C5.out _).mono ?_
      rintro e wz ⟨rfl, hbz⟩
      have HBz := hidk (HBa.out.trans (hbz.mono HBa.out.size))
      clear hbz HBa HR15a HR16a C5
      go_wp2
      go_ret
      exact ⟨rfl, HBz.out⟩
    · have hvn : ((bv.toNat : Int) == 0) = false := by
        rw [beq_eq_false_iff_ne]
        intro e
        apply hv
        apply UInt8.toNat_inj.1
        show bv.toNat = 0
        omega
      have hvn2 : (bv.toNat == 0) = false := by
        rw [beq_eq_false_iff_ne]
        intro e
        exact hv (UInt8.toNat_inj.1 e)
      clear HCASE hv
      go_wp2_with (first
        | (show wpList _ _ _ ({ dst := some 91, op := _, type := _, pos := _, after := _, guard := _ } :: _) _ _; refine wpList_load_row_w (by rfl) 24 (.tmp 15) rfl g15 rfl 24 D (0, 0) _ HR15a.out Tryd.underlying24 rfl HSD.out ?_; try simp only [Act.put, List.setIfInBounds_toArray, List.set_cons_zero, List.set_cons_succ])
        | (show wpList _ _ _ ({ dst := some 92, op := _, type := _, pos := _, after := _, guard := _ } :: _) _ _; refine wpList_load_row_w (by rfl) 24 (.tmp 16) rfl g16 rfl 24 V (0, 0) _ HR16a.out Tryd.underlying24 rfl HSV.out ?_; try simp only [Act.put, List.setIfInBounds_toArray, List.set_cons_zero, List.set_cons_succ])
        | fail)
      refine (C5.out _).mono ?_
      rintro e wz ⟨rfl, hbz⟩
      have HBz := hidk (HBa.out.trans (hbz.mono HBa.out.size))
      clear hbz HBa HR15a HR16a C5
      go_wp2
      go_ret
      exact ⟨rfl, HBz.out⟩
  · have hE : keyE a1 a2 = 50 := by unfold keyE; rw [if_neg ho]
    have C1 : Hid (∀ W, Below w.heap.size w W → Calls Tryd.prog 12 #[.agg M, .int .i64 a1, .int .i64 a2] W fun e w' => e = .returned (.tuple #[.agg K, .int .i64 50]) ∧ Below W.heap.size W w') := fun W hb => by rw [← hE]; exact ck.key z0 a1 a2 W M K HM w0 b1 b2 (hT.keep hb) HK
    have C3 : Hid (∀ W, Below w.heap.size w W → Calls Tryd.prog 15 #[.agg M, .int .i64 a1, .int .i64 a2, .string a3, .agg D] W fun e w' => e = .returned (.int .i64 50) ∧ Below W.heap.size W w') := fun W hb => by
      have := ck.holds z0 a1 a2 a3 t W M D HM HD w0 ht32 b1 b2 hle (hT.keep hb)
      rwa [holdE_out _ _ _ _ _ ho] at this
    clear hT HM HK HD Ht ho hE hlen w1 w2 w3 w5 b5 HZ HZD
    go_enter Tryd.func5, Tryd.ntmps5
    go_wp2_with (first
      | (show wpList _ _ _ ({ dst := some 30, op := _, type := _, pos := _, after := _, guard := _ } :: _) _ _; refine wpList_load_row rfl 23 (.tmp 6) rfl w.heap.size rfl 23 M (0, 0) _ HB.out.2 Tryd.underlying23 rfl HSM.out ?_; try simp only [Act.put, List.setIfInBounds_toArray, List.set_cons_zero, List.set_cons_succ])
      | fail)
    refine (C1.out _ HB.out.1).mono ?_
    rintro e w1 ⟨rfl, hb1⟩
    have HB1 := hidk (HB.out.1.trans (hb1.mono HB.out.1.size))
    have HRM1 := hidk ((hb1.block _ (heap_lt HB.out.2)).trans HB.out.2)
    clear hb1 HB C1
    go_wp2_with (first
      | (show wpList _ _ _ ({ dst := some 13, op := _, type := _, pos := _, after := _, guard := _ } :: _) _ _; refine wpList_new_var rfl 23 rfl Z HA.out ?_; intro g13 w2 HM13; try simp only [Act.put, List.setIfInBounds_toArray, List.set_cons_zero, List.set_cons_succ])
      | (refine wpList_set_var rfl 23 (.tmp 13) (.tmp 34) rfl g13 K rfl rfl 23 Z HM13.out.row HSK.out HZK.out H1K.out ?_; intro w3 HW13; try simp only [Act.put, List.setIfInBounds_toArray, List.set_cons_zero, List.set_cons_succ])
      | (show wpList _ _ _ ({ dst := some 36, op := _, type := _, pos := _, after := _, guard := _ } :: _) _ _; refine wpList_load_row rfl 23 (.tmp 13) rfl g13 rfl 23 K (0, 0) _ HW13.out.row Tryd.underlying23 rfl HSK.out ?_; try simp only [Act.put, List.setIfInBounds_toArray, List.set_cons_zero, List.set_cons_succ])
      | fail)
    have hg13 : w1.heap.size = g13 := HM13.out.new.symm
    have hl1 := heap_lt HRM1.out
    have HX3 := hidk (HW13.out.below w1.heap.size w1 HM13.out.below (by omega))
    have HB3 := hidk (HB1.out.trans (HX3.out.mono HB1.out.size))
    have HRM3 := hidk ((HX3.out.block _ hl1).trans HRM1.out)
    clear HM13 HW13 HX3 HB1 HRM1 hg13
    refine (C2.out _ HB3.out).mono ?_
    rintro e w3b ⟨rfl, hb3⟩
    have HB3b := hidk (HB3.out.trans (hb3.mono HB3.out.size))
    have HRM3b := hidk ((hb3.block _ (heap_lt HRM3.out)).trans HRM3.out)
    clear hb3 HB3 HRM3 C2
    go_wp2_with (first
      | (show wpList _ _ _ ({ dst := some 15, op := _, type := _, pos := _, after := _, guard := _ } :: _) _ _; refine wpList_new_var rfl 24 rfl ZD HAD.out ?_; intro g15 w4a HM15; try simp only [Act.put, List.setIfInBounds_toArray, List.set_cons_zero, List.set_cons_succ])
      | (refine wpList_set_var rfl 24 (.tmp 15) (.tmp 38) rfl g15 D rfl rfl 24 ZD HM15.out.row HSD.out HZDD.out H1D.out ?_; intro w4 HW15; try simp only [Act.put, List.setIfInBounds_toArray, List.set_cons_zero, List.set_cons_succ])
      | fail)
    have hlm := heap_lt HRM3b.out
    have hg15 : w3b.heap.size ≤ g15 := Nat.le_of_eq HM15.out.new.symm
    have HX4 := hidk (HW15.out.below w3b.heap.size w3b HM15.out.below hg15)
    have HB4 := hidk (HB3b.out.trans (HX4.out.mono HB3b.out.size))
    have HRM4 := hidk ((HX4.out.block _ hlm).trans HRM3b.out)
    have HR154 := hidk HW15.out.row
    clear HM15 HW15 HX4 HB3b HRM3b
    go_wp2_with fail
    refine (C0.out _ HB4.out).mono ?_
    rintro e w5 ⟨rfl, hb5⟩
    have HB5 := hidk (HB4.out.trans (hb5.mono HB4.out.size))
    have HRM5 := hidk ((hb5.block _ (heap_lt HRM4.out)).trans HRM4.out)
    have HR155 := hidk ((hb5.block _ (heap_lt HR154.out)).trans HR154.out)
    clear hb5 HB4 HRM4 HR154 C0
    go_wp2_with (first
      | (show wpList _ _ _ ({ dst := some 43, op := _, type := _, pos := _, after := _, guard := _ } :: _) _ _; refine wpList_load_row_w (by rfl) 23 (.tmp 6) rfl w.heap.size rfl 23 M (0, 0) _ HRM5.out Tryd.underlying23 rfl HSM.out ?_; try simp only [Act.put, List.setIfInBounds_toArray, List.set_cons_zero, List.set_cons_succ])
      | (show wpList _ _ _ ({ dst := some 47, op := _, type := _, pos := _, after := _, guard := _ } :: _) _ _; refine wpList_load_row_w (by rfl) 24 (.tmp 15) rfl g15 rfl 24 D (0, 0) _ HR155.out Tryd.underlying24 rfl HSD.out ?_; try simp only [Act.put, List.setIfInBounds_toArray, List.set_cons_zero, List.set_cons_succ])
      | fail)
    refine (C3.out _ HB5.out).mono ?_
    rintro e w6 ⟨rfl, hb6⟩
    have HB6 := hidk (HB5.out.trans (hb6.mono HB5.out.size))
    clear hb6 HB5 C3
    go_wp2
    go_ret
    exact ⟨rfl, HB6.out⟩
end Go.Proofs.YtkmndchbmbhlhaaDoor
