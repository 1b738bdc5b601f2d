/- What TagMacsTwo says of any input, over what the calls of package tag answer. -/
import Derived.Test.YtkmndchbmbhlhaaDoorTagC
import Derived.Test.YtkmndchbmbhlhaaDoorPuts
namespace Go.Proofs.YtkmndchbmbhlhaaDoor
open Go.RowKit Sums
set_option linter.unusedVariables false
set_option linter.unusedSimpArgs false

/-- What the loop has laid: the first k bytes of both blocks. -/
structure Laid2 (w : World) (z0 : List UInt8) (K : Array Value) (gi go k : Nat) (W : World) : Prop where
  key : W.heap[w.heap.size]? = some (.cells K 23 (0, 0))
  inner : W.heap[gi]? = some (.cells (cellsOf (filled ((blockD z0 54).take k) 64)).toArray 5 (0, 0))
  outer : W.heap[go]? = some (.cells (cellsOf (filled ((blockD z0 92).take k) 64)).toArray 5 (0, 0))
  below : Below w.heap.size w W
theorem Laid2.keep {w W W' : World} {z0 : List UInt8} {K : Array Value} {gi go k : Nat} (h : Laid2 w z0 K gi go k W) (hb : Below W.heap.size W W') : Laid2 w z0 K gi go k W' :=
  ⟨(hb.block _ (heap_lt h.key)).trans h.key, (hb.block _ (heap_lt h.inner)).trans h.inner, (hb.block _ (heap_lt h.outer)).trans h.outer, h.below.trans (hb.mono h.below.size)⟩
theorem row_put (B : List UInt8) (k : Nat) (hB : B.length = 64) (hk : k < 64) (x : UInt8) (hx : B[k]? = some x) : ((cellsOf (filled (B.take k) 64)).toArray.setIfInBounds k (.int .u8 (x.toNat : Int))) = (cellsOf (filled (B.take (k + 1)) 64)).toArray := by
  rw [cells_put, filled_put B k hB hk x hx]
theorem row_put2 (B : List UInt8) (k : Nat) (hB : B.length = 64) (hk : k < 64) (v : Value) (x : UInt8) (hx : B[k]? = some x) : (((cellsOf (filled (B.take k) 64)).toArray.setIfInBounds k v).setIfInBounds k (.int .u8 (x.toNat : Int))) = (cellsOf (filled (B.take (k + 1)) 64)).toArray := by
  rw [← row_put B k hB hk x hx]
  apply Array.ext'
  simp only [Array.toList_setIfInBounds, List.set_set]
theorem row_size (B : List UInt8) (k : Nat) (hk : k ≤ 64) : (cellsOf (filled (B.take k) 64)).toArray.size = 64 := by
  rw [List.size_toArray, cellsOf_length, filled_length _ _ (by rw [List.length_take]; omega)]

set_option maxHeartbeats 8000000 in
theorem tagMacsTwo_of (ck : TagC) (z0 : List UInt8) (a1 : ByteArray) (w : World) (w0 : z0.length = 32) (w1 : a1.size ≤ maxLen) (hT : TabT w) :
    Calls Tryd.prog 7 #[digV z0, .string a1] w fun e w' => e = .returned (.bool true) ∧ Below w.heap.size w w' := by
  unfold digV
  obtain ⟨K, HK, HSK, H1K, H32K⟩ := key_row z0 w0
  rw [← HK.out]
  have HB : Hid (Below w.heap.size w (w.alloc (.cells K 23)) ∧ (w.alloc (.cells K 23)).heap[w.heap.size]? = some (.cells K 23 (0, 0))) := ⟨(Below.refl _ _).alloc (Nat.le_refl _) _, heap_alloc_new w _⟩
  have hml : a1.size ≤ 9223372036854775807 := by unfold maxLen at w1; omega
  by_cases hlen : 16384 < a1.size
  · have d0 : decide (16384 < (a1.size : Int)) = true := by rw [decide_eq_true_eq]; omega
    have d0' : decide (16384 < a1.size) = true := by rw [decide_eq_true_eq]; omega
    clear hlen
    go_enter Tryd.func7, Tryd.ntmps7
    go_wp2
    go_ret
    exact ⟨rfl, HB.out.1⟩
  have d0 : decide (16384 < (a1.size : Int)) = false := by rw [decide_eq_false_iff_not]; omega
  have d0' : decide (16384 < a1.size) = false := by rw [decide_eq_false_iff_not]; omega
  have hle : a1.size ≤ 100000 := by omega
  obtain ⟨ZD, HZD, HAD, HSZD, H1ZD, H32D⟩ := noughts27
  have L1 := blockD_length z0 54 w0
  have L2 := blockD_length z0 92 w0
  obtain ⟨b1, HB1⟩ : ∃ b : ByteArray, Hid (b = ⟨(blockD z0 54).toArray⟩) := ⟨_, (rfl : _ = _)⟩
  obtain ⟨b2, HB2⟩ : ∃ b : ByteArray, Hid (b = ⟨(blockD z0 92).toArray⟩) := ⟨_, (rfl : _ = _)⟩
  have hz1 : b1.size = 64 := by rw [HB1.out]; show (blockD z0 54).toArray.size = 64; simpa using L1
  have hz2 : b2.size = 64 := by rw [HB2.out]; show (blockD z0 92).toArray.size = 64; simpa using L2
  obtain ⟨m, Hm⟩ : ∃ m, Hid (m = sumD (blockD z0 54 ++ a1.data.toList)) := ⟨_, (rfl : _ = _)⟩
  have hm32 : m.length = 32 := by rw [Hm.out]; exact sumD_length _
  obtain ⟨M, HM, HSM, H1M, H32M⟩ := dig_row' m hm32
  have HZM : Hid (ZD.size = M.size) := by show _ = _; rw [H32D.out, H32M.out]
  obtain ⟨x, HX⟩ : ∃ x : ByteArray, Hid (x = ⟨m.toArray⟩) := ⟨_, (rfl : _ = _)⟩
  have hzx : x.size = 32 := by rw [HX.out]; show m.toArray.size = 32; simpa using hm32
  obtain ⟨D, HD, HSD, H1D, H32DD⟩ := dig_row' (macD z0 a1.data.toList) (sumD_length _)
  have C0 : Hid (∀ W, Below w.heap.size w W → Calls Tryd.prog 8 #[] W fun e w' => e = .returned (.bool true) ∧ Below W.heap.size W w') := fun W hb => macs_true ck W (hT.keep hb)
  have C1 : Hid (∀ W, Below w.heap.size w W → Calls Tryd.prog 9 #[.agg K, .string a1] W fun e w' => e = .returned (.agg D) ∧ Below W.heap.size W w') := fun W hb => ck.mac z0 a1 W K D HK w0 hle (hT.keep hb) HD
  have O1 : Hid (∀ W g, g = W.heap.size → Below w.heap.size w W → Calls Tryd.prog 17 #[.slice (some ⟨g, 0, none⟩) 2 2] (W.alloc (.cells #[.string b1, .string a1] 9)) fun e w' => e = .returned (.agg M) ∧ Below W.heap.size W w') := fun W g hg hb =>
    of_new [b1, a1] 9 W (by show b1.size + (a1.size + 0) ≤ 1000000; omega) (by show 2 ≤ _; decide) (hT.keep hb).sha M (by show _ = _; rw [HM.out, Hm.out, HB1.out]; simp [joinL]) 2 2 g rfl hg _ rfl
  have O2 : Hid (∀ W g, Texts W (some ⟨g, 0, none⟩) 2 [b2, x] → Below w.heap.size w W → Calls Tryd.prog 17 #[.slice (some ⟨g, 0, none⟩) 2 2] W fun e w' => e = .returned (.agg D) ∧ Below W.heap.size W w') := fun W g hx hb =>
    of_lies [b2, x] (by show b2.size + (x.size + 0) ≤ 1000000; omega) (by show 2 ≤ _; decide) D (by show _ = _; rw [HD.out, HB2.out, HX.out, Hm.out]; simp [joinL, macD]) W _ 2 2 hx (hT.keep hb).sha
  have q1 : ∀ W, (binOp .eql 24 (.agg D) (.agg D)).run Tryd.prog W = .ok (.bool true) W := fun W => eqSelf D _ (sumD_length _) HD W
  have HCX : Hid (∀ (W : World) (g : Nat), W.rangeAt g 0 (cellsOf m) → Sem.run Tryd.prog (convert 38 9 (.slice (some ⟨g, 0, none⟩) 32 32)) W = .ok (.string x) W) := fun W g h => by rw [HX.out]; exact conv_at W g 0 m hm32 h
  have HKA : Hid (∀ (W : World) (k : Nat) (hk : k < z0.length), W.heap[w.heap.size]? = some (.cells K 23 (0, 0)) → W.cell? ⟨w.heap.size, k, none⟩ = some (.int .u8 (z0[k].toNat : Int))) := fun W k hk h => by
    rw [cell_of_row W _ k _ 23 (0, 0) h, HK.out]
    simp [cellsOf_at z0 k hk]
  have HMR : Hid (M.toList = cellsOf m) := by show _ = _; rw [HM.out]
  clear hT HD HX Hm HM hlen w1
  go_enter Tryd.func7, Tryd.ntmps7
  go_wp2_with (first
    | (show wpList _ _ _ ({ dst := some 12, op := _, type := _, pos := _, after := _, guard := _ } :: _) _ _; refine wpList_make_row rfl _ _ rfl 64 rfl rfl (by decide) ?_; intro gi wa HMi; try simp only [Act.put, List.setIfInBounds_toArray, List.set_cons_zero, List.set_cons_succ])
    | (show wpList _ _ _ ({ dst := some 13, op := _, type := _, pos := _, after := _, guard := _ } :: _) _ _; refine wpList_make_row rfl _ _ rfl 64 rfl rfl (by decide) ?_; intro go wb HMo; try simp only [Act.put, List.setIfInBounds_toArray, List.set_cons_zero, List.set_cons_succ])
    | fail)
  have hgi : w.heap.size < gi := by have e := HMi.out.new; simp at e; omega
  have hgo : gi < go := by rw [HMo.out.new]; exact heap_lt HMi.out.row
  have hne : ¬ gi = go := by omega
  have HL0 : Hid (Laid2 w z0 K gi go 0 wb) := by
    have hba : Below w.heap.size w wa := HB.out.1.trans (HMi.out.below.mono HB.out.1.size)
    refine ⟨(HMo.out.below.block _ (by have := heap_lt HMi.out.row; omega)).trans ((HMi.out.below.block _ (heap_lt HB.out.2)).trans HB.out.2), ?_, ?_, hba.trans (HMo.out.below.mono hba.size)⟩
    · exact (HMo.out.below.block _ (heap_lt HMi.out.row)).trans HMi.out.row
    · exact HMo.out.row
  clear HMi HMo HB
  go_loopw [7] (fun i wr => ∃ k : Nat, k ≤ 64 ∧ i = .int .i64 k ∧ Hid (Laid2 w z0 K gi go k wr)) (fun i _ => 64 - (intOf i).toNat)
  case atStart => exact ⟨0, by omega, rfl, HL0⟩
  case round =>
    clear HL0
    obtain ⟨k, hk64, rfl, HL⟩ := hrel
    by_cases hlt : k < 64
    · have dk : decide ((k : Int) < 64) = true := by rw [decide_eq_true_eq]; omega
      have dk' : decide (k < 64) = true := by rw [decide_eq_true_eq]; omega
      have s1 := hidk (row_size (blockD z0 54) k hk64)
      have s2 := hidk (row_size (blockD z0 92) k hk64)
      by_cases h32 : k < 32
      · have d3 : decide ((k : Int) < 32) = true := by rw [decide_eq_true_eq]; omega
        have d3' : decide (k < 32) = true := by rw [decide_eq_true_eq]; omega
        have hkz : k < z0.length := by omega
        obtain ⟨y1, Hy1⟩ : ∃ y : UInt8, Hid (y = z0[k] ^^^ 54) := ⟨z0[k] ^^^ 54, hidk rfl⟩
        obtain ⟨y2, Hy2⟩ : ∃ y : UInt8, Hid (y = z0[k] ^^^ 92) := ⟨z0[k] ^^^ 92, hidk rfl⟩
        have x1 : bits .xor .u8 (z0[k].toNat : Int) 54 = (y1.toNat : Int) := by rw [Hy1.out]; exact xor8 z0[k] 54
        have x2 : bits .xor .u8 (z0[k].toNat : Int) 92 = (y2.toNat : Int) := by rw [Hy2.out]; exact xor8 z0[k] 92
        have e1 : Hid ((blockD z0 54)[k]? = some y1) := by show _ = _; rw [blockD_at z0 54 w0 k hlt, dif_pos hkz, Hy1.out]
        have e2 : Hid ((blockD z0 92)[k]? = some y2) := by show _ = _; rw [blockD_at z0 92 w0 k hlt, dif_pos hkz, Hy2.out]
        go_wp2_with (first
          | (refine wpList_put8 rfl 5 (.tmp 20) _ rfl sizeOf5 gi k 54 rfl rfl (cellsOf (filled ((blockD z0 54).take k) 64)).toArray 5 HL.out.inner (by rw [s1.out]; exact hlt) ?_; intro wa H1; try simp only [Act.put, List.setIfInBounds_toArray, List.set_cons_zero, List.set_cons_succ])
          | (refine wpList_put8 rfl 5 (.tmp 23) _ rfl sizeOf5 go k 92 rfl rfl (cellsOf (filled ((blockD z0 92).take k) 64)).toArray 5 ((H1.out.other go (by omega)).trans HL.out.outer) (by rw [s2.out]; exact hlt) ?_; intro wb H2; have hck2 := HKA.out wb k hkz ((H2.out.other _ (by omega)).trans ((H1.out.other _ (by omega)).trans HL.out.key)); try simp only [Act.put, List.setIfInBounds_toArray, List.set_cons_zero, List.set_cons_succ])
          | (refine wpList_put8 rfl 5 (.tmp 32) (.tmp 31) rfl sizeOf5 gi k (y1.toNat : Int) rfl rfl ((cellsOf (filled ((blockD z0 54).take k) 64)).toArray.setIfInBounds k (.int .u8 54)) 5 ((H2.out.other gi (by omega)).trans H1.out.row) (by rw [Array.size_setIfInBounds, s1.out]; exact hlt) ?_; intro wc H3; have hck3 := HKA.out wc k hkz ((H3.out.other _ (by omega)).trans ((H2.out.other _ (by omega)).trans ((H1.out.other _ (by omega)).trans HL.out.key))); try simp only [Act.put, List.setIfInBounds_toArray, List.set_cons_zero, List.set_cons_succ])
          | (refine wpList_put8 rfl 5 (.tmp 39) (.tmp 38) rfl sizeOf5 go k (y2.toNat : Int) rfl rfl ((cellsOf (filled ((blockD z0 92).take k) 64)).toArray.setIfInBounds k (.int .u8 92)) 5 ((H3.out.other go (by omega)).trans H2.out.row) (by rw [Array.size_setIfInBounds, s2.out]; exact hlt) ?_; intro wd H4; try simp only [Act.put, List.setIfInBounds_toArray, List.set_cons_zero, List.set_cons_succ])
          | fail)
        have HL' : Hid (Laid2 w z0 K gi go (k + 1) wd) := by
          have hkey := (H4.out.other w.heap.size (by omega)).trans ((H3.out.other w.heap.size (by omega)).trans ((H2.out.other w.heap.size (by omega)).trans ((H1.out.other w.heap.size (by omega)).trans HL.out.key)))
          refine ⟨hkey, ?_, ?_, H4.out.below _ _ (H3.out.below _ _ (H2.out.below _ _ (H1.out.below _ _ HL.out.below (by omega)) (by omega)) (by omega)) (by omega)⟩
          · rw [H4.out.other gi (by omega), H3.out.row, row_put2 _ k L1 hlt _ y1 e1.out]
          · rw [H4.out.row, row_put2 _ k L2 hlt _ y2 e2.out]
        clear H1 H2 H3 H4 HL hck2 hck3 x1 x2
        go_roundw
        case rel => exact ⟨k + 1, by omega, by go_num, HL'⟩
        case measure => simp [intOf]; omega
      · have d3 : decide ((k : Int) < 32) = false := by rw [decide_eq_false_iff_not]; omega
        have d3' : decide (k < 32) = false := by rw [decide_eq_false_iff_not]; omega
        have e1 : Hid ((blockD z0 54)[k]? = some 54) := by show _ = _; rw [blockD_at z0 54 w0 k hlt, dif_neg (by omega)]; rfl
        have e2 : Hid ((blockD z0 92)[k]? = some 92) := by show _ = _; rw [blockD_at z0 92 w0 k hlt, dif_neg (by omega)]; rfl
        go_wp2_with (first
          | (refine wpList_put8 rfl 5 (.tmp 20) _ rfl sizeOf5 gi k 54 rfl rfl (cellsOf (filled ((blockD z0 54).take k) 64)).toArray 5 HL.out.inner (by rw [s1.out]; exact hlt) ?_; intro wa H1; try simp only [Act.put, List.setIfInBounds_toArray, List.set_cons_zero, List.set_cons_succ])
          | (refine wpList_put8 rfl 5 (.tmp 23) _ rfl sizeOf5 go k 92 rfl rfl (cellsOf (filled ((blockD z0 92).take k) 64)).toArray 5 ((H1.out.other go (by omega)).trans HL.out.outer) (by rw [s2.out]; exact hlt) ?_; intro wb H2; try simp only [Act.put, List.setIfInBounds_toArray, List.set_cons_zero, List.set_cons_succ])
          | fail)
        have HL' : Hid (Laid2 w z0 K gi go (k + 1) wb) := by
          refine ⟨(H2.out.other w.heap.size (by omega)).trans ((H1.out.other w.heap.size (by omega)).trans HL.out.key), ?_, ?_, H2.out.below _ _ (H1.out.below _ _ HL.out.below (by omega)) (by omega)⟩
          · rw [H2.out.other gi (by omega), H1.out.row]
            exact congrArg (fun c => some (Obj.cells c 5 (0, 0))) (row_put _ k L1 hlt 54 e1.out)
          · rw [H2.out.row]
            exact congrArg (fun c => some (Obj.cells c 5 (0, 0))) (row_put _ k L2 hlt 92 e2.out)
        clear H1 H2 HL
        go_roundw
        case rel => exact ⟨k + 1, by omega, by go_num, HL'⟩
        case measure => simp [intOf]; omega
    · obtain rfl : k = 64 := by omega
      have f1 : filled ((blockD z0 54).take 64) 64 = blockD z0 54 := by
        unfold filled
        rw [List.take_of_length_le (by omega), L1]
        simp
      have f2 : filled ((blockD z0 92).take 64) 64 = blockD z0 92 := by
        unfold filled
        rw [List.take_of_length_le (by omega), L2]
        simp
      have HRI := hidk HL.out.inner
      have HRO := hidk HL.out.outer
      rw [f1] at HRI
      rw [f2] at HRO
      have hcv : (convert 38 9 (.slice (some ⟨gi, 0, none⟩) 64 64)).run Tryd.prog wr = .ok (.string b1) wr := by rw [HB1.out]; exact conv_row HRI.out L1
      have HCO : Hid (∀ W : World, W.heap[go]? = some (.cells (cellsOf (blockD z0 92)).toArray 5 (0, 0)) → (convert 38 9 (.slice (some ⟨go, 0, none⟩) 64 64)).run Tryd.prog W = .ok (.string b2) W) := fun W h => by rw [HB2.out]; exact conv_row h L2
      have HKR := hidk HL.out.key
      have HBL := hidk HL.out.below
      clear HL f1 f2 HRI
      go_wp2_with fail
      refine (O1.out _ _ rfl HBL.out).mono ?_
      rintro e w2 ⟨rfl, hb2⟩
      have HB2w := hidk (HBL.out.trans (hb2.mono HBL.out.size))
      have HKR2 := hidk ((hb2.block _ (heap_lt HKR.out)).trans HKR.out)
      have HRO2 := hidk ((hb2.block _ (heap_lt HRO.out)).trans HRO.out)
      clear hb2 HBL HKR HRO hcv O1
      go_wp2_with (first
        | (show wpList _ _ _ ({ dst := some 8, op := _, type := _, pos := _, after := _, guard := _ } :: _) _ _; refine wpList_new_var rfl 24 rfl ZD HAD.out ?_; intro g8 w3 HM8; try simp only [Act.put, List.setIfInBounds_toArray, List.set_cons_zero, List.set_cons_succ])
        | (refine wpList_set_var rfl 24 (.tmp 8) (.tmp 44) rfl g8 M rfl rfl 24 ZD HM8.out.row HSM.out HZM.out H1M.out ?_; intro w4 HW8; try simp only [Act.put, List.setIfInBounds_toArray, List.set_cons_zero, List.set_cons_succ])
        | fail)
      have hg8 : w2.heap.size ≤ g8 := Nat.le_of_eq HM8.out.new.symm
      have HX4 := hidk (HW8.out.below w2.heap.size w2 HM8.out.below hg8)
      have HB4w := hidk (HB2w.out.trans (HX4.out.mono HB2w.out.size))
      have HKR4 := hidk ((HX4.out.block _ (heap_lt HKR2.out)).trans HKR2.out)
      have HRO4 := hidk ((HX4.out.block _ (heap_lt HRO2.out)).trans HRO2.out)
      have HR84 := hidk HW8.out.row
      clear HM8 HW8 HX4 HB2w HKR2 HRO2
      have HS8 := fun W => slice_at W g8 0
      refine wp_region_held_drew (S := (fun W => W.heap[w.heap.size]? = some (.cells K 23 (0, 0)) ∧ W.heap[go]? = some (.cells (cellsOf (blockD z0 92)).toArray 5 (0, 0)) ∧ W.heap[g8]? = some (.cells M 24 (0, 0)))) (by kernel_rfl) ⟨HKR4.out, HRO4.out, HR84.out⟩ (fun hHeld => ?_)
      refine wpAnyH_ready (rs := [0]) (by kernel_rfl) (by simp) ?_
      refine (AllReadyH.cons (o := { dst := some 45, op := Op.call { callee := Callee.value (Operand.func 8), args := #[], argTypes := #[] }, type := 4, pos := "law.go:88", after := #[], guard := none }) rfl (fun K hK => ?_) AllReadyH.nil)
      go_simp
      refine (C0.out _ HB4w.out.drew).mono ?_
      rintro e w0 ⟨rfl, hb0⟩
      have HBc := hidk (HB4w.out.drew.trans (hb0.mono HB4w.out.size))
      go_wp2_with fail
      refine hK.out _ _ ⟨(hb0.block _ (heap_lt hHeld.1)).trans hHeld.1, (hb0.block _ (heap_lt hHeld.2.1)).trans hHeld.2.1, (hb0.block _ (heap_lt hHeld.2.2)).trans hHeld.2.2⟩ (fun hHeld => ?_)
      clear hK K
      try simp only [Act.put, List.setIfInBounds_toArray, List.set_cons_zero, List.set_cons_succ]
      refine wpAnyH_take (i := 1) (oi := { dst := some 46, op := Op.move (Operand.tmp 45), type := 4, pos := "law.go:88", after := #[{ on := 0, ground := Ground.data }, { on := 0, ground := Ground.chain }], guard := none }) (v := .bool true) rfl (by kernel_rfl) (by kernel_rfl) (by kernel_rfl) (fun _ _ _ h => h) (Or.inl ⟨by rfl, by intro W hSw; go_simp⟩) hHeld ?_
      try simp only [Act.put, List.setIfInBounds_toArray, List.set_cons_zero, List.set_cons_succ]
      refine wpAnyH_take (i := 2) (oi := { dst := some 47, op := Op.load 23 (Operand.tmp 2), type := 23, pos := "law.go:88", after := #[{ on := 1, ground := Ground.guard }], guard := some (1, true) }) (v := .agg K) rfl (by kernel_rfl) (by kernel_rfl) (by kernel_rfl) (fun _ _ _ h => h) (yieldsIf_row (by rfl) 23 (.tmp 2) rfl w.heap.size rfl 23 K (0, 0) _ (fun _ h => h.1) Tryd.underlying23 rfl HSK.out) hHeld ?_
      try simp only [Act.put, List.setIfInBounds_toArray, List.set_cons_zero, List.set_cons_succ]
      refine wpAnyH_take (i := 3) (oi := { dst := some 48, op := Op.move (Operand.tmp 1), type := 9, pos := "law.go:88", after := #[{ on := 1, ground := Ground.guard }], guard := some (1, true) }) (v := .string a1) rfl (by kernel_rfl) (by kernel_rfl) (by kernel_rfl) (fun _ _ _ h => h) (Or.inl ⟨by rfl, by intro W hSw; go_simp⟩) hHeld ?_
      try simp only [Act.put, List.setIfInBounds_toArray, List.set_cons_zero, List.set_cons_succ]
      refine wpAnyH_take (i := 5) (oi := { dst := some 50, op := Op.move (Operand.tmp 6), type := 38, pos := "law.go:88", after := #[{ on := 1, ground := Ground.guard }], guard := some (1, true) }) (v := .slice (some ⟨go, 0, none⟩) 64 64) rfl (by kernel_rfl) (by kernel_rfl) (by kernel_rfl) (fun _ _ _ h => h) (Or.inl ⟨by rfl, by intro W hSw; go_simp⟩) hHeld ?_
      try simp only [Act.put, List.setIfInBounds_toArray, List.set_cons_zero, List.set_cons_succ]
      refine wpAnyH_take (i := 6) (oi := { dst := some 51, op := Op.convert 38 9 (Operand.tmp 50), type := 9, pos := "law.go:88", after := #[{ on := 5, ground := Ground.data }, { on := 1, ground := Ground.guard }], guard := some (1, true) }) (v := .string b2) rfl (by kernel_rfl) (by kernel_rfl) (by kernel_rfl) (fun _ _ _ h => h) (Or.inl ⟨by rfl, by intro W hSw; have := HCO.out W hSw.2.1; go_simp⟩) hHeld ?_
      try simp only [Act.put, List.setIfInBounds_toArray, List.set_cons_zero, List.set_cons_succ]
      refine wpAnyH_take (i := 7) (oi := { dst := some 52, op := Op.slice 24 (Operand.tmp 8) none none none, type := 38, pos := "law.go:88", after := #[{ on := 1, ground := Ground.guard }], guard := some (1, true) }) (v := .slice (some ⟨g8, 0, none⟩) 32 32) rfl (by kernel_rfl) (by kernel_rfl) (by kernel_rfl) (fun _ _ _ h => h) (Or.inl ⟨by rfl, by intro W hSw; have := HS8 W; go_simp⟩) hHeld ?_
      try simp only [Act.put, List.setIfInBounds_toArray, List.set_cons_zero, List.set_cons_succ]
      refine wpAnyH_take (i := 8) (oi := { dst := some 53, op := Op.convert 38 9 (Operand.tmp 52), type := 9, pos := "law.go:88", after := #[{ on := 7, ground := Ground.data }, { on := 1, ground := Ground.guard }], guard := some (1, true) }) (v := .string x) rfl (by kernel_rfl) (by kernel_rfl) (by kernel_rfl) (fun _ _ _ h => h) (Or.inl ⟨by rfl, by intro W hSw; have := HCX.out W g8 (by rw [← HMR.out]; exact range_row (by simpa using hSw.2.2)); go_simp⟩) hHeld ?_
      try simp only [Act.put, List.setIfInBounds_toArray, List.set_cons_zero, List.set_cons_succ]
      refine wpAnyH_ready (rs := [4, 9]) (by kernel_rfl) (by simp) ?_
      refine (AllReadyH.cons (o := { dst := some 49, op := Op.call { callee := Callee.value (Operand.func 9), args := #[Operand.tmp 47, Operand.tmp 48], argTypes := #[23, 9] }, type := 24, pos := "law.go:88", after := #[{ on := 2, ground := Ground.data }, { on := 3, ground := Ground.data }, { on := 1, ground := Ground.chain }, { on := 1, ground := Ground.guard }], guard := some (1, true) }) rfl (fun K hK => ?_) (AllReadyH.cons (o := { dst := some 54, op := Op.buildSlice 45 2 #[(0, Operand.tmp 51), (1, Operand.tmp 53)], type := 45, pos := "law.go:88", after := #[{ on := 6, ground := Ground.data }, { on := 8, ground := Ground.data }, { on := 1, ground := Ground.guard }], guard := some (1, true) }) rfl (fun K hK => ?_) AllReadyH.nil))
      · go_simp
        refine (C1.out _ HBc.out).mono ?_
        rintro e w4 ⟨rfl, hb4⟩
        replace HBc := hidk (HBc.out.trans (hb4.mono HBc.out.size))
        try replace HTX := hidk (HTX.out.keep hb4)
        go_wp2_with fail
        refine hK.out _ _ ⟨(hb4.block _ (heap_lt hHeld.1)).trans hHeld.1, (hb4.block _ (heap_lt hHeld.2.1)).trans hHeld.2.1, (hb4.block _ (heap_lt hHeld.2.2)).trans hHeld.2.2⟩ (fun hHeld => ?_)
        clear hK K
        try simp only [Act.put, List.setIfInBounds_toArray, List.set_cons_zero, List.set_cons_succ]
        refine wpAnyH_ready (rs := [9]) (by kernel_rfl) (by simp) ?_
        refine (AllReadyH.cons (o := { dst := some 54, op := Op.buildSlice 45 2 #[(0, Operand.tmp 51), (1, Operand.tmp 53)], type := 45, pos := "law.go:88", after := #[{ on := 6, ground := Ground.data }, { on := 8, ground := Ground.data }, { on := 1, ground := Ground.guard }], guard := some (1, true) }) rfl (fun K hK => ?_) AllReadyH.nil)
        go_simp
        have HTX := hidk (texts_new w4 [b2, x] 9)
        replace HBc := hidk (HBc.out.alloc HBc.out.size (.cells #[.string b2, .string x] 9))
        refine hK.out _ _ ⟨heap_keep hHeld.1, heap_keep hHeld.2.1, heap_keep hHeld.2.2⟩ (fun hHeld => ?_)
        clear hK K
        try simp only [Act.put, List.setIfInBounds_toArray, List.set_cons_zero, List.set_cons_succ]
        refine wpAnyH_ready (rs := [10]) (by kernel_rfl) (by simp) ?_
        refine (AllReadyH.cons (o := { dst := some 55, op := Op.call { callee := Callee.value (Operand.func 17), args := #[Operand.tmp 54], argTypes := #[45] }, type := 24, pos := "law.go:88", after := #[{ on := 9, ground := Ground.data }, { on := 4, ground := Ground.chain }, { on := 1, ground := Ground.guard }], guard := some (1, true) }) rfl (fun K hK => ?_) AllReadyH.nil)
        go_simp
        refine (O2.out _ _ HTX.out HBc.out).mono ?_
        rintro e w10 ⟨rfl, hb10⟩
        have HBF := hidk (HBc.out.trans (hb10.mono HBc.out.size))
        go_wp2_with fail
        refine hK.out _ _ ⟨(hb10.block _ (heap_lt hHeld.1)).trans hHeld.1, (hb10.block _ (heap_lt hHeld.2.1)).trans hHeld.2.1, (hb10.block _ (heap_lt hHeld.2.2)).trans hHeld.2.2⟩ (fun hHeld => ?_)
        clear hK K
        try simp only [Act.put, List.setIfInBounds_toArray, List.set_cons_zero, List.set_cons_succ]
        refine wpAnyH_take (i := 11) (oi := { dst := some 56, op := Op.binOp BinOp.eql 24 (Operand.tmp 49) (Operand.tmp 55) 24, type := 4, pos := "law.go:88", after := #[{ on := 4, ground := Ground.data }, { on := 10, ground := Ground.data }, { on := 1, ground := Ground.guard }], guard := some (1, true) }) (v := .bool true) rfl (by kernel_rfl) (by kernel_rfl) (by kernel_rfl) (fun _ _ _ h => h) (Or.inl ⟨by rfl, by intro W hSw; have := q1 W; go_simp⟩) hHeld ?_
        try simp only [Act.put, List.setIfInBounds_toArray, List.set_cons_zero, List.set_cons_succ]
        refine wpAnyH_take (i := 12) (oi := { dst := some 57, op := Op.pick (Operand.tmp 46) (Operand.tmp 56) (Operand.const (Value.bool false)), type := 4, pos := "law.go:88", after := #[{ on := 1, ground := Ground.data }, { on := 11, ground := Ground.data }], guard := none }) (v := .bool true) rfl (by kernel_rfl) (by kernel_rfl) (by kernel_rfl) (fun _ _ _ h => h) (Or.inl ⟨by rfl, by intro W hSw; go_simp⟩) hHeld ?_
        try simp only [Act.put, List.setIfInBounds_toArray, List.set_cons_zero, List.set_cons_succ]
        refine wpAnyH_take (i := 13) (oi := { dst := some 4, op := Op.assign (Operand.tmp 57), type := 4, pos := "law.go:88", after := #[{ on := 12, ground := Ground.data }, { on := 10, ground := Ground.chain }, { on := 0, ground := Ground.phase }, { on := 1, ground := Ground.phase }, { on := 2, ground := Ground.phase }, { on := 3, ground := Ground.phase }, { on := 4, ground := Ground.phase }, { on := 5, ground := Ground.phase }, { on := 6, ground := Ground.phase }, { on := 7, ground := Ground.phase }, { on := 8, ground := Ground.phase }, { on := 9, ground := Ground.phase }, { on := 10, ground := Ground.phase }, { on := 11, ground := Ground.phase }, { on := 12, ground := Ground.phase }], guard := none }) (v := .bool true) rfl (by kernel_rfl) (by kernel_rfl) (by kernel_rfl) (fun _ _ _ h => h) (Or.inl ⟨by rfl, by intro W hSw; go_simp⟩) hHeld ?_
        try simp only [Act.put, List.setIfInBounds_toArray, List.set_cons_zero, List.set_cons_succ]
        refine wpAnyH_done (by kernel_rfl) ?_ _
        go_wp2
        go_ret
        exact ⟨rfl, HBF.out⟩
      · go_simp
        have HTX := hidk (texts_new w0 [b2, x] 9)
        replace HBc := hidk (HBc.out.alloc HBc.out.size (.cells #[.string b2, .string x] 9))
        refine hK.out _ _ ⟨heap_keep hHeld.1, heap_keep hHeld.2.1, heap_keep hHeld.2.2⟩ (fun hHeld => ?_)
        clear hK K
        try simp only [Act.put, List.setIfInBounds_toArray, List.set_cons_zero, List.set_cons_succ]
        refine wpAnyH_ready (rs := [4]) (by kernel_rfl) (by simp) ?_
        refine (AllReadyH.cons (o := { dst := some 49, op := Op.call { callee := Callee.value (Operand.func 9), args := #[Operand.tmp 47, Operand.tmp 48], argTypes := #[23, 9] }, type := 24, pos := "law.go:88", after := #[{ on := 2, ground := Ground.data }, { on := 3, ground := Ground.data }, { on := 1, ground := Ground.chain }, { on := 1, ground := Ground.guard }], guard := some (1, true) }) rfl (fun K hK => ?_) AllReadyH.nil)
        go_simp
        refine (C1.out _ HBc.out).mono ?_
        rintro e w4 ⟨rfl, hb4⟩
        replace HBc := hidk (HBc.out.trans (hb4.mono HBc.out.size))
        try replace HTX := hidk (HTX.out.keep hb4)
        go_wp2_with fail
        refine hK.out _ _ ⟨(hb4.block _ (heap_lt hHeld.1)).trans hHeld.1, (hb4.block _ (heap_lt hHeld.2.1)).trans hHeld.2.1, (hb4.block _ (heap_lt hHeld.2.2)).trans hHeld.2.2⟩ (fun hHeld => ?_)
        clear hK K
        try simp only [Act.put, List.setIfInBounds_toArray, List.set_cons_zero, List.set_cons_succ]
        refine wpAnyH_ready (rs := [10]) (by kernel_rfl) (by simp) ?_
        refine (AllReadyH.cons (o := { dst := some 55, op := Op.call { callee := Callee.value (Operand.func 17), args := #[Operand.tmp 54], argTypes := #[45] }, type := 24, pos := "law.go:88", after := #[{ on := 9, ground := Ground.data }, { on := 4, ground := Ground.chain }, { on := 1, ground := Ground.guard }], guard := some (1, true) }) rfl (fun K hK => ?_) AllReadyH.nil)
        go_simp
        refine (O2.out _ _ HTX.out HBc.out).mono ?_
        rintro e w10 ⟨rfl, hb10⟩
        have HBF := hidk (HBc.out.trans (hb10.mono HBc.out.size))
        go_wp2_with fail
        refine hK.out _ _ ⟨(hb10.block _ (heap_lt hHeld.1)).trans hHeld.1, (hb10.block _ (heap_lt hHeld.2.1)).trans hHeld.2.1, (hb10.block _ (heap_lt hHeld.2.2)).trans hHeld.2.2⟩ (fun hHeld => ?_)
        clear hK K
        try simp only [Act.put, List.setIfInBounds_toArray, List.set_cons_zero, List.set_cons_succ]
        refine wpAnyH_take (i := 11) (oi := { dst := some 56, op := Op.binOp BinOp.eql 24 (Operand.tmp 49) (Operand.tmp 55) 24, type := 4, pos := "law.go:88", after := #[{ on := 4, ground := Ground.data }, { on := 10, ground := Ground.data }, { on := 1, ground := Ground.guard }], guard := some (1, true) }) (v := .bool true) rfl (by kernel_rfl) (by kernel_rfl) (by kernel_rfl) (fun _ _ _ h => h) (Or.inl ⟨by rfl, by intro W hSw; have := q1 W; go_simp⟩) hHeld ?_
        try simp only [Act.put, List.setIfInBounds_toArray, List.set_cons_zero, List.set_cons_succ]
        refine wpAnyH_take (i := 12) (oi := { dst := some 57, op := Op.pick (Operand.tmp 46) (Operand.tmp 56) (Operand.const (Value.bool false)), type := 4, pos := "law.go:88", after := #[{ on := 1, ground := Ground.data }, { on := 11, ground := Ground.data }], guard := none }) (v := .bool true) rfl (by kernel_rfl) (by kernel_rfl) (by kernel_rfl) (fun _ _ _ h => h) (Or.inl ⟨by rfl, by intro W hSw; go_simp⟩) hHeld ?_
        try simp only [Act.put, List.setIfInBounds_toArray, List.set_cons_zero, List.set_cons_succ]
        refine wpAnyH_take (i := 13) (oi := { dst := some 4, op := Op.assign (Operand.tmp 57), type := 4, pos := "law.go:88", after := #[{ on := 12, ground := Ground.data }, { on := 10, ground := Ground.chain }, { on := 0, ground := Ground.phase }, { on := 1, ground := Ground.phase }, { on := 2, ground := Ground.phase }, { on := 3, ground := Ground.phase }, { on := 4, ground := Ground.phase }, { on := 5, ground := Ground.phase }, { on := 6, ground := Ground.phase }, { on := 7, ground := Ground.phase }, { on := 8, ground := Ground.phase }, { on := 9, ground := Ground.phase }, { on := 10, ground := Ground.phase }, { on := 11, ground := Ground.phase }, { on := 12, ground := Ground.phase }], guard := none }) (v := .bool true) rfl (by kernel_rfl) (by kernel_rfl) (by kernel_rfl) (fun _ _ _ h => h) (Or.inl ⟨by rfl, by intro W hSw; go_simp⟩) hHeld ?_
        try simp only [Act.put, List.setIfInBounds_toArray, List.set_cons_zero, List.set_cons_succ]
        refine wpAnyH_done (by kernel_rfl) ?_ _
        go_wp2
        go_ret
        exact ⟨rfl, HBF.out⟩
end Go.Proofs.YtkmndchbmbhlhaaDoor
