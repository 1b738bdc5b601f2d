/- Texts of our own that the row of HeadTurned leans on, part 22. -/
import Derived.Test.YtdnhnjimhbbabaaDoorHeadTurnedJ20

/- What head.Sign answers. -/
namespace Go.Proofs.YtdnhnjimhbbabaaDoor
open Go.RowKit Sums Nums
set_option linter.unusedVariables false
set_option linter.unusedSimpArgs false
set_option maxRecDepth 100000
theorem builtS2 (h : HdT) (n : Int) (hd : h.d.length = 32) (C R : Array Value) (HC : Hid (C = (hcells h).toArray)) (HR : Hid (R = (scells ⟨h, n, List.replicate 32 0⟩).toArray)) : Tryd.prog.built 28 [(0, .agg C), (1, .int .i64 n)] = some R := by
  have hi := infoS
  have hzl := hcells_length zeroH rfl
  cases hq : Tryd.prog.info? 28 with
  | none => rw [hq] at hi; cases hi
  | some i =>
    rw [hq] at hi
    simp only [Option.map_some, Option.some.injEq, Prod.mk.injEq] at hi
    have hH := sizeH
    have hD := size23
    have h3 : (Tryd.prog.info? 3).map (·.size) = some 1 := by kernel_rfl
    cases hqH : Tryd.prog.info? 26 with
    | none => rw [hqH] at hH; cases hH
    | some iH =>
      cases hqD : Tryd.prog.info? 24 with
      | none => rw [hqD] at hD; cases hD
      | some iD =>
        cases hq3 : Tryd.prog.info? 3 with
        | none => rw [hq3] at h3; cases h3
        | some i3 =>
          rw [hqH] at hH
          rw [hqD] at hD
          rw [hq3] at h3
          simp only [Option.map_some, Option.some.injEq] at hH hD h3
          unfold Program.built
          simp only [hq, Tryd.underlying28, hi.1, List.mapM_cons, List.mapM_nil, hqH, hqD, hq3, hH, hD, h3, Option.map_some, Option.bind_eq_bind, Option.bind_some, Option.pure_def]
          show Instr.fill _ (scells zeroS).toArray _ = some R
          have hc36 : C.size = 36 := by rw [HC.out]; simp [hcells_length h hd]
          refine (fill_val _ 0 0 36 (.agg C) C _ [] (hcells zeroH) ([.int .i64 0] ++ cellsOf (List.replicate 32 0)) _ rfl rfl hc36 (by simp [scells, zeroS]) rfl hzl).trans ?_
          refine (fill_val _ 1 36 1 (.int .i64 n) #[.int .i64 n] _ C.toList [.int .i64 0] (cellsOf (List.replicate 32 0)) _ rfl rfl rfl (by simp) (by simpa using hc36) rfl).trans ?_
          simp only [Instr.fill, List.append_nil, Option.some.injEq]
          rw [HR.out, HC.out]
          rfl
/-- A row stored in the midst of a variable, as one step of a region that draws its order. -/
theorem step_set_mid {P : Program} {ops : Array Oper} {o : Oper} {a : Act} {w : World} {K : Act → World → Prop} {Q : Exit → Act → World → Prop} {E : Prop} (hw : Region.wanted o (yielded ops a.tmps) = true) (ty : TypeId) (x y : Operand) (ho : o.op = .store ty x y)
    (g k : Nat) (D : Array Value) (hx : a.eval x = .pointer (some ⟨g, k, none⟩)) (hy : a.eval y = .agg D) (t' : TypeId) (Z : Array Value) (hg : w.heap[g]? = some (.cells Z t' (0, 0))) (hk : k + D.size ≤ Z.size) (hi : (P.info? ty).map (·.size) = some D.size) (h1 : D.all (·.oneCell') = true)
    (h : ∀ w', Hid (Wrote g (Z.toList.take k ++ D.toList ++ Z.toList.drop (k + D.size)).toArray t' w w') → K (a.put o.dst undef) w') : if Region.wanted o (yielded ops a.tmps) = true then Oper.wp P o a w K Q else E := by
  rw [if_pos hw]
  have hkk := h _ (wrote_row hg)
  have h1' : ∀ v ∈ D.toList, v.oneCell' = true := by
    intro v hv
    rw [Array.all_eq_true'] at h1
    exact h1 v (by simpa using hv)
  have hst := run_storeCells_at P g k t' D.toList 0 Z w hg (by simpa using hk) h1'
  cases hq : P.info? ty with
  | none => simp [hq] at hi
  | some i =>
    have hs : i.size = D.size := by simpa [hq] using hi
    unfold Oper.wp execOp
    simp only [ho, hx, hy, Instr.storeAt, Instr.sureAddr, Sem.run_bind, Sem.run_pure, Result.andThen_ok]
    simp only [Nat.add_zero, Nat.zero_add] at hst
    simp [storeVar, sizeOf, typeInfo, hq, Value.cells, hs, hst]
    simp only [List.append_assoc] at hkk ⊢
    exact hkk
theorem scells_sign (h : HdT) (n : Int) (t d : List UInt8) (hd : h.d.length = 32) (ht : t.length = 32) : ((scells ⟨h, n, t⟩).toArray.toList.take 37 ++ cellsOf d ++ (scells ⟨h, n, t⟩).toArray.toList.drop (37 + 32)).toArray = (scells ⟨h, n, d⟩).toArray := by
  unfold scells
  congr 1
  have e : ∀ l : List Value, l.toArray.toList = l := fun _ => rfl
  simp only [e, List.drop_append, List.take_append, List.length_append, hcells_length h hd, cellsOf_length, ht, List.length_singleton]
  rw [List.take_of_length_le (l := hcells h) (by rw [hcells_length h hd]; omega), List.drop_of_length_le (l := hcells h) (by rw [hcells_length h hd]; omega), List.drop_of_length_le (l := cellsOf t) (by rw [cellsOf_length, ht]; omega)]
  simp
theorem signsO_may (h : HdT) (n : Int) (g : List UInt8) : mayS ⟨h, n, g⟩ = signsO h n := by
  unfold mayS signsO
  rw [Bool.and_assoc]
set_option maxHeartbeats 8000000 in
theorem hSign_any (master : List UInt8) (h : HdT) (n : Int) (w : World) (M C R : Array Value) (HM : Hid (M = (cellsOf master).toArray)) (HC : Hid (C = (hcells h).toArray)) (hm : master.length = 32) (hd : h.d.length = 32) (hT : TabT w) (HR : Hid (R = (scells (signO master h n)).toArray)) :
    Calls Tryd.prog 8 #[.agg M, .agg C, .int .i64 n] w fun e w' => e = .returned (.tuple #[.agg R, .int .i64 (signE h n)]) ∧ Below w.heap.size w w' := by
  have hnot : ∀ (x : Bool) (w : World), (Op.unary .not (.bool x)).run Tryd.prog w = .ok (.bool (!x)) w := fun _ _ => rfl
  obtain ⟨Z, HZ, HA, HBZ, H69⟩ := noughtsS
  obtain ⟨ZY, HZY, HAY, HY32⟩ := noughtsY
  have HSZ : Hid ((Tryd.prog.info? 28).map (·.size) = some Z.size) := by show _ = _; rw [sizeS, H69.out]
  have H1Z : Hid (Z.all (·.oneCell') = true) := by show _ = _; rw [HZ.out]; exact one_cellsS _
  have HSM : Hid ((Tryd.prog.info? 23).map (·.size) = some M.size) := by show _ = _; rw [sizeY, HM.out]; simp [cellsOf_length, hm]
  have HSC : Hid ((Tryd.prog.info? 26).map (·.size) = some C.size) := by show _ = _; rw [sizeH, HC.out]; simp [hcells_length h hd]
  obtain ⟨S0, HS0, HSS, H1S, HS69⟩ := sign_row ⟨h, n, List.replicate 32 0⟩ hd rfl
  have HZS : Hid (Z.size = S0.size) := by show _ = _; rw [H69.out, HS69.out]
  have HBS : Hid (Tryd.prog.built 28 [(0, .agg C), (1, .int .i64 n)] = some S0) := builtS2 h n hd C S0 HC HS0
  obtain ⟨b, hb⟩ : ∃ b, b = signsO h n := ⟨_, rfl⟩
  have K1 : Hid (∀ W, Calls Tryd.prog 23 #[.agg S0] W fun e w' => e = .returned (.bool b) ∧ Below W.heap.size W w') := fun W => by rw [hb, ← signsO_may h n (List.replicate 32 0)]; exact hMay_any ⟨h, n, List.replicate 32 0⟩ hd W S0 HS0
  have HW0 := hidk (came2 w M C 23 26)
  cases b
  · have HRZ : Hid (R = Z) := by
      show _ = _
      rw [HR.out, HZ.out]; unfold signO; rw [← hb]; rfl
    rw [show signE h n = 70 by unfold signE; rw [← hb]; rfl, HRZ.out]
    clear HM HC hm hT HR HS0 hb HRZ HZ H69 HZY HAY HY32
    go_enter Tryd.func8, Tryd.ntmps8
    go_wp2_with (first
      | (show wpList _ _ _ ({ dst := some 6, op := _, type := _, pos := _, after := _, guard := _ } :: _) _ _; refine wpList_new_var rfl 28 rfl Z HA.out ?_; intro g6 w1 HM6; try simp only [Act.put, List.setIfInBounds_toArray, List.set_cons_zero, List.set_cons_succ])
      | (show wpList _ _ _ ({ dst := some 11, op := _, type := _, pos := _, after := _, guard := _ } :: _) _ _; refine wpList_load_row rfl 26 (.tmp 4) rfl (w.heap.size + 1) rfl 26 C (0, 0) _ ((HM6.out.below.block _ (heap_lt HW0.out.2.2)).trans HW0.out.2.2) Tryd.underlying26 rfl HSC.out ?_; try simp only [Act.put, List.setIfInBounds_toArray, List.set_cons_zero, List.set_cons_succ])
      | (show wpList _ _ _ ({ dst := some 13, op := _, type := _, pos := _, after := _, guard := _ } :: _) _ _; refine wpList_build_two rfl 28 0 1 (.tmp 11) (.tmp 12) rfl S0 (.agg C) (.int .i64 n) rfl rfl HBS.out ?_; try simp only [Act.put, List.setIfInBounds_toArray, List.set_cons_zero, List.set_cons_succ])
      | (show wpList _ _ _ ({ dst := some 8, op := _, type := _, pos := _, after := _, guard := _ } :: _) _ _; refine wpList_new_var rfl 28 rfl Z HA.out ?_; intro g8 w2 HM8; try simp only [Act.put, List.setIfInBounds_toArray, List.set_cons_zero, List.set_cons_succ])
      | (refine wpList_set_var rfl 28 (.tmp 8) (.tmp 13) rfl g8 S0 rfl rfl 28 Z HM8.out.row HSS.out HZS.out H1S.out ?_; intro w3 HW8; try simp only [Act.put, List.setIfInBounds_toArray, List.set_cons_zero, List.set_cons_succ])
      | (show wpList _ _ _ ({ dst := some 14, op := _, type := _, pos := _, after := _, guard := _ } :: _) _ _; refine wpList_load_row rfl 28 (.tmp 8) rfl g8 rfl 28 S0 (0, 0) _ HW8.out.row Tryd.underlying28 rfl HSS.out ?_; try simp only [Act.put, List.setIfInBounds_toArray, List.set_cons_zero, List.set_cons_succ])
      | fail)
    have HB1 := hidk (HW0.out.1.trans (HM6.out.below.mono HW0.out.1.size))
    have h6 : w.heap.size ≤ g6 := by rw [HM6.out.new]; exact HW0.out.1.size
    have h8 : g6 < g8 := by rw [HM8.out.new]; exact heap_lt HM6.out.row
    have HB3 := hidk (HW8.out.below _ _ (HB1.out.trans (HM8.out.below.mono HB1.out.size)) (by omega))
    have HR6 := hidk ((HW8.out.other g6 (by omega)).trans ((HM8.out.below.block _ (heap_lt HM6.out.row)).trans HM6.out.row))
    clear HM6 HM8 HW8 HB1 HW0
    refine (K1.out _).mono ?_
    rintro e w4 ⟨rfl, hb4⟩
    have HB4 := hidk (HB3.out.trans (hb4.mono HB3.out.size))
    have HR64 := hidk ((hb4.block _ (heap_lt HR6.out)).trans HR6.out)
    clear hb4 HB3 HR6 K1
    go_wp2_with (first
      | (show wpList _ _ _ ({ dst := some 17, op := _, type := _, pos := _, after := _, guard := _ } :: _) _ _; refine wpList_build_none rfl 28 rfl Z HBZ.out ?_; try simp only [Act.put, List.setIfInBounds_toArray, List.set_cons_zero, List.set_cons_succ])
      | (refine wpList_set_var rfl 28 (.tmp 6) (.tmp 17) rfl g6 Z rfl rfl 28 Z HR64.out HSZ.out rfl H1Z.out ?_; intro w5 HW6; try simp only [Act.put, List.setIfInBounds_toArray, List.set_cons_zero, List.set_cons_succ])
      | fail)
    refine bodyPost_ret (v := .tuple #[.agg Z, .int .i64 70]) ?_ rfl ⟨rfl, HW6.out.below w.heap.size w HB4.out h6⟩
    exact results_row_tmp (p := 6) (q := 7) (ty := 28) rfl _ _ g6 28 Z (0, 0) _ rfl HW6.out.row Tryd.underlying28 rfl HSZ.out
  · have ho := signsO_owner h n hb.symm
    have hrt : rightH h = true := by
      have := hb.symm
      unfold signsO at this
      simp only [Bool.and_eq_true] at this
      exact this.1
    have hR2 : R = (scells ⟨h, n, tagD master h n⟩).toArray := by rw [HR.out]; unfold signO; rw [← hb]; rfl
    rw [show signE h n = 0 by unfold signE; rw [← hb]; rfl]
    obtain ⟨r, Hr⟩ : ∃ r, Hid (r = h.r) := ⟨h.r, hidk rfl⟩
    obtain ⟨Ky, HK, HSK, H1K, H32K⟩ := key_row (keyD master r n) (keyD_length sumD_length _ _ _)
    obtain ⟨u, HU⟩ : ∃ u, Hid (u = signT h) := ⟨_, hidk rfl⟩
    obtain ⟨D, HD, HSD, H1D, H32D⟩ := dig_row' (tagD master h n) (tagD_length sumD_length _ _ _)
    have HZK : Hid (ZY.size = Ky.size) := by show _ = _; rw [HY32.out, H32K.out]
    have C1 : Hid (∀ W, Below w.heap.size w W → Calls Tryd.prog 24 #[.agg M, .int .i64 r, .int .i64 n] W fun e w' => e = .returned (.tuple #[.agg Ky, .int .i64 0]) ∧ Below W.heap.size W w') := fun W hbw => by
      have := key_any master r n W M Ky HM hm (hT.keep hbw) (by show _ = _; rw [HK.out, keyO_in _ _ _ (by rw [Hr.out]; exact ho)])
      rwa [show keyE r n = 0 by unfold keyE; rw [if_pos (by rw [Hr.out]; exact ho)]] at this
    have T1 : Hid (∀ W, Calls Tryd.prog 26 #[.agg C] W fun e w' => e = .returned (.string u) ∧ Below W.heap.size W w') := fun W => by rw [HU.out]; exact hText_any h hd W C HC
    have C2 : Hid (∀ W, Below w.heap.size w W → Calls Tryd.prog 25 #[.agg Ky, .string u] W fun e w' => e = .returned (.agg D) ∧ Below W.heap.size W w') := fun W hbw =>
      mac_any (keyD master r n) u W Ky D HK (keyD_length sumD_length _ _ _) (by rw [HU.out]; exact signT_size h hd) (hT.keep hbw) (by show _ = _; rw [HD.out, HU.out, signT_right h hrt, Hr.out]; rfl)
    have HSR : Hid ((Tryd.prog.info? 28).map (·.size) = some R.size) := by show _ = _; rw [sizeS, hR2, List.size_toArray]; exact congrArg some (scells_length _ hd (tagD_length sumD_length _ _ _)).symm
    have H1R : Hid (R.all (·.oneCell') = true) := by show _ = _; rw [hR2]; exact one_cellsS _
    have HZR : Hid (Z.size = R.size) := by show _ = _; rw [H69.out, hR2, List.size_toArray]; exact (scells_length _ hd (tagD_length sumD_length _ _ _)).symm
    have HRR : Hid ((S0.toList.take 37 ++ D.toList ++ S0.toList.drop (37 + D.size)).toArray = R) := by
      show _ = _
      rw [H32D.out, HS0.out, HD.out, hR2]
      exact scells_sign h n (List.replicate 32 0) (tagD master h n) hd rfl
    have HOO : Hid (37 + D.size ≤ S0.size) := by show _ ≤ _; rw [H32D.out, HS69.out]; omega
    have HCr : Hid (∀ (W : World) (g : Nat), W.heap[g]? = some (.cells C 26 (0, 0)) → W.cell? ⟨g, 0, none⟩ = some (.int .i64 r)) := fun W g hh => by
      rw [cell_of_row W g 0 _ _ (0, 0) hh, HC.out, Hr.out]; rfl
    clear HM HC hm hT HR HS0 hb HZ H69 HZY HY32 HK HU HD hR2 ho hrt H32D HS69 H32K Hr
    go_enter Tryd.func8, Tryd.ntmps8
    go_wp2_with (first
      | (show wpList _ _ _ ({ dst := some 6, op := _, type := _, pos := _, after := _, guard := _ } :: _) _ _; refine wpList_new_var rfl 28 rfl Z HA.out ?_; intro g6 w1 HM6; try simp only [Act.put, List.setIfInBounds_toArray, List.set_cons_zero, List.set_cons_succ])
      | (show wpList _ _ _ ({ dst := some 11, op := _, type := _, pos := _, after := _, guard := _ } :: _) _ _; refine wpList_load_row rfl 26 (.tmp 4) rfl (w.heap.size + 1) rfl 26 C (0, 0) _ ((HM6.out.below.block _ (heap_lt HW0.out.2.2)).trans HW0.out.2.2) Tryd.underlying26 rfl HSC.out ?_; try simp only [Act.put, List.setIfInBounds_toArray, List.set_cons_zero, List.set_cons_succ])
      | (show wpList _ _ _ ({ dst := some 13, op := _, type := _, pos := _, after := _, guard := _ } :: _) _ _; refine wpList_build_two rfl 28 0 1 (.tmp 11) (.tmp 12) rfl S0 (.agg C) (.int .i64 n) rfl rfl HBS.out ?_; try simp only [Act.put, List.setIfInBounds_toArray, List.set_cons_zero, List.set_cons_succ])
      | (show wpList _ _ _ ({ dst := some 8, op := _, type := _, pos := _, after := _, guard := _ } :: _) _ _; refine wpList_new_var rfl 28 rfl Z HA.out ?_; intro g8 w2 HM8; try simp only [Act.put, List.setIfInBounds_toArray, List.set_cons_zero, List.set_cons_succ])
      | (refine wpList_set_var rfl 28 (.tmp 8) (.tmp 13) rfl g8 S0 rfl rfl 28 Z HM8.out.row HSS.out HZS.out H1S.out ?_; intro w3 HW8; try simp only [Act.put, List.setIfInBounds_toArray, List.set_cons_zero, List.set_cons_succ])
      | (show wpList _ _ _ ({ dst := some 14, op := _, type := _, pos := _, after := _, guard := _ } :: _) _ _; refine wpList_load_row rfl 28 (.tmp 8) rfl g8 rfl 28 S0 (0, 0) _ HW8.out.row Tryd.underlying28 rfl HSS.out ?_; try simp only [Act.put, List.setIfInBounds_toArray, List.set_cons_zero, List.set_cons_succ])
      | fail)
    have HB1 := hidk (HW0.out.1.trans (HM6.out.below.mono HW0.out.1.size))
    have h6 : w.heap.size + 1 < g6 := by rw [HM6.out.new]; exact heap_lt HW0.out.2.2
    have h8 : g6 < g8 := by rw [HM8.out.new]; exact heap_lt HM6.out.row
    have HBa := hidk (HM6.out.below.trans (HM8.out.below.mono HM6.out.below.size))
    have HB3 := hidk (HW8.out.below _ _ (HB1.out.trans (HM8.out.below.mono HB1.out.size)) (by omega))
    have HR6 := hidk ((HW8.out.other g6 (by omega)).trans ((HM8.out.below.block _ (heap_lt HM6.out.row)).trans HM6.out.row))
    have HR8 := hidk HW8.out.row
    have HRM := hidk ((HW8.out.other w.heap.size (by omega)).trans ((HBa.out.block _ (heap_lt HW0.out.2.1)).trans HW0.out.2.1))
    have HRC := hidk ((HW8.out.other (w.heap.size + 1) (by omega)).trans ((HBa.out.block _ (heap_lt HW0.out.2.2)).trans HW0.out.2.2))
    clear HM6 HM8 HW8 HB1 HW0 HBa
    refine (K1.out _).mono ?_
    rintro e w4 ⟨rfl, hb4⟩
    replace HB3 := hidk (HB3.out.trans (hb4.mono HB3.out.size))
    replace HR6 := hidk ((hb4.block _ (heap_lt HR6.out)).trans HR6.out)
    replace HR8 := hidk ((hb4.block _ (heap_lt HR8.out)).trans HR8.out)
    replace HRM := hidk ((hb4.block _ (heap_lt HRM.out)).trans HRM.out)
    replace HRC := hidk ((hb4.block _ (heap_lt HRC.out)).trans HRC.out)
    have hcr := HCr.out w4 _ HRC.out
    clear hb4 K1
    go_wp2_with (first
      | (show wpList _ _ _ ({ dst := some 19, op := _, type := _, pos := _, after := _, guard := _ } :: _) _ _; refine wpList_load_row rfl 23 (.tmp 3) rfl w.heap.size rfl 23 M (0, 0) _ HRM.out Tryd.underlying23 rfl HSM.out ?_; try simp only [Act.put, List.setIfInBounds_toArray, List.set_cons_zero, List.set_cons_succ])
      | fail)
    refine (C1.out _ HB3.out).mono ?_
    rintro e w5 ⟨rfl, hb5⟩
    replace HB3 := hidk (HB3.out.trans (hb5.mono HB3.out.size))
    replace HR6 := hidk ((hb5.block _ (heap_lt HR6.out)).trans HR6.out)
    replace HR8 := hidk ((hb5.block _ (heap_lt HR8.out)).trans HR8.out)
    replace HRC := hidk ((hb5.block _ (heap_lt HRC.out)).trans HRC.out)
    clear hb5 C1 hcr HRM HCr
    go_wp2_with (first
      | (show wpList _ _ _ ({ dst := some 9, op := _, type := _, pos := _, after := _, guard := _ } :: _) _ _; refine wpList_new_var rfl 23 rfl ZY HAY.out ?_; intro g9 w6 HM9; try simp only [Act.put, List.setIfInBounds_toArray, List.set_cons_zero, List.set_cons_succ])
      | (refine wpList_set_var rfl 23 (.tmp 9) (.tmp 24) rfl g9 Ky rfl rfl 23 ZY HM9.out.row HSK.out HZK.out H1K.out ?_; intro w7 HW9; try simp only [Act.put, List.setIfInBounds_toArray, List.set_cons_zero, List.set_cons_succ])
      | fail)
    have h9 : g8 < g9 := by rw [HM9.out.new]; exact heap_lt HR8.out
    have HBc : Hid (Below w.heap.size w w7.drew) := (HW9.out.below _ _ (HB3.out.trans (HM9.out.below.mono HB3.out.size)) (by omega)).drew
    replace HR6 := hidk ((HW9.out.other g6 (by omega)).trans ((HM9.out.below.block _ (heap_lt HR6.out)).trans HR6.out))
    replace HR8 := hidk ((HW9.out.other g8 (by omega)).trans ((HM9.out.below.block _ (heap_lt HR8.out)).trans HR8.out))
    replace HRC := hidk ((HW9.out.other (w.heap.size + 1) (by omega)).trans ((HM9.out.below.block _ (heap_lt HRC.out)).trans HRC.out))
    have HR9 := hidk HW9.out.row
    clear HM9 HW9 HB3
    refine wp_region_held_drew (S := (fun W => W.heap[g9]? = some (.cells Ky 23 (0, 0)) ∧ W.heap[w.heap.size + 1]? = some (.cells C 26 (0, 0)))) (by kernel_rfl) ⟨HR9.out, HRC.out⟩ (fun hHeld => ?_)
    refine wpAnyH_take (i := 0) (oi := { dst := some 26, op := Op.load 23 (Operand.tmp 9), type := 23, pos := "head.go:79", after := #[], guard := none }) (v := .agg Ky) rfl (by kernel_rfl) (by kernel_rfl) (by kernel_rfl) (fun _ _ _ h => h) (yieldsIf_row (by rfl) 23 (.tmp 9) rfl g9 rfl 23 Ky (0, 0) _ (fun _ h => h.1) Tryd.underlying23 rfl HSK.out) hHeld ?_
    try simp only [Act.put, List.setIfInBounds_toArray, List.set_cons_zero, List.set_cons_succ]
    refine wpAnyH_take (i := 1) (oi := { dst := some 27, op := Op.load 26 (Operand.tmp 4), type := 26, pos := "head.go:79", after := #[], guard := none }) (v := .agg C) rfl (by kernel_rfl) (by kernel_rfl) (by kernel_rfl) (fun _ _ _ h => h) (yieldsIf_row (by rfl) 26 (.tmp 4) rfl (w.heap.size + 1) rfl 26 C (0, 0) _ (fun _ h => h.2) Tryd.underlying26 rfl HSC.out) hHeld ?_
    try simp only [Act.put, List.setIfInBounds_toArray, List.set_cons_zero, List.set_cons_succ]
    refine wpAnyH_ready (rs := [2]) (by kernel_rfl) (by simp) ?_
    refine (AllReadyH.cons (o := { dst := some 28, op := Op.call { callee := Callee.value (Operand.func 26), args := #[Operand.tmp 27], argTypes := #[26] }, type := 9, pos := "head.go:79", after := #[{ on := 1, ground := Ground.data }], guard := none }) rfl (fun K hK => ?_) AllReadyH.nil)
    go_simp
    refine (T1.out _).mono ?_
    rintro e v2 ⟨rfl, hb2⟩
    replace HBc := hidk (HBc.out.trans (hb2.mono HBc.out.size))
    replace HR6 := hidk ((hb2.block _ (heap_lt HR6.out)).trans HR6.out)
    replace HR8 := hidk ((hb2.block _ (heap_lt HR8.out)).trans HR8.out)
    go_wp2_with fail
    refine hK.out _ _ ⟨(hb2.block _ (heap_lt hHeld.1)).trans hHeld.1, (hb2.block _ (heap_lt hHeld.2)).trans hHeld.2⟩ (fun hHeld => ?_)
    clear hK K
    try simp only [Act.put, List.setIfInBounds_toArray, List.set_cons_zero, List.set_cons_succ]
    refine wpAnyH_ready (rs := [3]) (by kernel_rfl) (by simp) ?_
    refine (AllReadyH.cons (o := { dst := some 29, op := Op.call { callee := Callee.value (Operand.func 25), args := #[Operand.tmp 26, Operand.tmp 28], argTypes := #[23, 9] }, type := 24, pos := "head.go:79", after := #[{ on := 0, ground := Ground.data }, { on := 2, ground := Ground.data }, { on := 2, ground := Ground.chain }], guard := none }) rfl (fun K hK => ?_) AllReadyH.nil)
    go_simp
    refine (C2.out _ HBc.out).mono ?_
    rintro e v3 ⟨rfl, hb3⟩
    replace HBc := hidk (HBc.out.trans (hb3.mono HBc.out.size))
    replace HR6 := hidk ((hb3.block _ (heap_lt HR6.out)).trans HR6.out)
    replace HR8 := hidk ((hb3.block _ (heap_lt HR8.out)).trans HR8.out)
    go_wp2_with fail
    refine hK.out _ _ ⟨(hb3.block _ (heap_lt hHeld.1)).trans hHeld.1, (hb3.block _ (heap_lt hHeld.2)).trans hHeld.2⟩ (fun hHeld => ?_)
    clear hK K
    try simp only [Act.put, List.setIfInBounds_toArray, List.set_cons_zero, List.set_cons_succ]
    refine wpAnyH_take (i := 4) (oi := { dst := some 30, op := Op.fieldAddr 28 (Operand.tmp 8) 2, type := 0, pos := "head.go:79", after := #[{ on := 0, ground := Ground.phase }, { on := 1, ground := Ground.phase }, { on := 2, ground := Ground.phase }, { on := 3, ground := Ground.phase }], guard := none }) (v := .pointer (some ⟨g8, 37, none⟩)) rfl (by kernel_rfl) (by kernel_rfl) (by kernel_rfl) (fun _ _ _ h => h) (Or.inl ⟨by rfl, by intro W hSw; go_simp⟩) hHeld ?_
    try simp only [Act.put, List.setIfInBounds_toArray, List.set_cons_zero, List.set_cons_succ]
    refine wpAnyH_ready (rs := [5]) (by kernel_rfl) (by simp) ?_
    refine (AllReadyH.cons (o := { dst := none, op := Op.store 24 (Operand.tmp 30) (Operand.tmp 29), type := 0, pos := "head.go:79", after := #[{ on := 4, ground := Ground.data }, { on := 3, ground := Ground.data }, { on := 3, ground := Ground.chain }, { on := 0, ground := Ground.phase }, { on := 1, ground := Ground.phase }, { on := 2, ground := Ground.phase }, { on := 3, ground := Ground.phase }], guard := none }) rfl (fun K hK => ?_) AllReadyH.nil)
    refine step_set_mid (by rfl) 24 (.tmp 30) (.tmp 29) rfl g8 37 D rfl rfl 28 S0 HR8.out HOO.out HSD.out H1D.out ?_
    intro v5 HW8
    refine hK.out _ _ ⟨(HW8.out.other g9 (by omega)).trans hHeld.1, (HW8.out.other (w.heap.size + 1) (by omega)).trans hHeld.2⟩ (fun hHeld => ?_)
    clear hK K
    try simp only [Act.put, List.setIfInBounds_toArray, List.set_cons_zero, List.set_cons_succ]
    refine wpAnyH_done (by kernel_rfl) ?_ _
    have HB8 := hidk (HW8.out.below w.heap.size w HBc.out (by omega))
    have HR68 := hidk ((HW8.out.other g6 (by omega)).trans HR6.out)
    have HR88 := hidk HW8.out.row
    rw [HRR.out] at HR88
    clear HW8 HBc HR6 HR8
    go_wp2_with (first
      | (show wpList _ _ _ ({ dst := some 31, op := _, type := _, pos := _, after := _, guard := _ } :: _) _ _; refine wpList_load_row rfl 28 (.tmp 8) rfl g8 rfl 28 R (0, 0) _ HR88.out Tryd.underlying28 rfl HSR.out ?_; try simp only [Act.put, List.setIfInBounds_toArray, List.set_cons_zero, List.set_cons_succ])
      | (refine wpList_set_var rfl 28 (.tmp 6) (.tmp 31) rfl g6 R rfl rfl 28 Z HR68.out HSR.out HZR.out H1R.out ?_; intro w9 HW6; try simp only [Act.put, List.setIfInBounds_toArray, List.set_cons_zero, List.set_cons_succ])
      | fail)
    refine bodyPost_ret (v := .tuple #[.agg R, .int .i64 0]) ?_ rfl ⟨rfl, HW6.out.below w.heap.size w HB8.out (by omega)⟩
    exact results_row_tmp (p := 6) (q := 7) (ty := 28) rfl _ _ g6 28 R (0, 0) _ rfl HW6.out.row Tryd.underlying28 rfl HSR.out
end Go.Proofs.YtdnhnjimhbbabaaDoor

/- What head.GetSigned answers. -/
namespace Go.Proofs.YtdnhnjimhbbabaaDoor
open Go.RowKit Sums Nums
set_option linter.unusedVariables false
set_option linter.unusedSimpArgs false
set_option maxRecDepth 100000
def hV (tag : Int) (fs : List (Int × ByteArray)) : HdT := getHO (tkD tag fs).data.toList
def hB (tag : Int) (fs : List (Int × ByteArray)) : Bool := tkB tag fs && (getO (tkD tag fs).data.toList).isSome
theorem hV_digs (tag : Int) (fs : List (Int × ByteArray)) : (hV tag fs).d.length = 32 := getHO_digs _
set_option maxHeartbeats 4000000 in
theorem rhead_any (W : World) (lo g : Nat) (fs : List (Int × ByteArray)) (tag : Int) (h : Rd W lo g fs) (hsz : (tkD tag fs).size ≤ 1000000) (D : Array Value) (HD : Hid (D = (hcells (hV tag fs)).toArray)) :
    Calls Tryd.prog 41 #[.pointer (some ⟨g, 0, none⟩), .int .i64 tag] W fun e w' => e = .returned (.tuple #[.agg D, .bool (hB tag fs)]) ∧ W.grownBy w' (some g) ∧ Rd w' lo g (tkR tag fs) := by
  obtain ⟨Z, HZ, HA, HBZ, H36⟩ := noughtsH
  have HH := hidk h
  have D1 : Hid (∀ V, Rd V lo g fs → Calls Tryd.prog 64 #[.pointer (some ⟨g, 0, none⟩), .int .i64 tag] V fun e w' => e = .returned (.tuple #[.string (tkD tag fs), .bool (tkB tag fs)]) ∧ V.grownBy w' (some g) ∧ Rd w' lo g (tkR tag fs)) := fun V hV => data_any V lo g fs tag hV
  have hlt := h.lt
  have hD36 : D.size = 36 := by rw [HD.out, List.size_toArray]; exact hcells_length _ (hV_digs tag fs)
  have HSD : Hid ((Tryd.prog.info? 26).map (·.size) = some D.size) := by show _ = _; rw [sizeH, hD36]
  have H1D : Hid (D.all (·.oneCell') = true) := by show _ = _; rw [HD.out]; exact one_cells _
  have HZD : Hid (Z.size = D.size) := by show _ = _; rw [H36.out, hD36]
  obtain ⟨E, hE⟩ : ∃ E, E = getHE (tkD tag fs).data.toList := ⟨_, rfl⟩
  have G1 : Hid (∀ V a c, Reads V a (tkD tag fs).size c (tkD tag fs).data.toList → Calls Tryd.prog 18 #[.slice a (tkD tag fs).size c] V fun e w' => e = .returned (.tuple #[.agg D, .int .i64 E]) ∧ Below V.heap.size V w') := fun V a c hr => by rw [hE]; exact hGet_any a _ c _ V hr hsz D HD
  have hE2 : (E = 0 ∧ (getO (tkD tag fs).data.toList).isSome = true) ∨ (E = 70 ∧ (getO (tkD tag fs).data.toList).isSome = false) := by
    rw [hE]; unfold getHE
    cases (getO (tkD tag fs).data.toList).isSome
    · exact .inr ⟨rfl, rfl⟩
    · exact .inl ⟨rfl, rfl⟩
  unfold hB
  obtain ⟨d, hd⟩ : ∃ d, d = tkD tag fs := ⟨_, rfl⟩
  obtain ⟨b, hb⟩ : ∃ b, b = tkB tag fs := ⟨_, rfl⟩
  obtain ⟨r, hr⟩ : ∃ r, r = tkR tag fs := ⟨_, rfl⟩
  simp only [← hd, ← hb, ← hr] at D1 G1 hE2 hsz ⊢
  have hml : d.size ≤ maxLen := by unfold maxLen; omega
  clear hd hb hr h HD HZ hE hD36
  rcases hE2 with ⟨rfl, hq⟩ | ⟨rfl, hq⟩
  all_goals
    rw [hq]
    clear hq
    cases b
    all_goals
      go_enter Tryd.func41, Tryd.ntmps41
      go_wp2_with (first
        | (show wpList _ _ _ ({ dst := some 4, op := _, type := _, pos := _, after := _, guard := _ } :: _) _ _; refine wpList_new_var rfl 26 rfl Z HA.out ?_; intro g4 w1 HM4; try simp only [Act.put, List.setIfInBounds_toArray, List.set_cons_zero, List.set_cons_succ])
        | fail)
      refine (D1.out w1 (HH.out.below HM4.out.below)).mono ?_
      rintro e w2 ⟨rfl, hg2, hr2⟩
      have HG2 := hidk (grown_trans (grown_below HM4.out.below) hg2)
      have HR2 := hidk hr2
      have h4 : W.heap.size ≤ g4 := Nat.le_of_eq HM4.out.new.symm
      have HR4 : Hid (w2.heap[g4]? = some (.cells Z 26 (0, 0))) := (hg2.block _ (heap_lt HM4.out.row) (by intro e; cases e; omega)).trans HM4.out.row
      clear hg2 hr2 HM4 D1 HH
      go_wp2_with (first
        | (show wpList _ _ _ ({ dst := some 18, op := _, type := _, pos := _, after := _, guard := _ } :: _) _ _; refine wpList_conv_text rfl 9 35 5 (.tmp 17) rfl d rfl Tryd.underlying9 Tryd.underlying35 Tryd.underlying5 hml ?_; intro a3 c3 w3 HV; try simp only [Act.put, List.setIfInBounds_toArray, List.set_cons_zero, List.set_cons_succ])
        | fail)
      refine (G1.out _ _ _ HV.out.1).mono ?_
      rintro e w5 ⟨rfl, hb5⟩
      have hbb := HV.out.2.trans (hb5.mono HV.out.2.size)
      have HG5 := hidk (grown_trans HG2.out (grown_below hbb))
      have HR5 := hidk (HR2.out.below hbb)
      have HR45 := hidk ((hbb.block _ (heap_lt HR4.out)).trans HR4.out)
      clear hb5 hbb HV HG2 HR2 HR4
      go_wp2_with (first
        | (show wpList _ _ _ ({ dst := some 8, op := _, type := _, pos := _, after := _, guard := _ } :: _) _ _; refine wpList_new_var rfl 26 rfl Z HA.out ?_; intro g8 w6 HM8; try simp only [Act.put, List.setIfInBounds_toArray, List.set_cons_zero, List.set_cons_succ])
        | (refine wpList_set_var rfl 26 (.tmp 8) (.tmp 20) rfl g8 D rfl rfl 26 Z HM8.out.row HSD.out HZD.out H1D.out ?_; intro w7 HW8; try simp only [Act.put, List.setIfInBounds_toArray, List.set_cons_zero, List.set_cons_succ])
        | (show wpList _ _ _ ({ dst := some 22, op := _, type := _, pos := _, after := _, guard := _ } :: _) _ _; refine wpList_load_row rfl 26 (.tmp 8) rfl g8 rfl 26 D (0, 0) _ HW8.out.row Tryd.underlying26 rfl HSD.out ?_; try simp only [Act.put, List.setIfInBounds_toArray, List.set_cons_zero, List.set_cons_succ])
        | (refine wpList_set_var rfl 26 (.tmp 4) (.tmp 22) rfl g4 D rfl rfl 26 Z ((HW8.out.other _ (by have e1 := HM8.out.new; have := heap_lt HR45.out; omega)).trans ((HM8.out.below.block _ (heap_lt HR45.out)).trans HR45.out)) HSD.out HZD.out H1D.out ?_; intro w8 HW4; try simp only [Act.put, List.setIfInBounds_toArray, List.set_cons_zero, List.set_cons_succ])
        | fail)
      have h8 : w5.heap.size ≤ g8 := Nat.le_of_eq HM8.out.new.symm
      have hg5 := HR5.out.lt
      have hs5 := HG5.out.size
      refine bodyPost_ret (v := .tuple #[.agg D, .bool _]) ?_ rfl ⟨rfl, grown_wrote (grown_wrote (grown_trans HG5.out (grown_below HM8.out.below)) HW8.out (by omega)) HW4.out h4, ((HR5.out.below HM8.out.below).wrote HW8.out (.inr (by omega))).wrote HW4.out (.inr (by omega))⟩
      exact results_row_tmp (p := 4) (q := 5) (ty := 26) rfl _ _ g4 26 D (0, 0) _ rfl HW4.out.row Tryd.underlying26 rfl HSD.out
set_option maxHeartbeats 2000000 in
theorem into_head (W : World) (lo g gh off : Nat) (fs : List (Int × ByteArray)) (tag : Int) (h : Rd W lo g fs) (hsz : (tkD tag fs).size ≤ 1000000) (C C' D : Array Value) (t : TypeId) (hC : W.heap[gh]? = some (.cells C t (0, 0))) (ho : off + 36 ≤ C.size) (hl : gh < lo) (HD : Hid (D = (hcells (hV tag fs)).toArray)) (HC' : Hid (C' = (C.toList.take off ++ D.toList ++ C.toList.drop (off + 36)).toArray)) :
    Calls Tryd.prog 40 #[.pointer (some ⟨gh, off, none⟩), .int .i64 tag, .func (.func 41) #[.pointer (some ⟨g, 0, none⟩)] #[]] W fun e w' =>
      e = .returned (.bool (hB tag fs)) ∧ w'.heap[gh]? = some (.cells C' t (0, 0)) ∧ Rd w' lo g (tkR tag fs) ∧ Went gh g W w' := by
  obtain ⟨Z, HZ, HA, HBZ, H36⟩ := noughtsH
  have N1 := hidk (rhead_any W lo g fs tag h hsz D HD)
  have hlt := h.lt
  have hD36 : D.size = 36 := by rw [HD.out, List.size_toArray]; exact hcells_length _ (hV_digs tag fs)
  have HSD : Hid ((Tryd.prog.info? 26).map (·.size) = some D.size) := by show _ = _; rw [sizeH, hD36]
  have H1D : Hid (D.all (·.oneCell') = true) := by show _ = _; rw [HD.out]; exact one_cells _
  have HZD : Hid (Z.size = D.size) := by show _ = _; rw [H36.out, hD36]
  have hgg : gh ≠ g := by obtain ⟨_, _, _, q, _⟩ := h; omega
  have HCC : Hid (C' = (C.toList.take off ++ D.toList ++ C.toList.drop (off + D.size)).toArray) := by show _ = _; rw [hD36, HC'.out]
  have HOO : Hid (off + D.size ≤ C.size) := by show _ ≤ _; rw [hD36]; exact ho
  have HC := hidk hC
  obtain ⟨b, hb⟩ : ∃ n, n = hB tag fs := ⟨_, rfl⟩
  rw [← hb] at N1
  rw [← hb]
  clear HC' hb hC HD hD36 HZ ho HBZ H36
  go_enter Tryd.func40, Tryd.ntmps40
  go_wp2_with fail
  refine N1.out.mono ?_
  rintro e w1 ⟨rfl, hg1, hr1⟩
  have HG := hidk hg1
  have HR := hidk hr1
  have HC1 := hidk ((hg1.block _ (heap_lt HC.out) (by intro e; cases e; exact hgg rfl)).trans HC.out)
  have hs1 := hg1.size
  clear hg1 hr1 h
  go_wp2_with (first
    | (show wpList _ _ _ ({ dst := some 7, op := _, type := _, pos := _, after := _, guard := _ } :: _) _ _; refine wpList_new_var rfl 26 rfl Z HA.out ?_; intro g7 w2 HM7; try simp only [Act.put, List.setIfInBounds_toArray, List.set_cons_zero, List.set_cons_succ])
    | (refine wpList_set_var rfl 26 (.tmp 7) (.tmp 13) rfl g7 D rfl rfl 26 Z HM7.out.row HSD.out HZD.out H1D.out ?_; intro w3 HW7; try simp only [Act.put, List.setIfInBounds_toArray, List.set_cons_zero, List.set_cons_succ])
    | (show wpList _ _ _ ({ dst := some 16, op := _, type := _, pos := _, after := _, guard := _ } :: _) _ _; refine wpList_load_row rfl 26 (.tmp 7) rfl g7 rfl 26 D (0, 0) _ HW7.out.row Tryd.underlying26 rfl HSD.out ?_; try simp only [Act.put, List.setIfInBounds_toArray, List.set_cons_zero, List.set_cons_succ])
    | (refine wpList_set_mid rfl 26 (.tmp 17) (.tmp 16) rfl gh off D rfl rfl t C ((HW7.out.other _ (by have e1 := HM7.out.new; have := heap_lt HC1.out; omega)).trans ((HM7.out.below.block _ (heap_lt HC1.out)).trans HC1.out)) HOO.out HSD.out H1D.out ?_; intro w4 HW; try simp only [Act.put, List.setIfInBounds_toArray, List.set_cons_zero, List.set_cons_succ])
    | fail)
  have h7 : w1.heap.size ≤ g7 := Nat.le_of_eq HM7.out.new.symm
  have HG2 := hidk (grown_wrote (grown_trans HG.out (grown_below HM7.out.below)) HW7.out (Nat.le_trans HG.out.size h7))
  have hb1 := HR.out.lt
  go_ret
  refine ⟨rfl, ?_, ((HR.out.below HM7.out.below).wrote HW7.out (.inr (by omega))).wrote HW.out (.inl hl), went_of HG2.out HW.out hlt⟩
  rw [HCC.out]
  exact HW.out.row
theorem gt_head {w W : World} {g2 g4 g5 lo : Nat} {Z C C' : Array Value} {T : TypeId} {fs fs' : List (Int × ByteArray)} (tag : Int) (off : Nat) (b : Bool) (h : GtS w W g2 g4 g5 lo Z C T fs) (hsz : (tkD tag fs).size ≤ 1000000) (ho : off + 36 ≤ C.size) (hC : C' = (C.toList.take off ++ hcells (hV tag fs) ++ C.toList.drop (off + 36)).toArray) (hb : b = hB tag fs) (hf : fs' = tkR tag fs) :
    Calls Tryd.prog 40 #[.pointer (some ⟨g4, off, none⟩), .int .i64 tag, .func (.func 41) #[.pointer (some ⟨g5, 0, none⟩)] #[]] W fun e w' => e = .returned (.bool b) ∧ GtS w w' g2 g4 g5 lo Z C' T fs' := by
  subst hb hf
  refine (into_head W lo g5 g4 off fs tag h.rd hsz C C' (hcells (hV tag fs)).toArray T h.r4 ho h.ol (hidk rfl) (by show _ = _; rw [hC])).mono ?_
  rintro e w' ⟨rfl, h1, h2, h3⟩
  exact ⟨rfl, h.went h1 h2 h3⟩
theorem readF_64 (bs : List UInt8) : ∀ f ∈ readF bs, f.2.size ≤ 65536 := by
  intro f hf
  unfold readF at hf
  by_cases h : readE bs = 0
  · rw [if_pos h] at hf
    unfold toF at hf
    obtain ⟨x, hx, rfl⟩ := List.mem_map.1 hf
    have := parse_small _ _ _ x hx
    show x.d.toArray.size ≤ 65536
    simp
    omega
  · rw [if_neg h] at hf; simp at hf
theorem tkD_le (tag : Int) (fs : List (Int × ByteArray)) (n : Nat) (h : ∀ f ∈ fs, f.2.size ≤ n) : (tkD tag fs).size ≤ n := by
  cases fs with
  | nil => exact Nat.zero_le _
  | cons f r =>
    by_cases e : f.1 = tag
    · rw [show tkD tag (f :: r) = f.2 from if_pos e]; exact h f (List.mem_cons_self ..)
    · rw [show tkD tag (f :: r) = ⟨#[]⟩ from if_neg e]; exact Nat.zero_le _
theorem hB_tk {tag : Int} {fs : List (Int × ByteArray)} (h : hB tag fs = true) : tkB tag fs = true ∧ getO (tkD tag fs).data.toList = some (hV tag fs) := by
  unfold hB at h
  simp only [Bool.and_eq_true] at h
  refine ⟨h.1, ?_⟩
  unfold hV getHO
  cases hg : getO (tkD tag fs).data.toList with
  | none => rw [hg] at h; cases h.2
  | some x => rfl
def seqS (f0 : List (Int × ByteArray)) : SgT := ⟨hV 1 f0, nV 2 (tkR 1 f0), dV 3 (tkR 2 (tkR 1 f0))⟩
def allS (f0 : List (Int × ByteArray)) : Bool := hB 1 f0 && (nB 2 (tkR 1 f0) && (dB 3 (tkR 2 (tkR 1 f0)) && (decide ((tkR 3 (tkR 2 (tkR 1 f0))).length = 0) && mayS (seqS f0))))
theorem get_seqS (bs : List UInt8) : Go.Proofs.YtdnhnjimhbbabaaDoor.getS bs = if allS (readF bs) = true then some (seqS (readF bs)) else none := by
  by_cases h0 : readE bs = 0
  · by_cases ha : allS (readF bs) = true
    · rw [if_pos ha]
      obtain ⟨f0, hf0⟩ : ∃ f, f = readF bs := ⟨_, rfl⟩
      rw [← hf0] at ha ⊢
      unfold allS at ha
      simp only [Bool.and_eq_true, decide_eq_true_eq] at ha
      obtain ⟨a1, a2, a3, a6, a7⟩ := ha
      have s1 := tk_shape (hB_tk a1).1
      have s2 := tk_shape (nB_tk a2).1
      have s3 := tk_shape (dB_tk a3).1
      have s6 := List.eq_nil_of_length_eq_zero a6
      have hh : seqS f0 = ⟨hV 1 f0, valO (tkD 2 (tkR 1 f0)).data.toList, (tkD 3 (tkR 2 (tkR 1 f0))).data.toList⟩ := by
        unfold seqS
        rw [nV_val a2, dV_yes a3]
      have hx := (dB_tk a3).2
      have hg1 := (hB_tk a1).2
      obtain ⟨x1, e1⟩ : ∃ x, x = tkD 1 f0 := ⟨_, rfl⟩
      obtain ⟨x2, e2⟩ : ∃ x, x = tkD 2 (tkR 1 f0) := ⟨_, rfl⟩
      obtain ⟨x3, e3⟩ : ∃ x, x = tkD 3 (tkR 2 (tkR 1 f0)) := ⟨_, rfl⟩
      rw [← e2, ← e3] at hh
      rw [← e3] at hx
      rw [← e1] at hg1
      have hs : readF bs = fieldsN [x1, x2, x3] := by
        rw [s6, ← e3] at s3
        rw [s3, ← e2] at s2
        rw [s2, ← e1] at s1
        rw [← hf0, s1]
        rfl
      have hp : partsO bs 3 = some [x1, x2, x3] := partsO_of h0 hs
      unfold Go.Proofs.YtdnhnjimhbbabaaDoor.getS
      rw [hp]
      show (match getO x1.data.toList with | some h => if x3.size = 32 ∧ mayS ⟨h, valO x2.data.toList, x3.data.toList⟩ = true then some (⟨h, valO x2.data.toList, x3.data.toList⟩ : SgT) else none | none => none) = _
      rw [hg1]
      show (if x3.size = 32 ∧ mayS ⟨hV 1 f0, valO x2.data.toList, x3.data.toList⟩ = true then some (⟨hV 1 f0, valO x2.data.toList, x3.data.toList⟩ : SgT) else none) = _
      rw [← hh, if_pos ⟨hx, a7⟩]
    · rw [if_neg ha]
      cases hg : Go.Proofs.YtdnhnjimhbbabaaDoor.getS bs with
      | none => rfl
      | some s =>
        exfalso
        apply ha
        unfold Go.Proofs.YtdnhnjimhbbabaaDoor.getS at hg
        split at hg
        · rename_i x1 x2 x3 hp
          split at hg
          · rename_i h1 hg1
            split at hg
            · rename_i hh
              have hr := (mayS_iff _).1 hh.2
              simp only at hr
              have hf := (partsO_fields hp).2.1
              rw [hf]
              have n2 := valO_num (l := x2.data.toList) (by omega)
              have hhv : hV 1 [((1 : Int), x1), (2, x2), (3, x3)] = h1 := by
                unfold hV getHO
                rw [tkD_hit, hg1]
                rfl
              have hhb : hB 1 [((1 : Int), x1), (2, x2), (3, x3)] = true := by
                unfold hB
                rw [tkB_hit, tkD_hit, hg1]
                rfl
              have hq : seqS [((1 : Int), x1), (2, x2), (3, x3)] = ⟨h1, valO x2.data.toList, x3.data.toList⟩ := by
                unfold seqS
                rw [hhv]
                simp only [tkR_hit, nV_hit]
                rw [dV_yes (by rw [dB_hit]; simpa using hh.1), tkD_hit]
                unfold vOf valO
                rw [if_pos n2, if_pos n2]
              show allS [((1 : Int), x1), (2, x2), (3, x3)] = true
              unfold allS
              rw [hq, hhb]
              simp only [tkR_hit, nB_hit, dB_hit, n2, hh.2, List.length_nil, Bool.true_and, Bool.and_true, decide_true]
              simpa using hh.1
            · cases hg
          · cases hg
        · cases hg
  · have hf := readF_none h0
    have hg : Go.Proofs.YtdnhnjimhbbabaaDoor.getS bs = none := by
      cases hg : partsO bs 3 with
      | none => unfold Go.Proofs.YtdnhnjimhbbabaaDoor.getS; rw [hg]
      | some l => exact absurd (partsO_fields hg).1 h0
    rw [hg, hf, if_neg]
    intro h
    cases h
theorem scells_zero (o : HdT) (h : HdT) (n : Int) (t : List UInt8) (hd : h.d.length = 32) : ((scells ⟨h, n, t⟩).toArray.toList.take 0 ++ hcells o ++ (scells ⟨h, n, t⟩).toArray.toList.drop (0 + 36)).toArray = (scells ⟨o, n, t⟩).toArray := by
  unfold scells
  congr 1
  simp [List.drop_append, hcells_length h hd]
theorem scells_node (h : HdT) (n v : Int) (t : List UInt8) (hd : h.d.length = 32) : (scells ⟨h, n, t⟩).toArray.setIfInBounds 36 (.int .i64 v) = (scells ⟨h, v, t⟩).toArray := by
  unfold scells
  rw [List.setIfInBounds_toArray]
  congr 1
  rw [List.append_assoc, List.append_assoc, List.set_append_right _ _ (by simp [hcells_length h hd])]
  simp [hcells_length h hd]
set_option maxHeartbeats 8000000 in
theorem hGetS_any (a : Option Addr) (len cap : Nat) (bs : List UInt8) (w : World) (hR : Reads w a len cap bs) (hl : len ≤ 1000000) (R : Array Value) (HR : Hid (R = (scells (getSO bs)).toArray)) :
    Calls Tryd.prog 16 #[.slice a len cap] w fun e w' => e = .returned (.tuple #[.agg R, .int .i64 (getSE bs)]) ∧ Below w.heap.size w w' := by
  obtain ⟨Z, HZ, HA, HBZ, H36⟩ := noughtsS
  have HSZ : Hid ((Tryd.prog.info? 28).map (·.size) = some Z.size) := by show _ = _; rw [sizeS, H36.out]
  have H1Z : Hid (Z.all (·.oneCell') = true) := by show _ = _; rw [HZ.out]; exact one_cellsS _
  have hnot : ∀ (x : Bool) (w : World), (Op.unary .not (.bool x)).run Tryd.prog w = .ok (.bool (!x)) w := fun _ _ => rfl
  obtain ⟨f0, hf0⟩ : ∃ f, f = readF bs := ⟨_, rfl⟩
  obtain ⟨f1, hf1⟩ : ∃ f, f = tkR 1 f0 := ⟨_, rfl⟩
  obtain ⟨f2, hf2⟩ : ∃ f, f = tkR 2 f1 := ⟨_, rfl⟩
  obtain ⟨f3, hf3⟩ : ∃ f, f = tkR 3 f2 := ⟨_, rfl⟩
  have hsz : (tkD 1 f0).size ≤ 1000000 := Nat.le_trans (tkD_le 1 f0 65536 (by rw [hf0]; exact readF_64 bs)) (by decide)
  obtain ⟨C1, hC1⟩ : ∃ C, C = (scells ⟨hV 1 f0, 0, List.replicate 32 0⟩).toArray := ⟨_, rfl⟩
  obtain ⟨C2, hC2⟩ : ∃ C, C = (scells ⟨hV 1 f0, nV 2 f1, List.replicate 32 0⟩).toArray := ⟨_, rfl⟩
  obtain ⟨C3, hC3⟩ : ∃ C, C = (scells ⟨hV 1 f0, nV 2 f1, dV 3 f2⟩).toArray := ⟨_, rfl⟩
  have hz1 : C1.size = 69 := by rw [hC1, List.size_toArray]; exact scells_length _ (hV_digs _ _) rfl
  have hz2 : C2.size = 69 := by rw [hC2, List.size_toArray]; exact scells_length _ (hV_digs _ _) rfl
  have hz3 : C3.size = 69 := by rw [hC3, List.size_toArray]; exact scells_length _ (hV_digs _ _) (dV_length _ _)
  obtain ⟨b1, hb1⟩ : ∃ b, b = hB 1 f0 := ⟨_, rfl⟩
  obtain ⟨b2, hb2⟩ : ∃ b, b = nB 2 f1 := ⟨_, rfl⟩
  obtain ⟨b3, hb3⟩ : ∃ b, b = dB 3 f2 := ⟨_, rfl⟩
  obtain ⟨b4, hb4⟩ : ∃ b, b = decide (f3.length = 0) := ⟨_, rfl⟩
  obtain ⟨br, hbr⟩ : ∃ b, b = mayS (seqS f0) := ⟨_, rfl⟩
  have hq : seqS f0 = ⟨hV 1 f0, nV 2 f1, dV 3 f2⟩ := by unfold seqS; rw [hf2, hf1]
  have hall : allS f0 = (b1 && (b2 && (b3 && (b4 && br)))) := by
    unfold allS
    rw [hb1, hb2, hb3, hb4, hbr, hf3, hf2, hf1]
  have hget := get_seqS bs
  rw [← hf0, hall] at hget
  obtain ⟨K, hKK⟩ : ∃ K, K = getSE bs := ⟨_, rfl⟩
  rw [← hKK]
  have HF : Hid ((b1 && (b2 && (b3 && (b4 && br)))) = false → R = Z ∧ K = 70) := fun hh => by
    rw [hh] at hget
    have hget : Go.Proofs.YtdnhnjimhbbabaaDoor.getS bs = none := hget
    rw [HR.out, HZ.out, hKK]
    unfold getSO getSE
    rw [hget]
    exact ⟨rfl, rfl⟩
  have HT : Hid ((b1 && (b2 && (b3 && (b4 && br)))) = true → R = C3 ∧ K = 0) := fun hh => by
    rw [hh] at hget
    have hget : Go.Proofs.YtdnhnjimhbbabaaDoor.getS bs = some (seqS f0) := hget
    rw [HR.out, hC3, hKK]
    unfold getSO getSE
    rw [hget, hq]
    exact ⟨rfl, rfl⟩
  have O1 : Hid (∀ W, Below w.heap.size w W → Calls Tryd.prog 39 #[.slice a len cap] W fun e w' => ∃ x c, e = .returned (.slice x f0.length c) ∧ Lie w' W.heap.size x c f0 ∧ Below W.heap.size W w') := fun W hb => by rw [hf0]; exact open_any a len cap bs W (hR.below hb) hl
  have I1 : Hid (∀ W g2 g4 g5 lo, GtS w W g2 g4 g5 lo Z Z 28 f0 → Calls Tryd.prog 40 #[.pointer (some ⟨g4, 0, none⟩), .int .i64 1, .func (.func 41) #[.pointer (some ⟨g5, 0, none⟩)] #[]] W fun e w' => e = .returned (.bool b1) ∧ GtS w w' g2 g4 g5 lo Z C1 28 f1) := fun W g2 g4 g5 lo hs => gt_head 1 0 b1 hs hsz (by rw [H36.out]; omega) (by rw [HZ.out, hC1]; exact (scells_zero (hV 1 f0) zeroH 0 (List.replicate 32 0) rfl).symm) hb1 hf1
  have I2 : Hid (∀ W g2 g4 g5 lo, GtS w W g2 g4 g5 lo Z C1 28 f1 → Calls Tryd.prog 42 #[.pointer (some ⟨g4, 36, none⟩), .int .i64 2, .func (.func 43) #[.pointer (some ⟨g5, 0, none⟩)] #[]] W fun e w' => e = .returned (.bool b2) ∧ GtS w w' g2 g4 g5 lo Z C2 28 f2) := fun W g2 g4 g5 lo hs => gt_int 2 36 b2 hs (by rw [hz1]; omega) (by rw [hC1, hC2]; exact (scells_node (hV 1 f0) 0 (nV 2 f1) (List.replicate 32 0) (hV_digs _ _)).symm) hb2 hf2
  have I3 : Hid (∀ W g2 g4 g5 lo, GtS w W g2 g4 g5 lo Z C2 28 f2 → Calls Tryd.prog 44 #[.pointer (some ⟨g4, 37, none⟩), .int .i64 3, .func (.func 45) #[.pointer (some ⟨g5, 0, none⟩)] #[]] W fun e w' => e = .returned (.bool b3) ∧ GtS w w' g2 g4 g5 lo Z C3 28 f3) := fun W g2 g4 g5 lo hs => gt_dig 3 37 b3 hs (by rw [hz2]; omega) (by rw [hC2, hC3]; exact (scells_sign (hV 1 f0) (nV 2 f1) (List.replicate 32 0) (dV 3 f2) (hV_digs _ _) rfl).symm) hb3 hf3
  have I4 : Hid (∀ W g2 g4 g5 lo, GtS w W g2 g4 g5 lo Z C3 28 f3 → Calls Tryd.prog 46 #[.pointer (some ⟨g5, 0, none⟩)] W fun e w' => e = .returned (.bool b4) ∧ GtS w w' g2 g4 g5 lo Z C3 28 f3) := fun W g2 g4 g5 lo hs => gt_ended b4 hs hb4
  obtain ⟨E, hE⟩ : ∃ E, E = mayS (seqS f0) := ⟨_, rfl⟩
  have hd5 : (seqS f0).h.d.length = 32 := hV_digs _ _
  have K1 : Hid (∀ W, Calls Tryd.prog 23 #[.agg C3] W fun e w' => e = .returned (.bool E) ∧ Below W.heap.size W w') := fun W => by rw [hE]; exact hMay_any (seqS f0) hd5 W C3 (by rw [hC3, hq]; exact hidk rfl)
  have hK : (E = true ∧ br = true) ∨ (E = false ∧ br = false) := by
    rw [hE, hbr]
    cases mayS (seqS f0)
    · exact .inr ⟨rfl, rfl⟩
    · exact .inl ⟨rfl, rfl⟩
  have HSC : Hid ((Tryd.prog.info? 28).map (·.size) = some C3.size) := by show _ = _; rw [sizeS, hz3]
  have H1C : Hid (C3.all (·.oneCell') = true) := by show _ = _; rw [hC3]; exact one_cellsS _
  have HZC : Hid (Z.size = C3.size) := by show _ = _; rw [H36.out, hz3]
  clear hf0 hf1 hf2 hf3 hC1 hC2 hC3 hz1 hz2 hz3 hb1 hb2 hb3 hb4 hbr hq hall hget hKK hE hd5 HR H36 hsz
  clear HZ hR
  go_enter Tryd.func16, Tryd.ntmps16
  go_wp2_with (first
    | (show wpList _ _ _ ({ dst := some 2, op := _, type := _, pos := _, after := _, guard := _ } :: _) _ _; refine wpList_new_var rfl 28 rfl Z HA.out ?_; intro g2 w1 HM2; try simp only [Act.put, List.setIfInBounds_toArray, List.set_cons_zero, List.set_cons_succ])
    | (show wpList _ _ _ ({ dst := some 4, op := _, type := _, pos := _, after := _, guard := _ } :: _) _ _; refine wpList_new_var rfl 28 rfl Z HA.out ?_; intro g4 w2 HM4; try simp only [Act.put, List.setIfInBounds_toArray, List.set_cons_zero, List.set_cons_succ])
    | fail)
  have HB2 : Hid (Below w.heap.size w w2) := HM2.out.below.trans (HM4.out.below.mono HM2.out.below.size)
  refine (O1.out w2 HB2.out).mono ?_
  rintro e w3 ⟨x, c, rfl, hl3, hb3⟩
  have HS0 : Hid (GtS w (w3.alloc (.cells #[.slice x f0.length c] 65)) g2 g4 w3.heap.size w2.heap.size Z Z 28 f0) := by
    have hbb := HB2.out.trans (hb3.mono HB2.out.size)
    have q2 : w2.heap[g2]? = some (.cells Z 28 (0, 0)) := (HM4.out.below.block _ (heap_lt HM2.out.row)).trans HM2.out.row
    refine ⟨hbb.alloc hbb.size _, heap_keep ((hb3.block _ (heap_lt q2)).trans q2), heap_keep ((hb3.block _ (heap_lt HM4.out.row)).trans HM4.out.row), rd_new hl3 hb3.size, Nat.le_of_eq HM2.out.new.symm, ?_, heap_lt HM4.out.row, hb3.size⟩
    rw [HM4.out.new]; exact heap_lt HM2.out.row
  obtain ⟨g5, hg5⟩ : ∃ g, g = w3.heap.size := ⟨_, rfl⟩
  obtain ⟨lo, hlo⟩ : ∃ g, g = w2.heap.size := ⟨_, rfl⟩
  rw [← hg5, ← hlo] at HS0
  clear HM2 HM4 HB2 hb3 hl3 O1 hlo
  go_wp2_with fail
  rw [← hg5]
  clear hg5
  refine (I1.out _ _ _ _ _ HS0.out).mono ?_
  rintro e v1 ⟨rfl, hs1⟩
  have HS1 := hidk hs1
  clear hs1 HS0 I1
  cases b1
  · skip
    go_wp2_with (first
      | (show wpList _ _ _ ({ dst := some 32, op := _, type := _, pos := _, after := _, guard := _ } :: _) _ _; refine wpList_build_none rfl 28 rfl Z HBZ.out ?_; try simp only [Act.put, List.setIfInBounds_toArray, List.set_cons_zero, List.set_cons_succ])
      | (refine wpList_set_var rfl 28 (.tmp 2) (.tmp 32) rfl g2 Z rfl rfl 28 Z HS1.out.r2 HSZ.out rfl H1Z.out ?_; intro wz HWz; try simp only [Act.put, List.setIfInBounds_toArray, List.set_cons_zero, List.set_cons_succ])
      | fail)
    refine bodyPost_ret (v := .tuple #[.agg R, .int .i64 K]) ?_ rfl ⟨rfl, HWz.out.below w.heap.size w HS1.out.below HS1.out.o2⟩
    rw [(HF.out rfl).1, (HF.out rfl).2]
    exact results_row_tmp (p := 2) (q := 3) (ty := 28) rfl _ _ g2 28 Z (0, 0) _ rfl HWz.out.row Tryd.underlying28 rfl HSZ.out
  go_wp2_with fail
  refine (I2.out _ _ _ _ _ HS1.out).mono ?_
  rintro e v2 ⟨rfl, hs2⟩
  have HS2 := hidk hs2
  clear hs2 HS1 I2
  cases b2
  · skip
    go_wp2_with (first
      | (show wpList _ _ _ ({ dst := some 32, op := _, type := _, pos := _, after := _, guard := _ } :: _) _ _; refine wpList_build_none rfl 28 rfl Z HBZ.out ?_; try simp only [Act.put, List.setIfInBounds_toArray, List.set_cons_zero, List.set_cons_succ])
      | (refine wpList_set_var rfl 28 (.tmp 2) (.tmp 32) rfl g2 Z rfl rfl 28 Z HS2.out.r2 HSZ.out rfl H1Z.out ?_; intro wz HWz; try simp only [Act.put, List.setIfInBounds_toArray, List.set_cons_zero, List.set_cons_succ])
      | fail)
    refine bodyPost_ret (v := .tuple #[.agg R, .int .i64 K]) ?_ rfl ⟨rfl, HWz.out.below w.heap.size w HS2.out.below HS2.out.o2⟩
    rw [(HF.out rfl).1, (HF.out rfl).2]
    exact results_row_tmp (p := 2) (q := 3) (ty := 28) rfl _ _ g2 28 Z (0, 0) _ rfl HWz.out.row Tryd.underlying28 rfl HSZ.out
  go_wp2_with fail
  refine (I3.out _ _ _ _ _ HS2.out).mono ?_
  rintro e v3 ⟨rfl, hs3⟩
  have HS3 := hidk hs3
  clear hs3 HS2 I3
  cases b3
  · skip
    go_wp2_with (first
      | (show wpList _ _ _ ({ dst := some 32, op := _, type := _, pos := _, after := _, guard := _ } :: _) _ _; refine wpList_build_none rfl 28 rfl Z HBZ.out ?_; try simp only [Act.put, List.setIfInBounds_toArray, List.set_cons_zero, List.set_cons_succ])
      | (refine wpList_set_var rfl 28 (.tmp 2) (.tmp 32) rfl g2 Z rfl rfl 28 Z HS3.out.r2 HSZ.out rfl H1Z.out ?_; intro wz HWz; try simp only [Act.put, List.setIfInBounds_toArray, List.set_cons_zero, List.set_cons_succ])
      | fail)
    refine bodyPost_ret (v := .tuple #[.agg R, .int .i64 K]) ?_ rfl ⟨rfl, HWz.out.below w.heap.size w HS3.out.below HS3.out.o2⟩
    rw [(HF.out rfl).1, (HF.out rfl).2]
    exact results_row_tmp (p := 2) (q := 3) (ty := 28) rfl _ _ g2 28 Z (0, 0) _ rfl HWz.out.row Tryd.underlying28 rfl HSZ.out
  go_wp2_with fail
  refine (I4.out _ _ _ _ _ HS3.out).mono ?_
  rintro e v4 ⟨rfl, hs4⟩
  have HS4 := hidk hs4
  clear hs4 HS3 I4
  cases b4
  · skip
    go_wp2_with (first
      | (show wpList _ _ _ ({ dst := some 32, op := _, type := _, pos := _, after := _, guard := _ } :: _) _ _; refine wpList_build_none rfl 28 rfl Z HBZ.out ?_; try simp only [Act.put, List.setIfInBounds_toArray, List.set_cons_zero, List.set_cons_succ])
      | (refine wpList_set_var rfl 28 (.tmp 2) (.tmp 32) rfl g2 Z rfl rfl 28 Z HS4.out.r2 HSZ.out rfl H1Z.out ?_; intro wz HWz; try simp only [Act.put, List.setIfInBounds_toArray, List.set_cons_zero, List.set_cons_succ])
      | fail)
    refine bodyPost_ret (v := .tuple #[.agg R, .int .i64 K]) ?_ rfl ⟨rfl, HWz.out.below w.heap.size w HS4.out.below HS4.out.o2⟩
    rw [(HF.out rfl).1, (HF.out rfl).2]
    exact results_row_tmp (p := 2) (q := 3) (ty := 28) rfl _ _ g2 28 Z (0, 0) _ rfl HWz.out.row Tryd.underlying28 rfl HSZ.out
  go_wp2_with (first
    | (show wpList _ _ _ ({ dst := some 28, op := _, type := _, pos := _, after := _, guard := _ } :: _) _ _; refine wpList_load_row_w (by rfl) 28 (.tmp 4) rfl g4 rfl 28 C3 (0, 0) _ HS4.out.r4 Tryd.underlying28 rfl HSC.out ?_; try simp only [Act.put, List.setIfInBounds_toArray, List.set_cons_zero, List.set_cons_succ])
    | fail)
  refine (K1.out _).mono ?_
  rintro e vk ⟨rfl, hbk⟩
  have HSk := hidk (HS4.out.keep hbk)
  clear hbk HS4 K1
  rcases hK with ⟨rfl, rfl⟩ | ⟨rfl, rfl⟩
  · go_wp2_with (first
      | (show wpList _ _ _ ({ dst := some 33, op := _, type := _, pos := _, after := _, guard := _ } :: _) _ _; refine wpList_load_row rfl 28 (.tmp 4) rfl g4 rfl 28 C3 (0, 0) _ HSk.out.r4 Tryd.underlying28 rfl HSC.out ?_; try simp only [Act.put, List.setIfInBounds_toArray, List.set_cons_zero, List.set_cons_succ])
      | (refine wpList_set_var rfl 28 (.tmp 2) (.tmp 33) rfl g2 C3 rfl rfl 28 Z HSk.out.r2 HSC.out HZC.out H1C.out ?_; intro wz HWz; try simp only [Act.put, List.setIfInBounds_toArray, List.set_cons_zero, List.set_cons_succ])
      | fail)
    refine bodyPost_ret (v := .tuple #[.agg R, .int .i64 K]) ?_ rfl ⟨rfl, HWz.out.below w.heap.size w HSk.out.below HSk.out.o2⟩
    rw [(HT.out rfl).1, (HT.out rfl).2]
    exact results_row_tmp (p := 2) (q := 3) (ty := 28) rfl _ _ g2 28 C3 (0, 0) _ rfl HWz.out.row Tryd.underlying28 rfl HSC.out
  · skip
    go_wp2_with (first
      | (show wpList _ _ _ ({ dst := some 32, op := _, type := _, pos := _, after := _, guard := _ } :: _) _ _; refine wpList_build_none rfl 28 rfl Z HBZ.out ?_; try simp only [Act.put, List.setIfInBounds_toArray, List.set_cons_zero, List.set_cons_succ])
      | (refine wpList_set_var rfl 28 (.tmp 2) (.tmp 32) rfl g2 Z rfl rfl 28 Z HSk.out.r2 HSZ.out rfl H1Z.out ?_; intro wz HWz; try simp only [Act.put, List.setIfInBounds_toArray, List.set_cons_zero, List.set_cons_succ])
      | fail)
    refine bodyPost_ret (v := .tuple #[.agg R, .int .i64 K]) ?_ rfl ⟨rfl, HWz.out.below w.heap.size w HSk.out.below HSk.out.o2⟩
    rw [(HF.out rfl).1, (HF.out rfl).2]
    exact results_row_tmp (p := 2) (q := 3) (ty := 28) rfl _ _ g2 28 Z (0, 0) _ rfl HWz.out.row Tryd.underlying28 rfl HSZ.out
end Go.Proofs.YtdnhnjimhbbabaaDoor

/- What the calls of package head answer, all together. -/
namespace Go.Proofs.YtdnhnjimhbbabaaDoor
open Go.RowKit Sums Nums
set_option linter.unusedVariables false
/-- What the calls of package head answer. -/
theorem headC : HeadC where
  check := fun h hh w C HC => hCheck_any h hh.d w C HC
  put := fun h hh w C HC => hPut_any h hh.d w C HC
  get := fun a len cap bs w hR hl R HR => hGet_any a len cap bs w hR (by omega) R HR
  sign := fun master h n w M C R HM HC hm hh hn hT HR => hSign_any master h n w M C R HM HC hm hh.d hT HR
  verify := fun master s w M C HM HC hm hs hT => hVerify_any master s w M C HM HC hm hs hT
  putS := fun s hs w C HC => hPutS_any s hs w C HC
  getS := fun a len cap bs w hR hl R HR => hGetS_any a len cap bs w hR (by omega) R HR
end Go.Proofs.YtdnhnjimhbbabaaDoor
