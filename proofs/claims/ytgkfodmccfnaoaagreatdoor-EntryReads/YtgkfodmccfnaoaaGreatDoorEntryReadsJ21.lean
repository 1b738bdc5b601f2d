/- Texts of our own that the row of EntryReads leans on, part 21. -/
import Derived.Test.YtgkfodmccfnaoaaGreatDoorEntryReadsJ15
import Derived.Test.YtgkfodmccfnaoaaGreatDoorEntryReadsJ17
import Derived.Test.YtgkfodmccfnaoaaGreatDoorEntryReadsJ19
import Derived.Test.YtgkfodmccfnaoaaGreatDoorEntryReadsJ20

/- What the document's GetClaim answers. -/
namespace Go.Proofs.YtgkfodmccfnaoaaGreatDoor
open Go.RowKit Sums Nums
set_option linter.unusedVariables false
set_option linter.unusedSimpArgs false
set_option maxRecDepth 100000
theorem infoC : (Tryz.prog.info? 27).map (fun i => (i.zero, i.size)) = some (some (.agg (ccells zeroC).toArray), 36) := by kernel_rfl
theorem builtC0 : Tryz.prog.built 27 [] = some (ccells zeroC).toArray := by kernel_rfl
theorem one_cellsC (c : ClT) : (ccells c).toArray.all (·.oneCell') = true := by
  rw [List.all_toArray, List.all_eq_true]
  intro v hv
  unfold ccells at hv
  simp only [List.mem_append, List.mem_cons, List.not_mem_nil, or_false] at hv
  rcases hv with (rfl | rfl | rfl | rfl) | hv
  · rfl
  · rfl
  · rfl
  · rfl
  · exact cellsOf_one _ v hv
theorem claim_row5 (c : ClT) (hd : c.d.length = 32) : ∃ C : Array Value, Hid (C = (ccells c).toArray) ∧ Hid ((Tryz.prog.info? 27).map (·.size) = some C.size) ∧ Hid (C.all (·.oneCell') = true) ∧ Hid (C.size = 36) := by
  refine ⟨(ccells c).toArray, hidk rfl, ?_, one_cellsC c, ?_⟩
  · show _ = _
    rw [sizeC]; simp [ccells_length c hd]
  · show _ = _
    simp [ccells_length c hd]
theorem noughtsC : ∃ Z : Array Value, Hid (Z = (ccells zeroC).toArray) ∧ Hid ((Tryz.prog.info? 27).map (fun i => (i.zero, i.size)) = some (some (.agg Z), Z.size)) ∧ Hid (Tryz.prog.built 27 [] = some Z) ∧ Hid (Z.size = 36) :=
  ⟨(ccells zeroC).toArray, hidk rfl, infoC, builtC0, hidk rfl⟩
theorem builtC (c : ClT) (hd : c.d.length = 32) (D R : Array Value) (HD : Hid (D = (cellsOf c.d).toArray)) (HR : Hid (R = (ccells c).toArray)) : Tryz.prog.built 27 [(0, .int .i64 c.r), (1, .int .i64 c.e), (2, .int .i64 c.n), (3, .int .i64 c.s), (4, .agg D)] = some R := by
  have hi := infoC
  cases hq : Tryz.prog.info? 27 with
  | none => rw [hq] at hi; cases hi
  | some i =>
    rw [hq] at hi
    simp only [Option.map_some, Option.some.injEq, Prod.mk.injEq] at hi
    have hD := size23
    have h3 : (Tryz.prog.info? 3).map (·.size) = some 1 := by kernel_rfl
    cases hqD : Tryz.prog.info? 25 with
    | none => rw [hqD] at hD; cases hD
    | some iD =>
      cases hq3 : Tryz.prog.info? 3 with
      | none => rw [hq3] at h3; cases h3
      | some i3 =>
        rw [hqD] at hD
        rw [hq3] at h3
        simp only [Option.map_some, Option.some.injEq] at hD h3
        unfold Program.built
        simp only [hq, Tryz.underlying27, hi.1, List.mapM_cons, List.mapM_nil, hqD, hq3, hD, h3, Option.map_some, Option.bind_eq_bind, Option.bind_some, Option.pure_def]
        show Instr.fill _ (ccells zeroC).toArray _ = some R
        have hd32 : D.size = 32 := by rw [HD.out]; simp [cellsOf_length, hd]
        refine (fill_val _ 0 0 1 (.int .i64 c.r) #[.int .i64 c.r] _ [] [.int .i64 0] ([.int .i64 0, .int .i64 0, .int .i64 0] ++ cellsOf (List.replicate 32 0)) _ rfl rfl rfl (by simp [ccells, zeroC]) rfl rfl).trans ?_
        refine (fill_val _ 1 1 1 (.int .i64 c.e) #[.int .i64 c.e] _ [.int .i64 c.r] [.int .i64 0] ([.int .i64 0, .int .i64 0] ++ cellsOf (List.replicate 32 0)) _ rfl rfl rfl (by simp) rfl rfl).trans ?_
        refine (fill_val _ 2 2 1 (.int .i64 c.n) #[.int .i64 c.n] _ [.int .i64 c.r, .int .i64 c.e] [.int .i64 0] ([.int .i64 0] ++ cellsOf (List.replicate 32 0)) _ rfl rfl rfl (by simp) rfl rfl).trans ?_
        refine (fill_val _ 3 3 1 (.int .i64 c.s) #[.int .i64 c.s] _ [.int .i64 c.r, .int .i64 c.e, .int .i64 c.n] [.int .i64 0] (cellsOf (List.replicate 32 0)) _ rfl rfl rfl (by simp) rfl rfl).trans ?_
        refine (fill_val _ 4 4 32 (.agg D) D _ [.int .i64 c.r, .int .i64 c.e, .int .i64 c.n, .int .i64 c.s] (cellsOf (List.replicate 32 0)) [] _ rfl rfl hd32 (by simp) rfl (by simp [cellsOf_length])).trans ?_
        simp only [Instr.fill, List.append_nil, Option.some.injEq]
        rw [HR.out, HD.out]
        rfl
set_option maxHeartbeats 16000000 in
theorem refGetC_any (a : Option Addr) (len cap : Nat) (bs : List UInt8) (w : World) (hR : Reads w a len cap bs) (hl : len ≤ 1000000) (R : Array Value) (HR : Hid (R = (ccells (getCO bs)).toArray)) :
    Calls Tryz.prog 6 #[.slice a len cap] w fun e w' => e = .returned (.tuple #[.agg R, .int .i64 (getCE bs)]) ∧ Below w.heap.size w w' := by
  have hnot : ∀ (x : Bool) (w : World), (Op.unary .not (.bool x)).run Tryz.prog w = .ok (.bool (!x)) w := fun _ _ => rfl
  obtain ⟨Z, HZ, HA, HBZ, H36⟩ := noughtsC
  obtain ⟨ZD, HZD, HAD, HSZD, H1ZD, H32D⟩ := noughts27
  have hdR := getCO_ok bs
  have HSR : Hid ((Tryz.prog.info? 27).map (·.size) = some R.size) := by show _ = _; rw [sizeC, HR.out]; simp [ccells_length _ hdR]
  have H1R : Hid (R.all (·.oneCell') = true) := by show _ = _; rw [HR.out]; exact one_cellsC _
  have HZR : Hid (Z.size = R.size) := by show _ = _; rw [H36.out, HR.out]; simp [ccells_length _ hdR]
  have PA : Hid (∀ W, Below w.heap.size w W → Calls Tryz.prog 19 #[.slice a len cap, .int .i64 5] W fun e w' => PartsR bs 5 e w' ∧ Below W.heap.size W w') := fun W hb => refParts_any a len cap bs 5 W (hR.below hb) hl (by omega)
  clear hR
  cases hp : partsO bs 5 with
  | none =>
    have hg : getC bs = none := by unfold getC; rw [hp]
    have hE : getCE bs = 60 := by unfold getCE; rw [hg]; rfl
    obtain rfl : R = Z := by rw [HR.out, HZ.out]; unfold getCO; rw [hg]; rfl
    have PN : Hid (∀ W, Below w.heap.size w W → Calls Tryz.prog 19 #[.slice a len cap, .int .i64 5] W fun e w' => e = .returned (.tuple #[.slice none 0 0, .bool false]) ∧ Below W.heap.size W w') := fun W hb => (PA.out W hb).mono (by rintro e w' ⟨h1, h2⟩; unfold PartsR at h1; rw [hp] at h1; exact ⟨h1, h2⟩)
    rw [hE]
    clear hE hg hp PA HR HZ HZR hdR
    go_enter Tryz.func6, Tryz.ntmps6
    go_wp2_with (first
      | (show wpList _ _ _ ({ dst := some 2, op := _, type := _, pos := _, after := _, guard := _ } :: _) _ _; refine wpList_new_var rfl 27 rfl R HA.out ?_; intro g2 w1 HM2; try simp only [Act.put, List.setIfInBounds_toArray, List.set_cons_zero, List.set_cons_succ])
      | fail)
    refine (PN.out _ HM2.out.below).mono ?_
    rintro e w2 ⟨rfl, hb2⟩
    have HB2 := hidk (HM2.out.below.trans (hb2.mono HM2.out.below.size))
    have HR2 := hidk ((hb2.block _ (heap_lt HM2.out.row)).trans HM2.out.row)
    have h2 : w.heap.size ≤ g2 := Nat.le_of_eq HM2.out.new.symm
    clear hb2 HM2 PN
    go_wp2_with (first
      | (show wpList _ _ _ ({ dst := some 15, op := _, type := _, pos := _, after := _, guard := _ } :: _) _ _; refine wpList_build_none rfl 27 rfl R HBZ.out ?_; try simp only [Act.put, List.setIfInBounds_toArray, List.set_cons_zero, List.set_cons_succ])
      | (refine wpList_set_var rfl 27 (.tmp 2) (.tmp 15) rfl g2 R rfl rfl 27 R HR2.out HSR.out rfl H1R.out ?_; intro wz HW2; try simp only [Act.put, List.setIfInBounds_toArray, List.set_cons_zero, List.set_cons_succ])
      | fail)
    refine bodyPost_ret (v := .tuple #[.agg R, .int .i64 60]) ?_ rfl ⟨rfl, HW2.out.below w.heap.size w HB2.out h2⟩
    exact results_row_tmp (p := 2) (q := 3) (ty := 27) rfl _ _ g2 27 R (0, 0) _ rfl HW2.out.row Tryz.underlying27 rfl HSR.out
  | some l =>
    have hl5 : l.length = 5 := (row_parts hp).1
    obtain ⟨x1, x2, x3, x4, x5, rfl⟩ : ∃ x1 x2 x3 x4 x5, l = [x1, x2, x3, x4, x5] := by
      match l, hl5 with
      | [x1, x2, x3, x4, x5], _ => exact ⟨x1, x2, x3, x4, x5, rfl⟩
    have hsm : ∀ y ∈ [x1, x2, x3, x4, x5], y.size ≤ maxLen := fun y hy => by
      have : [x1, x2, x3, x4, x5] = (readF bs).map (·.2) := by
        unfold partsO at hp
        split at hp
        · exact (Option.some.inj hp).symm
        · cases hp
      rw [this] at hy
      obtain ⟨f, hf, rfl⟩ := List.mem_map.1 hy
      exact readF_small bs f hf
    have PN : Hid (∀ W, Below w.heap.size w W → Calls Tryz.prog 19 #[.slice a len cap, .int .i64 5] W fun e w' => (∃ x c, e = .returned (.tuple #[.slice x 5 c, .bool true]) ∧ Texts w' x 5 [x1, x2, x3, x4, x5]) ∧ Below W.heap.size W w') := fun W hb => (PA.out W hb).mono (by rintro e w' ⟨h1, h2⟩; unfold PartsR at h1; rw [hp] at h1; exact ⟨h1, h2⟩)
    obtain ⟨D, HD, HSD, H1D, H32DD⟩ := dig_row' (digO x5) (digO_length x5)
    have HZDD : Hid (ZD.size = D.size) := by show _ = _; rw [H32D.out, H32DD.out]
    obtain ⟨bd, hbd⟩ : ∃ b, decide (x5.size = 32) = b := ⟨_, rfl⟩
    have DG : Hid (∀ W, Calls Tryz.prog 20 #[.string x5] W fun e w' => e = .returned (.tuple #[.agg D, .bool bd]) ∧ Below W.heap.size W w') := fun W => by rw [← hbd]; exact refDig_any x5 W (hsm x5 (by simp)) D HD
    have VV : ∀ x, x.size ≤ maxLen → ∀ v, v = valO x.data.toList → Hid (∀ W, Calls Tryz.prog 21 #[.string x] W fun e w' => e = .returned (.int .i64 v) ∧ Below W.heap.size W w') := fun x hx v hv W => (refVal_any x W hx).mono (by rintro e w' ⟨rfl, rfl⟩; exact ⟨by rw [hv], Below.refl _ _⟩)
    obtain ⟨v1, hv1⟩ : ∃ v, v = valO x1.data.toList := ⟨_, rfl⟩
    obtain ⟨v2, hv2⟩ : ∃ v, v = valO x2.data.toList := ⟨_, rfl⟩
    obtain ⟨v3, hv3⟩ : ∃ v, v = valO x3.data.toList := ⟨_, rfl⟩
    obtain ⟨v4, hv4⟩ : ∃ v, v = valO x4.data.toList := ⟨_, rfl⟩
    have V1 := VV x1 (hsm x1 (by simp)) v1 hv1
    have V2 := VV x2 (hsm x2 (by simp)) v2 hv2
    have V3 := VV x3 (hsm x3 (by simp)) v3 hv3
    have V4 := VV x4 (hsm x4 (by simp)) v4 hv4
    obtain ⟨hh, Hhh⟩ : ∃ h : ClT, Hid (h = ⟨v1, v2, v3, v4, digO x5⟩) := ⟨_, hidk rfl⟩
    have hhd : hh.d.length = 32 := by rw [Hhh.out]; exact digO_length x5
    obtain ⟨Q, HQ, HSQ, H1Q, H36Q⟩ := claim_row5 hh hhd
    have HZQ : Hid (Z.size = Q.size) := by show _ = _; rw [H36.out, H36Q.out]
    have BH : Hid (∀ W, (Instr.build 27 #[(0, .int .i64 v1), (1, .int .i64 v2), (2, .int .i64 v3), (3, .int .i64 v4), (4, .agg D)]).run Tryz.prog W = .ok (.agg Q) W) := fun W => by
      have := builtC hh hhd D Q (by rw [Hhh.out]; exact HD) HQ
      rw [Hhh.out] at this
      exact run_build W 27 _ Q this
    obtain ⟨br, hbr⟩ : ∃ b, rightC hh = b := ⟨_, rfl⟩
    have RI : Hid (∀ W, Calls Tryz.prog 22 #[.agg Q] W fun e w' => e = .returned (.bool br) ∧ Below W.heap.size W w') := fun W => by rw [← hbr]; exact refRightC_any hh W Q HQ
    have hO : (bd = true ∧ br = true → getC bs = some hh) ∧ (¬ (bd = true ∧ br = true) → getC bs = none) := by
      have e4 : x5.size = 32 → claimOf x1 x2 x3 x4 x5 = hh := fun h4 => by
        rw [Hhh.out, hv1, hv2, hv3, hv4]
        unfold claimOf digO
        rw [if_pos h4]
      have hg : getC bs = if x5.size = 32 ∧ rightC (claimOf x1 x2 x3 x4 x5) = true then some (claimOf x1 x2 x3 x4 x5) else none := by unfold getC; rw [hp]
      refine ⟨fun hb => ?_, fun hb => ?_⟩
      · have h4 : x5.size = 32 := by rw [hb.1] at hbd; simpa using hbd
        rw [hg, e4 h4, if_pos ⟨h4, by rw [hbr]; exact hb.2⟩]
      · rw [hg, if_neg]
        rintro ⟨h4, hr⟩
        apply hb
        rw [e4 h4] at hr
        exact ⟨by rw [← hbd]; simpa using h4, by rw [← hbr]; exact hr⟩
    have HOK : Hid (bd = true ∧ br = true → R = Q ∧ getCE bs = 0) := fun hb => by
      have := hO.1 hb
      refine ⟨?_, by unfold getCE; rw [this]; rfl⟩
      rw [HR.out, HQ.out]; unfold getCO; rw [this]; rfl
    have HNO : Hid (¬ (bd = true ∧ br = true) → R = Z ∧ getCE bs = 60) := fun hb => by
      have := hO.2 hb
      refine ⟨?_, by unfold getCE; rw [this]; rfl⟩
      rw [HR.out, HZ.out]; unfold getCO; rw [this]; rfl
    obtain ⟨E, hE⟩ : ∃ E, E = getCE bs := ⟨_, rfl⟩
    rw [← hE] at HOK HNO ⊢
    have HSZ : Hid ((Tryz.prog.info? 27).map (·.size) = some Z.size) := by show _ = _; rw [sizeC, H36.out]
    have H1Z : Hid (Z.all (·.oneCell') = true) := by show _ = _; rw [HZ.out]; exact one_cellsC _
    clear hE hO hbr hbd hp hl5 hsm PA VV HR HZ HD HQ Hhh hv1 hv2 hv3 hv4 hhd hdR
    go_enter Tryz.func6, Tryz.ntmps6
    go_wp2_with (first
      | (show wpList _ _ _ ({ dst := some 2, op := _, type := _, pos := _, after := _, guard := _ } :: _) _ _; refine wpList_new_var rfl 27 rfl Z HA.out ?_; intro g2 w1 HM2; try simp only [Act.put, List.setIfInBounds_toArray, List.set_cons_zero, List.set_cons_succ])
      | fail)
    refine (PN.out _ HM2.out.below).mono ?_
    rintro e w2 ⟨⟨y, c, rfl, hy⟩, hb2⟩
    obtain ⟨b, off, rfl⟩ : ∃ b off, y = some ⟨b, off, none⟩ := by
      rcases hy.2 with h0 | ⟨b, off, e, _⟩
      · cases h0
      · exact ⟨b, off, e⟩
    have HY := hidk hy
    have HB2 := hidk (HM2.out.below.trans (hb2.mono HM2.out.below.size))
    have HR2 := hidk ((hb2.block _ (heap_lt HM2.out.row)).trans HM2.out.row)
    have h2 : w.heap.size ≤ g2 := Nat.le_of_eq HM2.out.new.symm
    have hc3 := text_cell hy 4 (by simp)
    simp only [List.getElem_cons_zero, List.getElem_cons_succ] at hc3
    clear hb2 HM2 PN hy
    go_wp2_with fail
    refine (DG.out _).mono ?_
    rintro e w3 ⟨rfl, hb3⟩
    have HB3 := hidk (HB2.out.trans (hb3.mono HB2.out.size))
    have HR23 := hidk ((hb3.block _ (heap_lt HR2.out)).trans HR2.out)
    have HY3 := hidk (HY.out.keep hb3)
    clear hb3 HB2 HR2 HY DG hc3
    go_wp2_with (first
      | (show wpList _ _ _ ({ dst := some 6, op := _, type := _, pos := _, after := _, guard := _ } :: _) _ _; refine wpList_new_var rfl 25 rfl ZD HAD.out ?_; intro g6 w4 HM6; try simp only [Act.put, List.setIfInBounds_toArray, List.set_cons_zero, List.set_cons_succ])
      | (refine wpList_set_var rfl 25 (.tmp 6) (.tmp 21) rfl g6 D rfl rfl 25 ZD HM6.out.row HSD.out HZDD.out H1D.out ?_; intro w5 HW6; try simp only [Act.put, List.setIfInBounds_toArray, List.set_cons_zero, List.set_cons_succ])
      | fail)
    have h6 : g2 < g6 := by rw [HM6.out.new]; exact heap_lt HR23.out
    have HX5 := hidk (HW6.out.below w3.heap.size w3 HM6.out.below (Nat.le_of_eq HM6.out.new.symm))
    have HBc := hidk (HB3.out.trans (HX5.out.mono HB3.out.size)).drew
    have HR25 := hidk ((HX5.out.block _ (heap_lt HR23.out)).trans HR23.out)
    have HY5 := hidk (HY3.out.keep HX5.out)
    have HR65 := hidk HW6.out.row
    have HTB : Hid (b < g6) := by
      show b < g6
      rcases HY3.out.2 with h0 | ⟨b', off', e, hlt, _⟩
      · cases h0
      · cases e; rw [HM6.out.new]; exact hlt
    clear HM6 HW6 HX5 HB3 HR23 HY3
    refine wp_region_held_drew (S := (fun W => Texts W (some ⟨b, off, none⟩) 5 [x1, x2, x3, x4, x5] ∧ W.heap[g6]? = some (.cells D 25 (0, 0)) ∧ W.heap[g2]? = some (.cells Z 27 (0, 0)))) (by kernel_rfl) ⟨HY5.out.keep (Below.refl _ _).drew, HR65.out, HR25.out⟩ (fun hHeld => ?_)
    refine wpAnyH_take (i := 0) (oi := { dst := some 23, op := Op.move (Operand.tmp 4), type := 53, pos := "ref.go:39", after := #[], guard := none }) (v := .slice (some ⟨b, off, none⟩) 5 c) rfl (by kernel_rfl) (by kernel_rfl) (by kernel_rfl) (fun _ _ _ h => h) (Or.inl ⟨by rfl, by intro W hSw; go_simp⟩) hHeld ?_
    try simp only [Act.put, List.setIfInBounds_toArray, List.set_cons_zero, List.set_cons_succ]
    refine wpAnyH_take (i := 1) (oi := { dst := some 24, op := Op.indexAddr 53 (Operand.tmp 23) (Operand.const (Value.int IntKind.i64 0)), type := 0, pos := "ref.go:39", after := #[{ on := 0, ground := Ground.data }], guard := none }) (v := .pointer (some ⟨b, off, none⟩)) rfl (by kernel_rfl) (by kernel_rfl) (by kernel_rfl) (fun _ _ _ h => h) (Or.inl ⟨by rfl, by intro W hSw; go_simp⟩) hHeld ?_
    try simp only [Act.put, List.setIfInBounds_toArray, List.set_cons_zero, List.set_cons_succ]
    refine wpAnyH_take (i := 2) (oi := { dst := some 25, op := Op.load 9 (Operand.tmp 24), type := 9, pos := "ref.go:39", after := #[{ on := 1, ground := Ground.data }], guard := none }) (v := .string x1) rfl (by kernel_rfl) (by kernel_rfl) (by kernel_rfl) (fun _ _ _ h => h) (Or.inl ⟨by rfl, by intro W hSw; have h1 := text_cell hSw.1 0 (by simp); simp only [List.getElem_cons_zero, List.getElem_cons_succ, Nat.add_zero] at h1; go_simp⟩) hHeld ?_
    try simp only [Act.put, List.setIfInBounds_toArray, List.set_cons_zero, List.set_cons_succ]
    refine wpAnyH_take (i := 4) (oi := { dst := some 27, op := Op.move (Operand.tmp 4), type := 53, pos := "ref.go:39", after := #[], guard := none }) (v := .slice (some ⟨b, off, none⟩) 5 c) rfl (by kernel_rfl) (by kernel_rfl) (by kernel_rfl) (fun _ _ _ h => h) (Or.inl ⟨by rfl, by intro W hSw; go_simp⟩) hHeld ?_
    try simp only [Act.put, List.setIfInBounds_toArray, List.set_cons_zero, List.set_cons_succ]
    refine wpAnyH_take (i := 5) (oi := { dst := some 28, op := Op.indexAddr 53 (Operand.tmp 27) (Operand.const (Value.int IntKind.i64 1)), type := 0, pos := "ref.go:39", after := #[{ on := 4, ground := Ground.data }], guard := none }) (v := .pointer (some ⟨b, off + 1, none⟩)) rfl (by kernel_rfl) (by kernel_rfl) (by kernel_rfl) (fun _ _ _ h => h) (Or.inl ⟨by rfl, by intro W hSw; go_simp⟩) hHeld ?_
    try simp only [Act.put, List.setIfInBounds_toArray, List.set_cons_zero, List.set_cons_succ]
    refine wpAnyH_take (i := 6) (oi := { dst := some 29, op := Op.load 9 (Operand.tmp 28), type := 9, pos := "ref.go:39", after := #[{ on := 5, ground := Ground.data }], guard := none }) (v := .string x2) rfl (by kernel_rfl) (by kernel_rfl) (by kernel_rfl) (fun _ _ _ h => h) (Or.inl ⟨by rfl, by intro W hSw; have h1 := text_cell hSw.1 1 (by simp); simp only [List.getElem_cons_zero, List.getElem_cons_succ, Nat.add_zero] at h1; go_simp⟩) hHeld ?_
    try simp only [Act.put, List.setIfInBounds_toArray, List.set_cons_zero, List.set_cons_succ]
    refine wpAnyH_take (i := 8) (oi := { dst := some 31, op := Op.move (Operand.tmp 4), type := 53, pos := "ref.go:39", after := #[], guard := none }) (v := .slice (some ⟨b, off, none⟩) 5 c) rfl (by kernel_rfl) (by kernel_rfl) (by kernel_rfl) (fun _ _ _ h => h) (Or.inl ⟨by rfl, by intro W hSw; go_simp⟩) hHeld ?_
    try simp only [Act.put, List.setIfInBounds_toArray, List.set_cons_zero, List.set_cons_succ]
    refine wpAnyH_take (i := 9) (oi := { dst := some 32, op := Op.indexAddr 53 (Operand.tmp 31) (Operand.const (Value.int IntKind.i64 2)), type := 0, pos := "ref.go:39", after := #[{ on := 8, ground := Ground.data }], guard := none }) (v := .pointer (some ⟨b, off + 2, none⟩)) rfl (by kernel_rfl) (by kernel_rfl) (by kernel_rfl) (fun _ _ _ h => h) (Or.inl ⟨by rfl, by intro W hSw; go_simp⟩) hHeld ?_
    try simp only [Act.put, List.setIfInBounds_toArray, List.set_cons_zero, List.set_cons_succ]
    refine wpAnyH_take (i := 10) (oi := { dst := some 33, op := Op.load 9 (Operand.tmp 32), type := 9, pos := "ref.go:39", after := #[{ on := 9, ground := Ground.data }], guard := none }) (v := .string x3) rfl (by kernel_rfl) (by kernel_rfl) (by kernel_rfl) (fun _ _ _ h => h) (Or.inl ⟨by rfl, by intro W hSw; have h1 := text_cell hSw.1 2 (by simp); simp only [List.getElem_cons_zero, List.getElem_cons_succ, Nat.add_zero] at h1; go_simp⟩) hHeld ?_
    try simp only [Act.put, List.setIfInBounds_toArray, List.set_cons_zero, List.set_cons_succ]
    refine wpAnyH_take (i := 12) (oi := { dst := some 35, op := Op.move (Operand.tmp 4), type := 53, pos := "ref.go:39", after := #[], guard := none }) (v := .slice (some ⟨b, off, none⟩) 5 c) rfl (by kernel_rfl) (by kernel_rfl) (by kernel_rfl) (fun _ _ _ h => h) (Or.inl ⟨by rfl, by intro W hSw; go_simp⟩) hHeld ?_
    try simp only [Act.put, List.setIfInBounds_toArray, List.set_cons_zero, List.set_cons_succ]
    refine wpAnyH_take (i := 13) (oi := { dst := some 36, op := Op.indexAddr 53 (Operand.tmp 35) (Operand.const (Value.int IntKind.i64 3)), type := 0, pos := "ref.go:39", after := #[{ on := 12, ground := Ground.data }], guard := none }) (v := .pointer (some ⟨b, off + 3, none⟩)) rfl (by kernel_rfl) (by kernel_rfl) (by kernel_rfl) (fun _ _ _ h => h) (Or.inl ⟨by rfl, by intro W hSw; go_simp⟩) hHeld ?_
    try simp only [Act.put, List.setIfInBounds_toArray, List.set_cons_zero, List.set_cons_succ]
    refine wpAnyH_take (i := 14) (oi := { dst := some 37, op := Op.load 9 (Operand.tmp 36), type := 9, pos := "ref.go:39", after := #[{ on := 13, ground := Ground.data }], guard := none }) (v := .string x4) rfl (by kernel_rfl) (by kernel_rfl) (by kernel_rfl) (fun _ _ _ h => h) (Or.inl ⟨by rfl, by intro W hSw; have h1 := text_cell hSw.1 3 (by simp); simp only [List.getElem_cons_zero, List.getElem_cons_succ, Nat.add_zero] at h1; go_simp⟩) hHeld ?_
    try simp only [Act.put, List.setIfInBounds_toArray, List.set_cons_zero, List.set_cons_succ]
    refine wpAnyH_take (i := 16) (oi := { dst := some 39, op := Op.load 25 (Operand.tmp 6), type := 25, pos := "ref.go:39", after := #[], guard := none }) (v := .agg D) rfl (by kernel_rfl) (by kernel_rfl) (by kernel_rfl) (fun _ _ _ h => h) (yieldsIf_row (by rfl) 25 (.tmp 6) rfl g6 rfl 25 D (0, 0) _ (fun _ h => h.2.1) Tryz.underlying25 rfl HSD.out) hHeld ?_
    try simp only [Act.put, List.setIfInBounds_toArray, List.set_cons_zero, List.set_cons_succ]
    refine wpAnyH_ready (rs := [3, 18]) (by kernel_rfl) (by simp) ?_
    refine (AllReadyH.cons (o := { dst := some 26, op := Op.call { callee := Callee.value (Operand.func 21), args := #[Operand.tmp 25], argTypes := #[9] }, type := 3, pos := "ref.go:39", after := #[{ on := 2, ground := Ground.data }], guard := none }) rfl (fun K hK => ?_) (AllReadyH.cons (o := { dst := some 7, op := Op.alloc 27, type := 0, pos := "ref.go:39", after := #[], guard := none }) rfl (fun K hK => ?_) AllReadyH.nil))
    · go_simp
      refine (V1.out _).mono ?_
      rintro e w3 ⟨rfl, hb3⟩
      replace HBc := hidk (HBc.out.trans (hb3.mono HBc.out.size))
      try replace HR7 := hidk ((hb3.block _ (heap_lt HR7.out)).trans HR7.out)
      go_wp2_with fail
      refine hK.out _ _ ⟨hHeld.1.keep hb3, (hb3.block _ (heap_lt hHeld.2.1)).trans hHeld.2.1, (hb3.block _ (heap_lt hHeld.2.2)).trans hHeld.2.2⟩ (fun hHeld => ?_)
      clear hK K
      try simp only [Act.put, List.setIfInBounds_toArray, List.set_cons_zero, List.set_cons_succ]
      refine wpAnyH_ready (rs := [7, 18]) (by kernel_rfl) (by simp) ?_
      refine (AllReadyH.cons (o := { dst := some 30, op := Op.call { callee := Callee.value (Operand.func 21), args := #[Operand.tmp 29], argTypes := #[9] }, type := 3, pos := "ref.go:39", after := #[{ on := 6, ground := Ground.data }, { on := 3, ground := Ground.chain }], guard := none }) rfl (fun K hK => ?_) (AllReadyH.cons (o := { dst := some 7, op := Op.alloc 27, type := 0, pos := "ref.go:39", after := #[], guard := none }) rfl (fun K hK => ?_) AllReadyH.nil))
      · go_simp
        refine (V2.out _).mono ?_
        rintro e w7 ⟨rfl, hb7⟩
        replace HBc := hidk (HBc.out.trans (hb7.mono HBc.out.size))
        try replace HR7 := hidk ((hb7.block _ (heap_lt HR7.out)).trans HR7.out)
        go_wp2_with fail
        refine hK.out _ _ ⟨hHeld.1.keep hb7, (hb7.block _ (heap_lt hHeld.2.1)).trans hHeld.2.1, (hb7.block _ (heap_lt hHeld.2.2)).trans hHeld.2.2⟩ (fun hHeld => ?_)
        clear hK K
        try simp only [Act.put, List.setIfInBounds_toArray, List.set_cons_zero, List.set_cons_succ]
        refine wpAnyH_ready (rs := [11, 18]) (by kernel_rfl) (by simp) ?_
        refine (AllReadyH.cons (o := { dst := some 34, op := Op.call { callee := Callee.value (Operand.func 21), args := #[Operand.tmp 33], argTypes := #[9] }, type := 3, pos := "ref.go:39", after := #[{ on := 10, ground := Ground.data }, { on := 7, ground := Ground.chain }], guard := none }) rfl (fun K hK => ?_) (AllReadyH.cons (o := { dst := some 7, op := Op.alloc 27, type := 0, pos := "ref.go:39", after := #[], guard := none }) rfl (fun K hK => ?_) AllReadyH.nil))
        · go_simp
          refine (V3.out _).mono ?_
          rintro e w11 ⟨rfl, hb11⟩
          replace HBc := hidk (HBc.out.trans (hb11.mono HBc.out.size))
          try replace HR7 := hidk ((hb11.block _ (heap_lt HR7.out)).trans HR7.out)
          go_wp2_with fail
          refine hK.out _ _ ⟨hHeld.1.keep hb11, (hb11.block _ (heap_lt hHeld.2.1)).trans hHeld.2.1, (hb11.block _ (heap_lt hHeld.2.2)).trans hHeld.2.2⟩ (fun hHeld => ?_)
          clear hK K
          try simp only [Act.put, List.setIfInBounds_toArray, List.set_cons_zero, List.set_cons_succ]
          refine wpAnyH_ready (rs := [15, 18]) (by kernel_rfl) (by simp) ?_
          refine (AllReadyH.cons (o := { dst := some 38, op := Op.call { callee := Callee.value (Operand.func 21), args := #[Operand.tmp 37], argTypes := #[9] }, type := 3, pos := "ref.go:39", after := #[{ on := 14, ground := Ground.data }, { on := 11, ground := Ground.chain }], guard := none }) rfl (fun K hK => ?_) (AllReadyH.cons (o := { dst := some 7, op := Op.alloc 27, type := 0, pos := "ref.go:39", after := #[], guard := none }) rfl (fun K hK => ?_) AllReadyH.nil))
          · go_simp
            refine (V4.out _).mono ?_
            rintro e w15 ⟨rfl, hb15⟩
            replace HBc := hidk (HBc.out.trans (hb15.mono HBc.out.size))
            try replace HR7 := hidk ((hb15.block _ (heap_lt HR7.out)).trans HR7.out)
            go_wp2_with fail
            refine hK.out _ _ ⟨hHeld.1.keep hb15, (hb15.block _ (heap_lt hHeld.2.1)).trans hHeld.2.1, (hb15.block _ (heap_lt hHeld.2.2)).trans hHeld.2.2⟩ (fun hHeld => ?_)
            clear hK K
            try simp only [Act.put, List.setIfInBounds_toArray, List.set_cons_zero, List.set_cons_succ]
            refine wpAnyH_take (i := 17) (oi := { dst := some 40, op := Op.build 27 #[(0, Operand.tmp 26), (1, Operand.tmp 30), (2, Operand.tmp 34), (3, Operand.tmp 38), (4, Operand.tmp 39)], type := 27, pos := "ref.go:39", after := #[{ on := 3, ground := Ground.data }, { on := 7, ground := Ground.data }, { on := 11, ground := Ground.data }, { on := 15, ground := Ground.data }, { on := 16, ground := Ground.data }], guard := none }) (v := .agg Q) rfl (by kernel_rfl) (by kernel_rfl) (by kernel_rfl) (fun _ _ _ h => h) (yieldsIf_build (by rfl) 27 _ rfl #[(0, .int .i64 v1), (1, .int .i64 v2), (2, .int .i64 v3), (3, .int .i64 v4), (4, .agg D)] rfl (.agg Q) BH.out) hHeld ?_
            try simp only [Act.put, List.setIfInBounds_toArray, List.set_cons_zero, List.set_cons_succ]
            refine wpAnyH_ready (rs := [18]) (by kernel_rfl) (by simp) ?_
            refine (AllReadyH.cons (o := { dst := some 7, op := Op.alloc 27, type := 0, pos := "ref.go:39", after := #[], guard := none }) rfl (fun K hK => ?_) AllReadyH.nil)
            refine step_new_var (by rfl) 27 rfl Z HA.out ?_
            intro g7 wg HM7
            have HR7 := hidk HM7.out.row
            have HG7 : Hid (g6 < g7) := (by show g6 < g7; rw [HM7.out.new]; exact heap_lt hHeld.2.1)
            replace HBc := hidk (HBc.out.trans (HM7.out.below.mono HBc.out.size))
            refine hK.out _ _ ⟨hHeld.1.keep HM7.out.below, (HM7.out.below.block _ (heap_lt hHeld.2.1)).trans hHeld.2.1, (HM7.out.below.block _ (heap_lt hHeld.2.2)).trans hHeld.2.2⟩ (fun hHeld => ?_)
            clear hK K
            try simp only [Act.put, List.setIfInBounds_toArray, List.set_cons_zero, List.set_cons_succ]
            refine wpAnyH_ready (rs := [19]) (by kernel_rfl) (by simp) ?_
            refine (AllReadyH.cons (o := { dst := none, op := Op.store 27 (Operand.tmp 7) (Operand.tmp 40), type := 0, pos := "ref.go:39", after := #[{ on := 18, ground := Ground.data }, { on := 17, ground := Ground.data }, { on := 15, ground := Ground.chain }, { on := 0, ground := Ground.phase }, { on := 1, ground := Ground.phase }, { on := 2, ground := Ground.phase }, { on := 3, ground := Ground.phase }, { on := 4, ground := Ground.phase }, { on := 5, ground := Ground.phase }, { on := 6, ground := Ground.phase }, { on := 7, ground := Ground.phase }, { on := 8, ground := Ground.phase }, { on := 9, ground := Ground.phase }, { on := 10, ground := Ground.phase }, { on := 11, ground := Ground.phase }, { on := 12, ground := Ground.phase }, { on := 13, ground := Ground.phase }, { on := 14, ground := Ground.phase }, { on := 15, ground := Ground.phase }, { on := 16, ground := Ground.phase }, { on := 17, ground := Ground.phase }, { on := 18, ground := Ground.phase }], guard := none }) rfl (fun K hK => ?_) AllReadyH.nil)
            refine step_set_var (by rfl) 27 (.tmp 7) (.tmp 40) rfl g7 Q rfl rfl 27 Z HR7.out HSQ.out HZQ.out H1Q.out ?_
            intro wz HW7
            refine hK.out _ _ ⟨texts_wrote hHeld.1 HW7.out (by have := HG7.out; have := HTB.out; omega), (HW7.out.other _ (by have := HG7.out; omega)).trans hHeld.2.1, (HW7.out.other _ (by have := HG7.out; omega)).trans hHeld.2.2⟩ (fun hHeld => ?_)
            clear hK K
            try simp only [Act.put, List.setIfInBounds_toArray, List.set_cons_zero, List.set_cons_succ]
            refine wpAnyH_done (by kernel_rfl) ?_ _
            have h7 : g6 < g7 := HG7.out
            have HR7z := hidk HW7.out.row
            have HR2z := hidk hHeld.2.2
            have HBz := hidk (HW7.out.below w.heap.size w HBc.out (by omega))
            clear HW7 HBc hHeld HR7
            cases bd
            · obtain ⟨rfl, rfl⟩ := HNO.out (by simp)
              go_wp2_with (first
                | (show wpList _ _ _ ({ dst := some 48, op := _, type := _, pos := _, after := _, guard := _ } :: _) _ _; refine wpList_build_none rfl 27 rfl R HBZ.out ?_; try simp only [Act.put, List.setIfInBounds_toArray, List.set_cons_zero, List.set_cons_succ])
                | (refine wpList_set_var rfl 27 (.tmp 2) (.tmp 48) rfl g2 R rfl rfl 27 R HR2z.out HSZ.out rfl H1Z.out ?_; intro wz HW2; try simp only [Act.put, List.setIfInBounds_toArray, List.set_cons_zero, List.set_cons_succ])
                | fail)
              refine bodyPost_ret (v := .tuple #[.agg R, .int .i64 60]) ?_ rfl ⟨rfl, HW2.out.below w.heap.size w HBz.out h2⟩
              exact results_row_tmp (p := 2) (q := 3) (ty := 27) rfl _ _ g2 27 R (0, 0) _ rfl HW2.out.row Tryz.underlying27 rfl HSZ.out
            · go_wp2_with (first
                | (show wpList _ _ _ ({ dst := some 44, op := _, type := _, pos := _, after := _, guard := _ } :: _) _ _; refine wpList_load_row_w (by rfl) 27 (.tmp 7) rfl g7 rfl 27 Q (0, 0) _ HR7z.out Tryz.underlying27 rfl HSQ.out ?_; try simp only [Act.put, List.setIfInBounds_toArray, List.set_cons_zero, List.set_cons_succ])
                | fail)
              refine (RI.out _).mono ?_
              rintro e wr ⟨rfl, hbr⟩
              have HBr := hidk (HBz.out.trans (hbr.mono HBz.out.size))
              have HR7r := hidk ((hbr.block _ (heap_lt HR7z.out)).trans HR7z.out)
              have HR2r := hidk ((hbr.block _ (heap_lt HR2z.out)).trans HR2z.out)
              clear hbr HBz HR7z HR2z RI
              cases br
              · obtain ⟨rfl, rfl⟩ := HNO.out (by simp)
                go_wp2_with (first
                  | (show wpList _ _ _ ({ dst := some 48, op := _, type := _, pos := _, after := _, guard := _ } :: _) _ _; refine wpList_build_none rfl 27 rfl R HBZ.out ?_; try simp only [Act.put, List.setIfInBounds_toArray, List.set_cons_zero, List.set_cons_succ])
                  | (refine wpList_set_var rfl 27 (.tmp 2) (.tmp 48) rfl g2 R rfl rfl 27 R HR2r.out HSZ.out rfl H1Z.out ?_; intro wz HW2; try simp only [Act.put, List.setIfInBounds_toArray, List.set_cons_zero, List.set_cons_succ])
                  | fail)
                refine bodyPost_ret (v := .tuple #[.agg R, .int .i64 60]) ?_ rfl ⟨rfl, HW2.out.below w.heap.size w HBr.out h2⟩
                exact results_row_tmp (p := 2) (q := 3) (ty := 27) rfl _ _ g2 27 R (0, 0) _ rfl HW2.out.row Tryz.underlying27 rfl HSZ.out
              · obtain ⟨rfl, rfl⟩ := HOK.out (by simp)
                go_wp2_with (first
                  | (show wpList _ _ _ ({ dst := some 49, op := _, type := _, pos := _, after := _, guard := _ } :: _) _ _; refine wpList_load_row rfl 27 (.tmp 7) rfl g7 rfl 27 R (0, 0) _ HR7r.out Tryz.underlying27 rfl HSQ.out ?_; try simp only [Act.put, List.setIfInBounds_toArray, List.set_cons_zero, List.set_cons_succ])
                  | (refine wpList_set_var rfl 27 (.tmp 2) (.tmp 49) rfl g2 R rfl rfl 27 Z HR2r.out HSR.out HZR.out H1R.out ?_; intro wz HW2; try simp only [Act.put, List.setIfInBounds_toArray, List.set_cons_zero, List.set_cons_succ])
                  | fail)
                refine bodyPost_ret (v := .tuple #[.agg R, .int .i64 0]) ?_ rfl ⟨rfl, HW2.out.below w.heap.size w HBr.out h2⟩
                exact results_row_tmp (p := 2) (q := 3) (ty := 27) rfl _ _ g2 27 R (0, 0) _ rfl HW2.out.row Tryz.underlying27 rfl HSR.out
          · refine step_new_var (by rfl) 27 rfl Z HA.out ?_
            intro g7 wg HM7
            have HR7 := hidk HM7.out.row
            have HG7 : Hid (g6 < g7) := (by show g6 < g7; rw [HM7.out.new]; exact heap_lt hHeld.2.1)
            replace HBc := hidk (HBc.out.trans (HM7.out.below.mono HBc.out.size))
            refine hK.out _ _ ⟨hHeld.1.keep HM7.out.below, (HM7.out.below.block _ (heap_lt hHeld.2.1)).trans hHeld.2.1, (HM7.out.below.block _ (heap_lt hHeld.2.2)).trans hHeld.2.2⟩ (fun hHeld => ?_)
            clear hK K
            try simp only [Act.put, List.setIfInBounds_toArray, List.set_cons_zero, List.set_cons_succ]
            refine wpAnyH_ready (rs := [15]) (by kernel_rfl) (by simp) ?_
            refine (AllReadyH.cons (o := { dst := some 38, op := Op.call { callee := Callee.value (Operand.func 21), args := #[Operand.tmp 37], argTypes := #[9] }, type := 3, pos := "ref.go:39", after := #[{ on := 14, ground := Ground.data }, { on := 11, ground := Ground.chain }], guard := none }) rfl (fun K hK => ?_) AllReadyH.nil)
            go_simp
            refine (V4.out _).mono ?_
            rintro e w15 ⟨rfl, hb15⟩
            replace HBc := hidk (HBc.out.trans (hb15.mono HBc.out.size))
            try replace HR7 := hidk ((hb15.block _ (heap_lt HR7.out)).trans HR7.out)
            go_wp2_with fail
            refine hK.out _ _ ⟨hHeld.1.keep hb15, (hb15.block _ (heap_lt hHeld.2.1)).trans hHeld.2.1, (hb15.block _ (heap_lt hHeld.2.2)).trans hHeld.2.2⟩ (fun hHeld => ?_)
            clear hK K
            try simp only [Act.put, List.setIfInBounds_toArray, List.set_cons_zero, List.set_cons_succ]
            refine wpAnyH_take (i := 17) (oi := { dst := some 40, op := Op.build 27 #[(0, Operand.tmp 26), (1, Operand.tmp 30), (2, Operand.tmp 34), (3, Operand.tmp 38), (4, Operand.tmp 39)], type := 27, pos := "ref.go:39", after := #[{ on := 3, ground := Ground.data }, { on := 7, ground := Ground.data }, { on := 11, ground := Ground.data }, { on := 15, ground := Ground.data }, { on := 16, ground := Ground.data }], guard := none }) (v := .agg Q) rfl (by kernel_rfl) (by kernel_rfl) (by kernel_rfl) (fun _ _ _ h => h) (yieldsIf_build (by rfl) 27 _ rfl #[(0, .int .i64 v1), (1, .int .i64 v2), (2, .int .i64 v3), (3, .int .i64 v4), (4, .agg D)] rfl (.agg Q) BH.out) hHeld ?_
            try simp only [Act.put, List.setIfInBounds_toArray, List.set_cons_zero, List.set_cons_succ]
            refine wpAnyH_ready (rs := [19]) (by kernel_rfl) (by simp) ?_
            refine (AllReadyH.cons (o := { dst := none, op := Op.store 27 (Operand.tmp 7) (Operand.tmp 40), type := 0, pos := "ref.go:39", after := #[{ on := 18, ground := Ground.data }, { on := 17, ground := Ground.data }, { on := 15, ground := Ground.chain }, { on := 0, ground := Ground.phase }, { on := 1, ground := Ground.phase }, { on := 2, ground := Ground.phase }, { on := 3, ground := Ground.phase }, { on := 4, ground := Ground.phase }, { on := 5, ground := Ground.phase }, { on := 6, ground := Ground.phase }, { on := 7, ground := Ground.phase }, { on := 8, ground := Ground.phase }, { on := 9, ground := Ground.phase }, { on := 10, ground := Ground.phase }, { on := 11, ground := Ground.phase }, { on := 12, ground := Ground.phase }, { on := 13, ground := Ground.phase }, { on := 14, ground := Ground.phase }, { on := 15, ground := Ground.phase }, { on := 16, ground := Ground.phase }, { on := 17, ground := Ground.phase }, { on := 18, ground := Ground.phase }], guard := none }) rfl (fun K hK => ?_) AllReadyH.nil)
            refine step_set_var (by rfl) 27 (.tmp 7) (.tmp 40) rfl g7 Q rfl rfl 27 Z HR7.out HSQ.out HZQ.out H1Q.out ?_
            intro wz HW7
            refine hK.out _ _ ⟨texts_wrote hHeld.1 HW7.out (by have := HG7.out; have := HTB.out; omega), (HW7.out.other _ (by have := HG7.out; omega)).trans hHeld.2.1, (HW7.out.other _ (by have := HG7.out; omega)).trans hHeld.2.2⟩ (fun hHeld => ?_)
            clear hK K
            try simp only [Act.put, List.setIfInBounds_toArray, List.set_cons_zero, List.set_cons_succ]
            refine wpAnyH_done (by kernel_rfl) ?_ _
            have h7 : g6 < g7 := HG7.out
            have HR7z := hidk HW7.out.row
            have HR2z := hidk hHeld.2.2
            have HBz := hidk (HW7.out.below w.heap.size w HBc.out (by omega))
            clear HW7 HBc hHeld HR7
            cases bd
            · obtain ⟨rfl, rfl⟩ := HNO.out (by simp)
              go_wp2_with (first
                | (show wpList _ _ _ ({ dst := some 48, op := _, type := _, pos := _, after := _, guard := _ } :: _) _ _; refine wpList_build_none rfl 27 rfl R HBZ.out ?_; try simp only [Act.put, List.setIfInBounds_toArray, List.set_cons_zero, List.set_cons_succ])
                | (refine wpList_set_var rfl 27 (.tmp 2) (.tmp 48) rfl g2 R rfl rfl 27 R HR2z.out HSZ.out rfl H1Z.out ?_; intro wz HW2; try simp only [Act.put, List.setIfInBounds_toArray, List.set_cons_zero, List.set_cons_succ])
                | fail)
              refine bodyPost_ret (v := .tuple #[.agg R, .int .i64 60]) ?_ rfl ⟨rfl, HW2.out.below w.heap.size w HBz.out h2⟩
              exact results_row_tmp (p := 2) (q := 3) (ty := 27) rfl _ _ g2 27 R (0, 0) _ rfl HW2.out.row Tryz.underlying27 rfl HSZ.out
            · go_wp2_with (first
                | (show wpList _ _ _ ({ dst := some 44, op := _, type := _, pos := _, after := _, guard := _ } :: _) _ _; refine wpList_load_row_w (by rfl) 27 (.tmp 7) rfl g7 rfl 27 Q (0, 0) _ HR7z.out Tryz.underlying27 rfl HSQ.out ?_; try simp only [Act.put, List.setIfInBounds_toArray, List.set_cons_zero, List.set_cons_succ])
                | fail)
              refine (RI.out _).mono ?_
              rintro e wr ⟨rfl, hbr⟩
              have HBr := hidk (HBz.out.trans (hbr.mono HBz.out.size))
              have HR7r := hidk ((hbr.block _ (heap_lt HR7z.out)).trans HR7z.out)
              have HR2r := hidk ((hbr.block _ (heap_lt HR2z.out)).trans HR2z.out)
              clear hbr HBz HR7z HR2z RI
              cases br
              · obtain ⟨rfl, rfl⟩ := HNO.out (by simp)
                go_wp2_with (first
                  | (show wpList _ _ _ ({ dst := some 48, op := _, type := _, pos := _, after := _, guard := _ } :: _) _ _; refine wpList_build_none rfl 27 rfl R HBZ.out ?_; try simp only [Act.put, List.setIfInBounds_toArray, List.set_cons_zero, List.set_cons_succ])
                  | (refine wpList_set_var rfl 27 (.tmp 2) (.tmp 48) rfl g2 R rfl rfl 27 R HR2r.out HSZ.out rfl H1Z.out ?_; intro wz HW2; try simp only [Act.put, List.setIfInBounds_toArray, List.set_cons_zero, List.set_cons_succ])
                  | fail)
                refine bodyPost_ret (v := .tuple #[.agg R, .int .i64 60]) ?_ rfl ⟨rfl, HW2.out.below w.heap.size w HBr.out h2⟩
                exact results_row_tmp (p := 2) (q := 3) (ty := 27) rfl _ _ g2 27 R (0, 0) _ rfl HW2.out.row Tryz.underlying27 rfl HSZ.out
              · obtain ⟨rfl, rfl⟩ := HOK.out (by simp)
                go_wp2_with (first
                  | (show wpList _ _ _ ({ dst := some 49, op := _, type := _, pos := _, after := _, guard := _ } :: _) _ _; refine wpList_load_row rfl 27 (.tmp 7) rfl g7 rfl 27 R (0, 0) _ HR7r.out Tryz.underlying27 rfl HSQ.out ?_; try simp only [Act.put, List.setIfInBounds_toArray, List.set_cons_zero, List.set_cons_succ])
                  | (refine wpList_set_var rfl 27 (.tmp 2) (.tmp 49) rfl g2 R rfl rfl 27 Z HR2r.out HSR.out HZR.out H1R.out ?_; intro wz HW2; try simp only [Act.put, List.setIfInBounds_toArray, List.set_cons_zero, List.set_cons_succ])
                  | fail)
                refine bodyPost_ret (v := .tuple #[.agg R, .int .i64 0]) ?_ rfl ⟨rfl, HW2.out.below w.heap.size w HBr.out h2⟩
                exact results_row_tmp (p := 2) (q := 3) (ty := 27) rfl _ _ g2 27 R (0, 0) _ rfl HW2.out.row Tryz.underlying27 rfl HSR.out
        · refine step_new_var (by rfl) 27 rfl Z HA.out ?_
          intro g7 wg HM7
          have HR7 := hidk HM7.out.row
          have HG7 : Hid (g6 < g7) := (by show g6 < g7; rw [HM7.out.new]; exact heap_lt hHeld.2.1)
          replace HBc := hidk (HBc.out.trans (HM7.out.below.mono HBc.out.size))
          refine hK.out _ _ ⟨hHeld.1.keep HM7.out.below, (HM7.out.below.block _ (heap_lt hHeld.2.1)).trans hHeld.2.1, (HM7.out.below.block _ (heap_lt hHeld.2.2)).trans hHeld.2.2⟩ (fun hHeld => ?_)
          clear hK K
          try simp only [Act.put, List.setIfInBounds_toArray, List.set_cons_zero, List.set_cons_succ]
          refine wpAnyH_ready (rs := [11]) (by kernel_rfl) (by simp) ?_
          refine (AllReadyH.cons (o := { dst := some 34, op := Op.call { callee := Callee.value (Operand.func 21), args := #[Operand.tmp 33], argTypes := #[9] }, type := 3, pos := "ref.go:39", after := #[{ on := 10, ground := Ground.data }, { on := 7, ground := Ground.chain }], guard := none }) rfl (fun K hK => ?_) AllReadyH.nil)
          go_simp
          refine (V3.out _).mono ?_
          rintro e w11 ⟨rfl, hb11⟩
          replace HBc := hidk (HBc.out.trans (hb11.mono HBc.out.size))
          try replace HR7 := hidk ((hb11.block _ (heap_lt HR7.out)).trans HR7.out)
          go_wp2_with fail
          refine hK.out _ _ ⟨hHeld.1.keep hb11, (hb11.block _ (heap_lt hHeld.2.1)).trans hHeld.2.1, (hb11.block _ (heap_lt hHeld.2.2)).trans hHeld.2.2⟩ (fun hHeld => ?_)
          clear hK K
          try simp only [Act.put, List.setIfInBounds_toArray, List.set_cons_zero, List.set_cons_succ]
          refine wpAnyH_ready (rs := [15]) (by kernel_rfl) (by simp) ?_
          refine (AllReadyH.cons (o := { dst := some 38, op := Op.call { callee := Callee.value (Operand.func 21), args := #[Operand.tmp 37], argTypes := #[9] }, type := 3, pos := "ref.go:39", after := #[{ on := 14, ground := Ground.data }, { on := 11, ground := Ground.chain }], guard := none }) rfl (fun K hK => ?_) AllReadyH.nil)
          go_simp
          refine (V4.out _).mono ?_
          rintro e w15 ⟨rfl, hb15⟩
          replace HBc := hidk (HBc.out.trans (hb15.mono HBc.out.size))
          try replace HR7 := hidk ((hb15.block _ (heap_lt HR7.out)).trans HR7.out)
          go_wp2_with fail
          refine hK.out _ _ ⟨hHeld.1.keep hb15, (hb15.block _ (heap_lt hHeld.2.1)).trans hHeld.2.1, (hb15.block _ (heap_lt hHeld.2.2)).trans hHeld.2.2⟩ (fun hHeld => ?_)
          clear hK K
          try simp only [Act.put, List.setIfInBounds_toArray, List.set_cons_zero, List.set_cons_succ]
          refine wpAnyH_take (i := 17) (oi := { dst := some 40, op := Op.build 27 #[(0, Operand.tmp 26), (1, Operand.tmp 30), (2, Operand.tmp 34), (3, Operand.tmp 38), (4, Operand.tmp 39)], type := 27, pos := "ref.go:39", after := #[{ on := 3, ground := Ground.data }, { on := 7, ground := Ground.data }, { on := 11, ground := Ground.data }, { on := 15, ground := Ground.data }, { on := 16, ground := Ground.data }], guard := none }) (v := .agg Q) rfl (by kernel_rfl) (by kernel_rfl) (by kernel_rfl) (fun _ _ _ h => h) (yieldsIf_build (by rfl) 27 _ rfl #[(0, .int .i64 v1), (1, .int .i64 v2), (2, .int .i64 v3), (3, .int .i64 v4), (4, .agg D)] rfl (.agg Q) BH.out) hHeld ?_
          try simp only [Act.put, List.setIfInBounds_toArray, List.set_cons_zero, List.set_cons_succ]
          refine wpAnyH_ready (rs := [19]) (by kernel_rfl) (by simp) ?_
          refine (AllReadyH.cons (o := { dst := none, op := Op.store 27 (Operand.tmp 7) (Operand.tmp 40), type := 0, pos := "ref.go:39", after := #[{ on := 18, ground := Ground.data }, { on := 17, ground := Ground.data }, { on := 15, ground := Ground.chain }, { on := 0, ground := Ground.phase }, { on := 1, ground := Ground.phase }, { on := 2, ground := Ground.phase }, { on := 3, ground := Ground.phase }, { on := 4, ground := Ground.phase }, { on := 5, ground := Ground.phase }, { on := 6, ground := Ground.phase }, { on := 7, ground := Ground.phase }, { on := 8, ground := Ground.phase }, { on := 9, ground := Ground.phase }, { on := 10, ground := Ground.phase }, { on := 11, ground := Ground.phase }, { on := 12, ground := Ground.phase }, { on := 13, ground := Ground.phase }, { on := 14, ground := Ground.phase }, { on := 15, ground := Ground.phase }, { on := 16, ground := Ground.phase }, { on := 17, ground := Ground.phase }, { on := 18, ground := Ground.phase }], guard := none }) rfl (fun K hK => ?_) AllReadyH.nil)
          refine step_set_var (by rfl) 27 (.tmp 7) (.tmp 40) rfl g7 Q rfl rfl 27 Z HR7.out HSQ.out HZQ.out H1Q.out ?_
          intro wz HW7
          refine hK.out _ _ ⟨texts_wrote hHeld.1 HW7.out (by have := HG7.out; have := HTB.out; omega), (HW7.out.other _ (by have := HG7.out; omega)).trans hHeld.2.1, (HW7.out.other _ (by have := HG7.out; omega)).trans hHeld.2.2⟩ (fun hHeld => ?_)
          clear hK K
          try simp only [Act.put, List.setIfInBounds_toArray, List.set_cons_zero, List.set_cons_succ]
          refine wpAnyH_done (by kernel_rfl) ?_ _
          have h7 : g6 < g7 := HG7.out
          have HR7z := hidk HW7.out.row
          have HR2z := hidk hHeld.2.2
          have HBz := hidk (HW7.out.below w.heap.size w HBc.out (by omega))
          clear HW7 HBc hHeld HR7
          cases bd
          · obtain ⟨rfl, rfl⟩ := HNO.out (by simp)
            go_wp2_with (first
              | (show wpList _ _ _ ({ dst := some 48, op := _, type := _, pos := _, after := _, guard := _ } :: _) _ _; refine wpList_build_none rfl 27 rfl R HBZ.out ?_; try simp only [Act.put, List.setIfInBounds_toArray, List.set_cons_zero, List.set_cons_succ])
              | (refine wpList_set_var rfl 27 (.tmp 2) (.tmp 48) rfl g2 R rfl rfl 27 R HR2z.out HSZ.out rfl H1Z.out ?_; intro wz HW2; try simp only [Act.put, List.setIfInBounds_toArray, List.set_cons_zero, List.set_cons_succ])
              | fail)
            refine bodyPost_ret (v := .tuple #[.agg R, .int .i64 60]) ?_ rfl ⟨rfl, HW2.out.below w.heap.size w HBz.out h2⟩
            exact results_row_tmp (p := 2) (q := 3) (ty := 27) rfl _ _ g2 27 R (0, 0) _ rfl HW2.out.row Tryz.underlying27 rfl HSZ.out
          · go_wp2_with (first
              | (show wpList _ _ _ ({ dst := some 44, op := _, type := _, pos := _, after := _, guard := _ } :: _) _ _; refine wpList_load_row_w (by rfl) 27 (.tmp 7) rfl g7 rfl 27 Q (0, 0) _ HR7z.out Tryz.underlying27 rfl HSQ.out ?_; try simp only [Act.put, List.setIfInBounds_toArray, List.set_cons_zero, List.set_cons_succ])
              | fail)
            refine (RI.out _).mono ?_
            rintro e wr ⟨rfl, hbr⟩
            have HBr := hidk (HBz.out.trans (hbr.mono HBz.out.size))
            have HR7r := hidk ((hbr.block _ (heap_lt HR7z.out)).trans HR7z.out)
            have HR2r := hidk ((hbr.block _ (heap_lt HR2z.out)).trans HR2z.out)
            clear hbr HBz HR7z HR2z RI
            cases br
            · obtain ⟨rfl, rfl⟩ := HNO.out (by simp)
              go_wp2_with (first
                | (show wpList _ _ _ ({ dst := some 48, op := _, type := _, pos := _, after := _, guard := _ } :: _) _ _; refine wpList_build_none rfl 27 rfl R HBZ.out ?_; try simp only [Act.put, List.setIfInBounds_toArray, List.set_cons_zero, List.set_cons_succ])
                | (refine wpList_set_var rfl 27 (.tmp 2) (.tmp 48) rfl g2 R rfl rfl 27 R HR2r.out HSZ.out rfl H1Z.out ?_; intro wz HW2; try simp only [Act.put, List.setIfInBounds_toArray, List.set_cons_zero, List.set_cons_succ])
                | fail)
              refine bodyPost_ret (v := .tuple #[.agg R, .int .i64 60]) ?_ rfl ⟨rfl, HW2.out.below w.heap.size w HBr.out h2⟩
              exact results_row_tmp (p := 2) (q := 3) (ty := 27) rfl _ _ g2 27 R (0, 0) _ rfl HW2.out.row Tryz.underlying27 rfl HSZ.out
            · obtain ⟨rfl, rfl⟩ := HOK.out (by simp)
              go_wp2_with (first
                | (show wpList _ _ _ ({ dst := some 49, op := _, type := _, pos := _, after := _, guard := _ } :: _) _ _; refine wpList_load_row rfl 27 (.tmp 7) rfl g7 rfl 27 R (0, 0) _ HR7r.out Tryz.underlying27 rfl HSQ.out ?_; try simp only [Act.put, List.setIfInBounds_toArray, List.set_cons_zero, List.set_cons_succ])
                | (refine wpList_set_var rfl 27 (.tmp 2) (.tmp 49) rfl g2 R rfl rfl 27 Z HR2r.out HSR.out HZR.out H1R.out ?_; intro wz HW2; try simp only [Act.put, List.setIfInBounds_toArray, List.set_cons_zero, List.set_cons_succ])
                | fail)
              refine bodyPost_ret (v := .tuple #[.agg R, .int .i64 0]) ?_ rfl ⟨rfl, HW2.out.below w.heap.size w HBr.out h2⟩
              exact results_row_tmp (p := 2) (q := 3) (ty := 27) rfl _ _ g2 27 R (0, 0) _ rfl HW2.out.row Tryz.underlying27 rfl HSR.out
      · refine step_new_var (by rfl) 27 rfl Z HA.out ?_
        intro g7 wg HM7
        have HR7 := hidk HM7.out.row
        have HG7 : Hid (g6 < g7) := (by show g6 < g7; rw [HM7.out.new]; exact heap_lt hHeld.2.1)
        replace HBc := hidk (HBc.out.trans (HM7.out.below.mono HBc.out.size))
        refine hK.out _ _ ⟨hHeld.1.keep HM7.out.below, (HM7.out.below.block _ (heap_lt hHeld.2.1)).trans hHeld.2.1, (HM7.out.below.block _ (heap_lt hHeld.2.2)).trans hHeld.2.2⟩ (fun hHeld => ?_)
        clear hK K
        try simp only [Act.put, List.setIfInBounds_toArray, List.set_cons_zero, List.set_cons_succ]
        refine wpAnyH_ready (rs := [7]) (by kernel_rfl) (by simp) ?_
        refine (AllReadyH.cons (o := { dst := some 30, op := Op.call { callee := Callee.value (Operand.func 21), args := #[Operand.tmp 29], argTypes := #[9] }, type := 3, pos := "ref.go:39", after := #[{ on := 6, ground := Ground.data }, { on := 3, ground := Ground.chain }], guard := none }) rfl (fun K hK => ?_) AllReadyH.nil)
        go_simp
        refine (V2.out _).mono ?_
        rintro e w7 ⟨rfl, hb7⟩
        replace HBc := hidk (HBc.out.trans (hb7.mono HBc.out.size))
        try replace HR7 := hidk ((hb7.block _ (heap_lt HR7.out)).trans HR7.out)
        go_wp2_with fail
        refine hK.out _ _ ⟨hHeld.1.keep hb7, (hb7.block _ (heap_lt hHeld.2.1)).trans hHeld.2.1, (hb7.block _ (heap_lt hHeld.2.2)).trans hHeld.2.2⟩ (fun hHeld => ?_)
        clear hK K
        try simp only [Act.put, List.setIfInBounds_toArray, List.set_cons_zero, List.set_cons_succ]
        refine wpAnyH_ready (rs := [11]) (by kernel_rfl) (by simp) ?_
        refine (AllReadyH.cons (o := { dst := some 34, op := Op.call { callee := Callee.value (Operand.func 21), args := #[Operand.tmp 33], argTypes := #[9] }, type := 3, pos := "ref.go:39", after := #[{ on := 10, ground := Ground.data }, { on := 7, ground := Ground.chain }], guard := none }) rfl (fun K hK => ?_) AllReadyH.nil)
        go_simp
        refine (V3.out _).mono ?_
        rintro e w11 ⟨rfl, hb11⟩
        replace HBc := hidk (HBc.out.trans (hb11.mono HBc.out.size))
        try replace HR7 := hidk ((hb11.block _ (heap_lt HR7.out)).trans HR7.out)
        go_wp2_with fail
        refine hK.out _ _ ⟨hHeld.1.keep hb11, (hb11.block _ (heap_lt hHeld.2.1)).trans hHeld.2.1, (hb11.block _ (heap_lt hHeld.2.2)).trans hHeld.2.2⟩ (fun hHeld => ?_)
        clear hK K
        try simp only [Act.put, List.setIfInBounds_toArray, List.set_cons_zero, List.set_cons_succ]
        refine wpAnyH_ready (rs := [15]) (by kernel_rfl) (by simp) ?_
        refine (AllReadyH.cons (o := { dst := some 38, op := Op.call { callee := Callee.value (Operand.func 21), args := #[Operand.tmp 37], argTypes := #[9] }, type := 3, pos := "ref.go:39", after := #[{ on := 14, ground := Ground.data }, { on := 11, ground := Ground.chain }], guard := none }) rfl (fun K hK => ?_) AllReadyH.nil)
        go_simp
        refine (V4.out _).mono ?_
        rintro e w15 ⟨rfl, hb15⟩
        replace HBc := hidk (HBc.out.trans (hb15.mono HBc.out.size))
        try replace HR7 := hidk ((hb15.block _ (heap_lt HR7.out)).trans HR7.out)
        go_wp2_with fail
        refine hK.out _ _ ⟨hHeld.1.keep hb15, (hb15.block _ (heap_lt hHeld.2.1)).trans hHeld.2.1, (hb15.block _ (heap_lt hHeld.2.2)).trans hHeld.2.2⟩ (fun hHeld => ?_)
        clear hK K
        try simp only [Act.put, List.setIfInBounds_toArray, List.set_cons_zero, List.set_cons_succ]
        refine wpAnyH_take (i := 17) (oi := { dst := some 40, op := Op.build 27 #[(0, Operand.tmp 26), (1, Operand.tmp 30), (2, Operand.tmp 34), (3, Operand.tmp 38), (4, Operand.tmp 39)], type := 27, pos := "ref.go:39", after := #[{ on := 3, ground := Ground.data }, { on := 7, ground := Ground.data }, { on := 11, ground := Ground.data }, { on := 15, ground := Ground.data }, { on := 16, ground := Ground.data }], guard := none }) (v := .agg Q) rfl (by kernel_rfl) (by kernel_rfl) (by kernel_rfl) (fun _ _ _ h => h) (yieldsIf_build (by rfl) 27 _ rfl #[(0, .int .i64 v1), (1, .int .i64 v2), (2, .int .i64 v3), (3, .int .i64 v4), (4, .agg D)] rfl (.agg Q) BH.out) hHeld ?_
        try simp only [Act.put, List.setIfInBounds_toArray, List.set_cons_zero, List.set_cons_succ]
        refine wpAnyH_ready (rs := [19]) (by kernel_rfl) (by simp) ?_
        refine (AllReadyH.cons (o := { dst := none, op := Op.store 27 (Operand.tmp 7) (Operand.tmp 40), type := 0, pos := "ref.go:39", after := #[{ on := 18, ground := Ground.data }, { on := 17, ground := Ground.data }, { on := 15, ground := Ground.chain }, { on := 0, ground := Ground.phase }, { on := 1, ground := Ground.phase }, { on := 2, ground := Ground.phase }, { on := 3, ground := Ground.phase }, { on := 4, ground := Ground.phase }, { on := 5, ground := Ground.phase }, { on := 6, ground := Ground.phase }, { on := 7, ground := Ground.phase }, { on := 8, ground := Ground.phase }, { on := 9, ground := Ground.phase }, { on := 10, ground := Ground.phase }, { on := 11, ground := Ground.phase }, { on := 12, ground := Ground.phase }, { on := 13, ground := Ground.phase }, { on := 14, ground := Ground.phase }, { on := 15, ground := Ground.phase }, { on := 16, ground := Ground.phase }, { on := 17, ground := Ground.phase }, { on := 18, ground := Ground.phase }], guard := none }) rfl (fun K hK => ?_) AllReadyH.nil)
        refine step_set_var (by rfl) 27 (.tmp 7) (.tmp 40) rfl g7 Q rfl rfl 27 Z HR7.out HSQ.out HZQ.out H1Q.out ?_
        intro wz HW7
        refine hK.out _ _ ⟨texts_wrote hHeld.1 HW7.out (by have := HG7.out; have := HTB.out; omega), (HW7.out.other _ (by have := HG7.out; omega)).trans hHeld.2.1, (HW7.out.other _ (by have := HG7.out; omega)).trans hHeld.2.2⟩ (fun hHeld => ?_)
        clear hK K
        try simp only [Act.put, List.setIfInBounds_toArray, List.set_cons_zero, List.set_cons_succ]
        refine wpAnyH_done (by kernel_rfl) ?_ _
        have h7 : g6 < g7 := HG7.out
        have HR7z := hidk HW7.out.row
        have HR2z := hidk hHeld.2.2
        have HBz := hidk (HW7.out.below w.heap.size w HBc.out (by omega))
        clear HW7 HBc hHeld HR7
        cases bd
        · obtain ⟨rfl, rfl⟩ := HNO.out (by simp)
          go_wp2_with (first
            | (show wpList _ _ _ ({ dst := some 48, op := _, type := _, pos := _, after := _, guard := _ } :: _) _ _; refine wpList_build_none rfl 27 rfl R HBZ.out ?_; try simp only [Act.put, List.setIfInBounds_toArray, List.set_cons_zero, List.set_cons_succ])
            | (refine wpList_set_var rfl 27 (.tmp 2) (.tmp 48) rfl g2 R rfl rfl 27 R HR2z.out HSZ.out rfl H1Z.out ?_; intro wz HW2; try simp only [Act.put, List.setIfInBounds_toArray, List.set_cons_zero, List.set_cons_succ])
            | fail)
          refine bodyPost_ret (v := .tuple #[.agg R, .int .i64 60]) ?_ rfl ⟨rfl, HW2.out.below w.heap.size w HBz.out h2⟩
          exact results_row_tmp (p := 2) (q := 3) (ty := 27) rfl _ _ g2 27 R (0, 0) _ rfl HW2.out.row Tryz.underlying27 rfl HSZ.out
        · go_wp2_with (first
            | (show wpList _ _ _ ({ dst := some 44, op := _, type := _, pos := _, after := _, guard := _ } :: _) _ _; refine wpList_load_row_w (by rfl) 27 (.tmp 7) rfl g7 rfl 27 Q (0, 0) _ HR7z.out Tryz.underlying27 rfl HSQ.out ?_; try simp only [Act.put, List.setIfInBounds_toArray, List.set_cons_zero, List.set_cons_succ])
            | fail)
          refine (RI.out _).mono ?_
          rintro e wr ⟨rfl, hbr⟩
          have HBr := hidk (HBz.out.trans (hbr.mono HBz.out.size))
          have HR7r := hidk ((hbr.block _ (heap_lt HR7z.out)).trans HR7z.out)
          have HR2r := hidk ((hbr.block _ (heap_lt HR2z.out)).trans HR2z.out)
          clear hbr HBz HR7z HR2z RI
          cases br
          · obtain ⟨rfl, rfl⟩ := HNO.out (by simp)
            go_wp2_with (first
              | (show wpList _ _ _ ({ dst := some 48, op := _, type := _, pos := _, after := _, guard := _ } :: _) _ _; refine wpList_build_none rfl 27 rfl R HBZ.out ?_; try simp only [Act.put, List.setIfInBounds_toArray, List.set_cons_zero, List.set_cons_succ])
              | (refine wpList_set_var rfl 27 (.tmp 2) (.tmp 48) rfl g2 R rfl rfl 27 R HR2r.out HSZ.out rfl H1Z.out ?_; intro wz HW2; try simp only [Act.put, List.setIfInBounds_toArray, List.set_cons_zero, List.set_cons_succ])
              | fail)
            refine bodyPost_ret (v := .tuple #[.agg R, .int .i64 60]) ?_ rfl ⟨rfl, HW2.out.below w.heap.size w HBr.out h2⟩
            exact results_row_tmp (p := 2) (q := 3) (ty := 27) rfl _ _ g2 27 R (0, 0) _ rfl HW2.out.row Tryz.underlying27 rfl HSZ.out
          · obtain ⟨rfl, rfl⟩ := HOK.out (by simp)
            go_wp2_with (first
              | (show wpList _ _ _ ({ dst := some 49, op := _, type := _, pos := _, after := _, guard := _ } :: _) _ _; refine wpList_load_row rfl 27 (.tmp 7) rfl g7 rfl 27 R (0, 0) _ HR7r.out Tryz.underlying27 rfl HSQ.out ?_; try simp only [Act.put, List.setIfInBounds_toArray, List.set_cons_zero, List.set_cons_succ])
              | (refine wpList_set_var rfl 27 (.tmp 2) (.tmp 49) rfl g2 R rfl rfl 27 Z HR2r.out HSR.out HZR.out H1R.out ?_; intro wz HW2; try simp only [Act.put, List.setIfInBounds_toArray, List.set_cons_zero, List.set_cons_succ])
              | fail)
            refine bodyPost_ret (v := .tuple #[.agg R, .int .i64 0]) ?_ rfl ⟨rfl, HW2.out.below w.heap.size w HBr.out h2⟩
            exact results_row_tmp (p := 2) (q := 3) (ty := 27) rfl _ _ g2 27 R (0, 0) _ rfl HW2.out.row Tryz.underlying27 rfl HSR.out
    · refine step_new_var (by rfl) 27 rfl Z HA.out ?_
      intro g7 wg HM7
      have HR7 := hidk HM7.out.row
      have HG7 : Hid (g6 < g7) := (by show g6 < g7; rw [HM7.out.new]; exact heap_lt hHeld.2.1)
      replace HBc := hidk (HBc.out.trans (HM7.out.below.mono HBc.out.size))
      refine hK.out _ _ ⟨hHeld.1.keep HM7.out.below, (HM7.out.below.block _ (heap_lt hHeld.2.1)).trans hHeld.2.1, (HM7.out.below.block _ (heap_lt hHeld.2.2)).trans hHeld.2.2⟩ (fun hHeld => ?_)
      clear hK K
      try simp only [Act.put, List.setIfInBounds_toArray, List.set_cons_zero, List.set_cons_succ]
      refine wpAnyH_ready (rs := [3]) (by kernel_rfl) (by simp) ?_
      refine (AllReadyH.cons (o := { dst := some 26, op := Op.call { callee := Callee.value (Operand.func 21), args := #[Operand.tmp 25], argTypes := #[9] }, type := 3, pos := "ref.go:39", after := #[{ on := 2, ground := Ground.data }], guard := none }) rfl (fun K hK => ?_) AllReadyH.nil)
      go_simp
      refine (V1.out _).mono ?_
      rintro e w3 ⟨rfl, hb3⟩
      replace HBc := hidk (HBc.out.trans (hb3.mono HBc.out.size))
      try replace HR7 := hidk ((hb3.block _ (heap_lt HR7.out)).trans HR7.out)
      go_wp2_with fail
      refine hK.out _ _ ⟨hHeld.1.keep hb3, (hb3.block _ (heap_lt hHeld.2.1)).trans hHeld.2.1, (hb3.block _ (heap_lt hHeld.2.2)).trans hHeld.2.2⟩ (fun hHeld => ?_)
      clear hK K
      try simp only [Act.put, List.setIfInBounds_toArray, List.set_cons_zero, List.set_cons_succ]
      refine wpAnyH_ready (rs := [7]) (by kernel_rfl) (by simp) ?_
      refine (AllReadyH.cons (o := { dst := some 30, op := Op.call { callee := Callee.value (Operand.func 21), args := #[Operand.tmp 29], argTypes := #[9] }, type := 3, pos := "ref.go:39", after := #[{ on := 6, ground := Ground.data }, { on := 3, ground := Ground.chain }], guard := none }) rfl (fun K hK => ?_) AllReadyH.nil)
      go_simp
      refine (V2.out _).mono ?_
      rintro e w7 ⟨rfl, hb7⟩
      replace HBc := hidk (HBc.out.trans (hb7.mono HBc.out.size))
      try replace HR7 := hidk ((hb7.block _ (heap_lt HR7.out)).trans HR7.out)
      go_wp2_with fail
      refine hK.out _ _ ⟨hHeld.1.keep hb7, (hb7.block _ (heap_lt hHeld.2.1)).trans hHeld.2.1, (hb7.block _ (heap_lt hHeld.2.2)).trans hHeld.2.2⟩ (fun hHeld => ?_)
      clear hK K
      try simp only [Act.put, List.setIfInBounds_toArray, List.set_cons_zero, List.set_cons_succ]
      refine wpAnyH_ready (rs := [11]) (by kernel_rfl) (by simp) ?_
      refine (AllReadyH.cons (o := { dst := some 34, op := Op.call { callee := Callee.value (Operand.func 21), args := #[Operand.tmp 33], argTypes := #[9] }, type := 3, pos := "ref.go:39", after := #[{ on := 10, ground := Ground.data }, { on := 7, ground := Ground.chain }], guard := none }) rfl (fun K hK => ?_) AllReadyH.nil)
      go_simp
      refine (V3.out _).mono ?_
      rintro e w11 ⟨rfl, hb11⟩
      replace HBc := hidk (HBc.out.trans (hb11.mono HBc.out.size))
      try replace HR7 := hidk ((hb11.block _ (heap_lt HR7.out)).trans HR7.out)
      go_wp2_with fail
      refine hK.out _ _ ⟨hHeld.1.keep hb11, (hb11.block _ (heap_lt hHeld.2.1)).trans hHeld.2.1, (hb11.block _ (heap_lt hHeld.2.2)).trans hHeld.2.2⟩ (fun hHeld => ?_)
      clear hK K
      try simp only [Act.put, List.setIfInBounds_toArray, List.set_cons_zero, List.set_cons_succ]
      refine wpAnyH_ready (rs := [15]) (by kernel_rfl) (by simp) ?_
      refine (AllReadyH.cons (o := { dst := some 38, op := Op.call { callee := Callee.value (Operand.func 21), args := #[Operand.tmp 37], argTypes := #[9] }, type := 3, pos := "ref.go:39", after := #[{ on := 14, ground := Ground.data }, { on := 11, ground := Ground.chain }], guard := none }) rfl (fun K hK => ?_) AllReadyH.nil)
      go_simp
      refine (V4.out _).mono ?_
      rintro e w15 ⟨rfl, hb15⟩
      replace HBc := hidk (HBc.out.trans (hb15.mono HBc.out.size))
      try replace HR7 := hidk ((hb15.block _ (heap_lt HR7.out)).trans HR7.out)
      go_wp2_with fail
      refine hK.out _ _ ⟨hHeld.1.keep hb15, (hb15.block _ (heap_lt hHeld.2.1)).trans hHeld.2.1, (hb15.block _ (heap_lt hHeld.2.2)).trans hHeld.2.2⟩ (fun hHeld => ?_)
      clear hK K
      try simp only [Act.put, List.setIfInBounds_toArray, List.set_cons_zero, List.set_cons_succ]
      refine wpAnyH_take (i := 17) (oi := { dst := some 40, op := Op.build 27 #[(0, Operand.tmp 26), (1, Operand.tmp 30), (2, Operand.tmp 34), (3, Operand.tmp 38), (4, Operand.tmp 39)], type := 27, pos := "ref.go:39", after := #[{ on := 3, ground := Ground.data }, { on := 7, ground := Ground.data }, { on := 11, ground := Ground.data }, { on := 15, ground := Ground.data }, { on := 16, ground := Ground.data }], guard := none }) (v := .agg Q) rfl (by kernel_rfl) (by kernel_rfl) (by kernel_rfl) (fun _ _ _ h => h) (yieldsIf_build (by rfl) 27 _ rfl #[(0, .int .i64 v1), (1, .int .i64 v2), (2, .int .i64 v3), (3, .int .i64 v4), (4, .agg D)] rfl (.agg Q) BH.out) hHeld ?_
      try simp only [Act.put, List.setIfInBounds_toArray, List.set_cons_zero, List.set_cons_succ]
      refine wpAnyH_ready (rs := [19]) (by kernel_rfl) (by simp) ?_
      refine (AllReadyH.cons (o := { dst := none, op := Op.store 27 (Operand.tmp 7) (Operand.tmp 40), type := 0, pos := "ref.go:39", after := #[{ on := 18, ground := Ground.data }, { on := 17, ground := Ground.data }, { on := 15, ground := Ground.chain }, { on := 0, ground := Ground.phase }, { on := 1, ground := Ground.phase }, { on := 2, ground := Ground.phase }, { on := 3, ground := Ground.phase }, { on := 4, ground := Ground.phase }, { on := 5, ground := Ground.phase }, { on := 6, ground := Ground.phase }, { on := 7, ground := Ground.phase }, { on := 8, ground := Ground.phase }, { on := 9, ground := Ground.phase }, { on := 10, ground := Ground.phase }, { on := 11, ground := Ground.phase }, { on := 12, ground := Ground.phase }, { on := 13, ground := Ground.phase }, { on := 14, ground := Ground.phase }, { on := 15, ground := Ground.phase }, { on := 16, ground := Ground.phase }, { on := 17, ground := Ground.phase }, { on := 18, ground := Ground.phase }], guard := none }) rfl (fun K hK => ?_) AllReadyH.nil)
      refine step_set_var (by rfl) 27 (.tmp 7) (.tmp 40) rfl g7 Q rfl rfl 27 Z HR7.out HSQ.out HZQ.out H1Q.out ?_
      intro wz HW7
      refine hK.out _ _ ⟨texts_wrote hHeld.1 HW7.out (by have := HG7.out; have := HTB.out; omega), (HW7.out.other _ (by have := HG7.out; omega)).trans hHeld.2.1, (HW7.out.other _ (by have := HG7.out; omega)).trans hHeld.2.2⟩ (fun hHeld => ?_)
      clear hK K
      try simp only [Act.put, List.setIfInBounds_toArray, List.set_cons_zero, List.set_cons_succ]
      refine wpAnyH_done (by kernel_rfl) ?_ _
      have h7 : g6 < g7 := HG7.out
      have HR7z := hidk HW7.out.row
      have HR2z := hidk hHeld.2.2
      have HBz := hidk (HW7.out.below w.heap.size w HBc.out (by omega))
      clear HW7 HBc hHeld HR7
      cases bd
      · obtain ⟨rfl, rfl⟩ := HNO.out (by simp)
        go_wp2_with (first
          | (show wpList _ _ _ ({ dst := some 48, op := _, type := _, pos := _, after := _, guard := _ } :: _) _ _; refine wpList_build_none rfl 27 rfl R HBZ.out ?_; try simp only [Act.put, List.setIfInBounds_toArray, List.set_cons_zero, List.set_cons_succ])
          | (refine wpList_set_var rfl 27 (.tmp 2) (.tmp 48) rfl g2 R rfl rfl 27 R HR2z.out HSZ.out rfl H1Z.out ?_; intro wz HW2; try simp only [Act.put, List.setIfInBounds_toArray, List.set_cons_zero, List.set_cons_succ])
          | fail)
        refine bodyPost_ret (v := .tuple #[.agg R, .int .i64 60]) ?_ rfl ⟨rfl, HW2.out.below w.heap.size w HBz.out h2⟩
        exact results_row_tmp (p := 2) (q := 3) (ty := 27) rfl _ _ g2 27 R (0, 0) _ rfl HW2.out.row Tryz.underlying27 rfl HSZ.out
      · go_wp2_with (first
          | (show wpList _ _ _ ({ dst := some 44, op := _, type := _, pos := _, after := _, guard := _ } :: _) _ _; refine wpList_load_row_w (by rfl) 27 (.tmp 7) rfl g7 rfl 27 Q (0, 0) _ HR7z.out Tryz.underlying27 rfl HSQ.out ?_; try simp only [Act.put, List.setIfInBounds_toArray, List.set_cons_zero, List.set_cons_succ])
          | fail)
        refine (RI.out _).mono ?_
        rintro e wr ⟨rfl, hbr⟩
        have HBr := hidk (HBz.out.trans (hbr.mono HBz.out.size))
        have HR7r := hidk ((hbr.block _ (heap_lt HR7z.out)).trans HR7z.out)
        have HR2r := hidk ((hbr.block _ (heap_lt HR2z.out)).trans HR2z.out)
        clear hbr HBz HR7z HR2z RI
        cases br
        · obtain ⟨rfl, rfl⟩ := HNO.out (by simp)
          go_wp2_with (first
            | (show wpList _ _ _ ({ dst := some 48, op := _, type := _, pos := _, after := _, guard := _ } :: _) _ _; refine wpList_build_none rfl 27 rfl R HBZ.out ?_; try simp only [Act.put, List.setIfInBounds_toArray, List.set_cons_zero, List.set_cons_succ])
            | (refine wpList_set_var rfl 27 (.tmp 2) (.tmp 48) rfl g2 R rfl rfl 27 R HR2r.out HSZ.out rfl H1Z.out ?_; intro wz HW2; try simp only [Act.put, List.setIfInBounds_toArray, List.set_cons_zero, List.set_cons_succ])
            | fail)
          refine bodyPost_ret (v := .tuple #[.agg R, .int .i64 60]) ?_ rfl ⟨rfl, HW2.out.below w.heap.size w HBr.out h2⟩
          exact results_row_tmp (p := 2) (q := 3) (ty := 27) rfl _ _ g2 27 R (0, 0) _ rfl HW2.out.row Tryz.underlying27 rfl HSZ.out
        · obtain ⟨rfl, rfl⟩ := HOK.out (by simp)
          go_wp2_with (first
            | (show wpList _ _ _ ({ dst := some 49, op := _, type := _, pos := _, after := _, guard := _ } :: _) _ _; refine wpList_load_row rfl 27 (.tmp 7) rfl g7 rfl 27 R (0, 0) _ HR7r.out Tryz.underlying27 rfl HSQ.out ?_; try simp only [Act.put, List.setIfInBounds_toArray, List.set_cons_zero, List.set_cons_succ])
            | (refine wpList_set_var rfl 27 (.tmp 2) (.tmp 49) rfl g2 R rfl rfl 27 Z HR2r.out HSR.out HZR.out H1R.out ?_; intro wz HW2; try simp only [Act.put, List.setIfInBounds_toArray, List.set_cons_zero, List.set_cons_succ])
            | fail)
          refine bodyPost_ret (v := .tuple #[.agg R, .int .i64 0]) ?_ rfl ⟨rfl, HW2.out.below w.heap.size w HBr.out h2⟩
          exact results_row_tmp (p := 2) (q := 3) (ty := 27) rfl _ _ g2 27 R (0, 0) _ rfl HW2.out.row Tryz.underlying27 rfl HSR.out
end Go.Proofs.YtgkfodmccfnaoaaGreatDoor

/- What the document's Right answers. -/
namespace Go.Proofs.YtgkfodmccfnaoaaGreatDoor
open Go.RowKit Sums Nums
set_option linter.unusedVariables false
set_option linter.unusedSimpArgs false
set_option maxRecDepth 100000
/-- What the parts of an entry's row read as. -/
structure ERow (W : World) (g o : Nat) (x : EnT) : Prop where
  k : W.cell? ⟨g, o, none⟩ = some (.int .i64 x.k)
  c : W.cell? ⟨g, o + 1, none⟩ = some (.int .i64 x.c)
  s : W.cell? ⟨g, o + 2, none⟩ = some (.int .i64 x.s)
  t : W.cell? ⟨g, o + 3, none⟩ = some (.string x.t)
  h : W.rangeAt g (o + 4) (scells x.h)
  m : W.rangeAt g (o + 73) (ccells x.m)
theorem ERow.keep {W W' : World} {g o : Nat} {x : EnT} (r : ERow W g o x) (hb : Below W.heap.size W W') : ERow W' g o x := by
  have hg : g < W.heap.size := World.block_lt_of_cell? _ _ r.k
  exact ⟨(hb.cell hg).trans r.k, (hb.cell hg).trans r.c, (hb.cell hg).trans r.s, (hb.cell hg).trans r.t, range_keep hb r.h, range_keep hb r.m⟩
theorem erow_of {W : World} {g o : Nat} {x : EnT} (ok : OkE x) (hr : W.rangeAt g o (ecells x)) : ERow W g o x := by
  have hs := scells_length x.h ok.h ok.g
  refine ⟨?_, ?_, ?_, ?_, ?_, ?_⟩
  · have := hr 0 (.int .i64 x.k) rfl; simpa using this
  · exact hr 1 (.int .i64 x.c) rfl
  · exact hr 2 (.int .i64 x.s) rfl
  · exact hr 3 (.string x.t) rfl
  · intro j v hj
    have hlt := (List.getElem?_eq_some_iff.1 hj).1
    have := hr (4 + j) v (by
      unfold ecells
      rw [List.append_assoc, List.getElem?_append_right (by simp), List.getElem?_append_left (by simpa using hlt)]
      simpa using hj)
    rw [Nat.add_assoc]; exact this
  · intro j v hj
    have := hr (73 + j) v (by
      unfold ecells
      rw [List.getElem?_append_right (by simp [hs])]
      simp only [List.length_append, hs, List.length_cons, List.length_nil]
      rw [show 73 + j - (0 + 1 + 1 + 1 + 1 + 69) = j by omega]
      exact hj)
    rw [Nat.add_assoc]; exact this
theorem erow_new (w : World) (x : EnT) (ok : OkE x) (X : Array Value) (HX : Hid (X = (ecells x).toArray)) (t : TypeId) : ERow (w.alloc (.cells X t)) w.heap.size 0 x := by
  refine erow_of ok ?_
  intro j v hj
  rw [Nat.zero_add, cell_of_row _ _ j _ t (0, 0) (heap_alloc_new w _), HX.out]
  simpa using hj
theorem right_user {x : EnT} (h : x.k = 1) : rightE x = ((decide (1 ≤ x.c) && decide (x.c ≤ 3)) && ((decide (1 ≤ x.s) && decide (x.s ≤ 1000000)) && (decide (x.t.size ≤ 200) && (eqSB x.h zeroS && eqCB x.m zeroC)))) := by
  unfold rightE
  rw [if_pos h, Bool.eq_iff_iff]
  simp only [Bool.and_eq_true, decide_eq_true_eq, and_assoc]
theorem right_anchor {x : EnT} (h : x.k = 2) : rightE x = (decide (x.c = 0) && (decide (x.s = 0) && (decide (x.t.size = 0) && (mayS x.h && eqCB x.m zeroC)))) := by
  unfold rightE
  rw [if_neg (by omega), if_pos h, Bool.eq_iff_iff]
  simp only [Bool.and_eq_true, decide_eq_true_eq, and_assoc]
theorem right_claim {x : EnT} (h : x.k = 3) : rightE x = (decide (x.c = 0) && (decide (x.s = 0) && (decide (x.t.size = 0) && (eqSB x.h zeroS && rightC x.m)))) := by
  unfold rightE
  rw [if_neg (by omega), if_neg (by omega), if_pos h, Bool.eq_iff_iff]
  simp only [Bool.and_eq_true, decide_eq_true_eq, and_assoc]
theorem right_none {x : EnT} (h1 : ¬ x.k = 1) (h2 : ¬ x.k = 2) (h3 : ¬ x.k = 3) : rightE x = false := by
  unfold rightE
  rw [if_neg h1, if_neg h2, if_neg h3]
theorem text_zero (t : ByteArray) : t.toList.isEmpty = decide (t.size = 0) := by
  rw [Bool.eq_iff_iff, List.isEmpty_iff, decide_eq_true_eq, ByteArray.toList_eq]
  constructor
  · intro h
    have := congrArg List.length h
    exact this
  · intro h
    exact List.eq_nil_of_length_eq_zero h
set_option maxHeartbeats 8000000 in
theorem refRight_user (x : EnT) (ok : OkE x) (hk : x.k = 1) (w : World) (X : Array Value) (HX : Hid (X = (ecells x).toArray)) :
    Calls Tryz.prog 27 #[.agg X] w fun e w' => e = .returned (.bool (rightE x)) ∧ Below w.heap.size w w' := by
  have HR := erow_new w x ok X HX 37
  have HB : Hid (Below w.heap.size w (w.alloc (.cells X 37))) := (Below.refl _ _).alloc (Nat.le_refl _) _
  have c0 := HR.k
  have c1 := HR.c
  have c2 := HR.s
  have c3 := HR.t
  have hrh := HR.h
  have hrm := HR.m
  simp only [Nat.zero_add] at c1 c2 c3 hrh hrm
  obtain ⟨Q, HQ, HSQ, H1Q, H69Q⟩ := sign_row x.h ok.h ok.g
  obtain ⟨C, HC, HSC, H1C, H36C⟩ := claim_row5 x.m ok.m
  obtain ⟨ZS, HZS, HAS, HBS, H69S⟩ := noughtsS
  obtain ⟨ZC, HZC, HAC, HBC, H36Z⟩ := noughtsC
  have RQ : Hid (∀ W, Below (w.alloc (.cells X 37)).heap.size (w.alloc (.cells X 37)) W → W.rangeAt w.heap.size 4 Q.toList) := fun W hb => by rw [HQ.out]; exact range_keep hb (by simpa using hrh)
  have RC : Hid (∀ W, Below (w.alloc (.cells X 37)).heap.size (w.alloc (.cells X 37)) W → W.rangeAt w.heap.size 73 C.toList) := fun W hb => by rw [HC.out]; exact range_keep hb (by simpa using hrm)
  have H0 : Hid (Below (w.alloc (.cells X 37)).heap.size (w.alloc (.cells X 37)) (w.alloc (.cells X 37))) := Below.refl _ _
  have WI : Hid (∀ (n a b : Int) (W : World), Calls Tryz.prog 45 #[.int .i64 n, .int .i64 a, .int .i64 b] W fun e w' => e = .returned (.bool (decide (a ≤ n) && decide (n ≤ b))) ∧ w' = W) := within8_any
  obtain ⟨b1, hb1⟩ : ∃ b, (decide (1 ≤ x.c) && decide (x.c ≤ 3)) = b := ⟨_, rfl⟩
  obtain ⟨b2, hb2⟩ : ∃ b, (decide (1 ≤ x.s) && decide (x.s ≤ 1000000)) = b := ⟨_, rfl⟩
  obtain ⟨b3, hb3⟩ : ∃ b, decide (x.t.size ≤ 200) = b := ⟨_, rfl⟩
  have hb3' : decide ((x.t.size : Int) ≤ 200) = b3 := by rw [← hb3, Bool.eq_iff_iff, decide_eq_true_eq, decide_eq_true_eq]; omega
  obtain ⟨b4, hb4⟩ : ∃ b, eqSB x.h zeroS = b := ⟨_, rfl⟩
  obtain ⟨b5, hb5⟩ : ∃ b, eqCB x.m zeroC = b := ⟨_, rfl⟩
  have EQS : ∀ W, (binOp .eql 35 (.agg Q) (.agg ZS)).run Tryz.prog W = .ok (.bool b4) W := fun W => eqSigned x.h zeroS ok.h rfl ok.g rfl Q ZS HQ HZS b4 (by rw [← hb4]; exact eqSB_iff _ _) W
  have EQC : ∀ W, (binOp .eql 27 (.agg C) (.agg ZC)).run Tryz.prog W = .ok (.bool b5) W := fun W => eqClaim x.m zeroC ok.m rfl C ZC HC HZC b5 (by rw [← hb5]; exact eqCB_iff _ _) W
  have W1 := hidk (WI.out x.c 1 3)
  have W2 := hidk (WI.out x.s 1 1000000)
  rw [hb1] at W1
  rw [hb2] at W2
  rw [right_user hk]
  rw [hb1, hb2, hb3, hb4, hb5]
  rw [hk] at c0
  obtain ⟨c, hc⟩ : ∃ c, c = x.c := ⟨_, rfl⟩
  obtain ⟨s, hs⟩ : ∃ c, c = x.s := ⟨_, rfl⟩
  obtain ⟨t, ht⟩ : ∃ c, c = x.t := ⟨_, rfl⟩
  rw [← hc] at c1 W1
  rw [← hs] at c2 W2
  rw [← ht] at c3 hb3 hb3'
  have hml : t.size ≤ 9223372036854775807 ∨ 9223372036854775807 < t.size := by omega
  clear hb1 hb2 hb4 hb5 WI HR hrh hrm HX HQ HC HZS HZC ok hc hs ht hml
  cases b1
  · go_enter Tryz.func27, Tryz.ntmps27
    go_wp2_with fail
    refine (W1.out _).mono ?_
    rintro e w1 ⟨rfl, rfl⟩
    go_wp2
    go_ret
    exact ⟨rfl, HB.out⟩
  cases b2
  · go_enter Tryz.func27, Tryz.ntmps27
    go_wp2_with fail
    refine (W1.out _).mono ?_
    rintro e w1 ⟨rfl, rfl⟩
    go_wp2_with fail
    refine (W2.out _).mono ?_
    rintro e w1 ⟨rfl, rfl⟩
    go_wp2
    go_ret
    exact ⟨rfl, HB.out⟩
  cases b3
  · go_enter Tryz.func27, Tryz.ntmps27
    go_wp2_with fail
    refine (W1.out _).mono ?_
    rintro e w1 ⟨rfl, rfl⟩
    go_wp2_with fail
    refine (W2.out _).mono ?_
    rintro e w1 ⟨rfl, rfl⟩
    go_wp2
    go_ret
    exact ⟨rfl, HB.out⟩
  cases b4
  · go_enter Tryz.func27, Tryz.ntmps27
    go_wp2_with fail
    refine (W1.out _).mono ?_
    rintro e w1 ⟨rfl, rfl⟩
    go_wp2_with fail
    refine (W2.out _).mono ?_
    rintro e w1 ⟨rfl, rfl⟩
    go_wp2_with (first
      | (show wpList _ _ _ ({ dst := some 23, op := _, type := _, pos := _, after := _, guard := _ } :: _) _ _; refine wpList_mid_w (by rfl) 35 (.tmp 22) rfl w.heap.size 4 rfl Q _ (RQ.out _ H0.out) Tryz.underlying35 rfl HSQ.out ?_; try simp only [Act.put, List.setIfInBounds_toArray, List.set_cons_zero, List.set_cons_succ])
      | (show wpList _ _ _ ({ dst := some 24, op := _, type := _, pos := _, after := _, guard := _ } :: _) _ _; refine wpList_build_none_w (by rfl) 35 rfl ZS HBS.out ?_; try simp only [Act.put, List.setIfInBounds_toArray, List.set_cons_zero, List.set_cons_succ])
      | (show wpList _ _ _ ({ dst := some 29, op := _, type := _, pos := _, after := _, guard := _ } :: _) _ _; refine wpList_mid_w (by rfl) 27 (.tmp 28) rfl w.heap.size 73 rfl C _ (RC.out _ H0.out) Tryz.underlying27 rfl HSC.out ?_; try simp only [Act.put, List.setIfInBounds_toArray, List.set_cons_zero, List.set_cons_succ])
      | (show wpList _ _ _ ({ dst := some 30, op := _, type := _, pos := _, after := _, guard := _ } :: _) _ _; refine wpList_build_none_w (by rfl) 27 rfl ZC HBC.out ?_; try simp only [Act.put, List.setIfInBounds_toArray, List.set_cons_zero, List.set_cons_succ])
      | fail)
    go_ret
    exact ⟨rfl, HB.out⟩
  · go_enter Tryz.func27, Tryz.ntmps27
    go_wp2_with fail
    refine (W1.out _).mono ?_
    rintro e w1 ⟨rfl, rfl⟩
    go_wp2_with fail
    refine (W2.out _).mono ?_
    rintro e w1 ⟨rfl, rfl⟩
    go_wp2_with (first
      | (show wpList _ _ _ ({ dst := some 23, op := _, type := _, pos := _, after := _, guard := _ } :: _) _ _; refine wpList_mid_w (by rfl) 35 (.tmp 22) rfl w.heap.size 4 rfl Q _ (RQ.out _ H0.out) Tryz.underlying35 rfl HSQ.out ?_; try simp only [Act.put, List.setIfInBounds_toArray, List.set_cons_zero, List.set_cons_succ])
      | (show wpList _ _ _ ({ dst := some 24, op := _, type := _, pos := _, after := _, guard := _ } :: _) _ _; refine wpList_build_none_w (by rfl) 35 rfl ZS HBS.out ?_; try simp only [Act.put, List.setIfInBounds_toArray, List.set_cons_zero, List.set_cons_succ])
      | (show wpList _ _ _ ({ dst := some 29, op := _, type := _, pos := _, after := _, guard := _ } :: _) _ _; refine wpList_mid_w (by rfl) 27 (.tmp 28) rfl w.heap.size 73 rfl C _ (RC.out _ H0.out) Tryz.underlying27 rfl HSC.out ?_; try simp only [Act.put, List.setIfInBounds_toArray, List.set_cons_zero, List.set_cons_succ])
      | (show wpList _ _ _ ({ dst := some 30, op := _, type := _, pos := _, after := _, guard := _ } :: _) _ _; refine wpList_build_none_w (by rfl) 27 rfl ZC HBC.out ?_; try simp only [Act.put, List.setIfInBounds_toArray, List.set_cons_zero, List.set_cons_succ])
      | fail)
    go_ret
    exact ⟨rfl, HB.out⟩
set_option maxHeartbeats 8000000 in
theorem refRight_anchor (x : EnT) (ok : OkE x) (hk : x.k = 2) (w : World) (X : Array Value) (HX : Hid (X = (ecells x).toArray)) :
    Calls Tryz.prog 27 #[.agg X] w fun e w' => e = .returned (.bool (rightE x)) ∧ Below w.heap.size w w' := by
  have HR := erow_new w x ok X HX 37
  have HB : Hid (Below w.heap.size w (w.alloc (.cells X 37))) := (Below.refl _ _).alloc (Nat.le_refl _) _
  have c0 := HR.k
  have c1 := HR.c
  have c2 := HR.s
  have c3 := HR.t
  have hrh := HR.h
  have hrm := HR.m
  simp only [Nat.zero_add] at c1 c2 c3 hrh hrm
  obtain ⟨Q, HQ, HSQ, H1Q, H69Q⟩ := sign_row x.h ok.h ok.g
  obtain ⟨C, HC, HSC, H1C, H36C⟩ := claim_row5 x.m ok.m
  obtain ⟨ZS, HZS, HAS, HBS, H69S⟩ := noughtsS
  obtain ⟨ZC, HZC, HAC, HBC, H36Z⟩ := noughtsC
  have RQ : Hid (∀ W, Below (w.alloc (.cells X 37)).heap.size (w.alloc (.cells X 37)) W → W.rangeAt w.heap.size 4 Q.toList) := fun W hb => by rw [HQ.out]; exact range_keep hb (by simpa using hrh)
  have RC : Hid (∀ W, Below (w.alloc (.cells X 37)).heap.size (w.alloc (.cells X 37)) W → W.rangeAt w.heap.size 73 C.toList) := fun W hb => by rw [HC.out]; exact range_keep hb (by simpa using hrm)
  have H0 : Hid (Below (w.alloc (.cells X 37)).heap.size (w.alloc (.cells X 37)) (w.alloc (.cells X 37))) := Below.refl _ _
  obtain ⟨b1, hb1⟩ : ∃ b, decide (x.c = 0) = b := ⟨_, rfl⟩
  obtain ⟨b2, hb2⟩ : ∃ b, decide (x.s = 0) = b := ⟨_, rfl⟩
  obtain ⟨b3, hb3⟩ : ∃ b, decide (x.t.size = 0) = b := ⟨_, rfl⟩
  have q1 : (x.c == 0) = b1 := by rw [← hb1, Bool.eq_iff_iff, beq_iff_eq, decide_eq_true_eq]
  have q2 : (x.s == 0) = b2 := by rw [← hb2, Bool.eq_iff_iff, beq_iff_eq, decide_eq_true_eq]
  have q3 : x.t.toList.isEmpty = b3 := by rw [← hb3]; exact text_zero x.t
  have EQ1 : ∀ W, (binOp .eql 3 (.int .i64 x.c) (.int .i64 0)).run Tryz.prog W = .ok (.bool b1) W := fun W => by rw [← q1]; simp [go_sem]
  have EQ2 : ∀ W, (binOp .eql 3 (.int .i64 x.s) (.int .i64 0)).run Tryz.prog W = .ok (.bool b2) W := fun W => by rw [← q2]; simp [go_sem]
  obtain ⟨b4, hb4⟩ : ∃ b, mayS x.h = b := ⟨_, rfl⟩
  obtain ⟨b5, hb5⟩ : ∃ b, eqCB x.m zeroC = b := ⟨_, rfl⟩
  have MY : Hid (∀ W, Calls Tryz.prog 50 #[.agg Q] W fun e w' => e = .returned (.bool b4) ∧ Below W.heap.size W w') := fun W => by rw [← hb4]; exact refMay_any x.h ok.h W Q HQ
  have EQC : ∀ W, (binOp .eql 27 (.agg C) (.agg ZC)).run Tryz.prog W = .ok (.bool b5) W := fun W => eqClaim x.m zeroC ok.m rfl C ZC HC HZC b5 (by rw [← hb5]; exact eqCB_iff _ _) W
  rw [right_anchor hk]
  rw [hb1, hb2, hb3, hb4, hb5]
  rw [hk] at c0
  obtain ⟨c, hc⟩ : ∃ c, c = x.c := ⟨_, rfl⟩
  obtain ⟨s, hs⟩ : ∃ c, c = x.s := ⟨_, rfl⟩
  obtain ⟨t, ht⟩ : ∃ c, c = x.t := ⟨_, rfl⟩
  rw [← hc] at c1 q1 EQ1
  rw [← hs] at c2 q2 EQ2
  rw [← ht] at c3 q3
  clear hb1 hb2 hb3 hb4 hb5 HR hrh hrm HX HQ HC HZS HZC ok hc hs ht
  cases b1
  · go_enter Tryz.func27, Tryz.ntmps27
    go_wp2
    go_ret
    exact ⟨rfl, HB.out⟩
  cases b2
  · go_enter Tryz.func27, Tryz.ntmps27
    go_wp2
    go_ret
    exact ⟨rfl, HB.out⟩
  cases b3
  · go_enter Tryz.func27, Tryz.ntmps27
    go_wp2
    go_ret
    exact ⟨rfl, HB.out⟩
  cases b4
  · go_enter Tryz.func27, Tryz.ntmps27
    go_wp2_with (first
      | (show wpList _ _ _ ({ dst := some 50, op := _, type := _, pos := _, after := _, guard := _ } :: _) _ _; refine wpList_mid_w (by rfl) 35 (.tmp 49) rfl w.heap.size 4 rfl Q _ (RQ.out _ H0.out) Tryz.underlying35 rfl HSQ.out ?_; try simp only [Act.put, List.setIfInBounds_toArray, List.set_cons_zero, List.set_cons_succ])
      | fail)
    refine (MY.out _).mono ?_
    rintro e w1 ⟨rfl, hb1⟩
    have HB1 := hidk (HB.out.trans (hb1.mono HB.out.size))
    have HRC1 := hidk (RC.out _ hb1)
    clear hb1
    go_wp2_with (first
      | fail)
    go_ret
    exact ⟨rfl, HB1.out⟩
  · go_enter Tryz.func27, Tryz.ntmps27
    go_wp2_with (first
      | (show wpList _ _ _ ({ dst := some 50, op := _, type := _, pos := _, after := _, guard := _ } :: _) _ _; refine wpList_mid_w (by rfl) 35 (.tmp 49) rfl w.heap.size 4 rfl Q _ (RQ.out _ H0.out) Tryz.underlying35 rfl HSQ.out ?_; try simp only [Act.put, List.setIfInBounds_toArray, List.set_cons_zero, List.set_cons_succ])
      | fail)
    refine (MY.out _).mono ?_
    rintro e w1 ⟨rfl, hb1⟩
    have HB1 := hidk (HB.out.trans (hb1.mono HB.out.size))
    have HRC1 := hidk (RC.out _ hb1)
    clear hb1
    go_wp2_with (first
      | (show wpList _ _ _ ({ dst := some 55, op := _, type := _, pos := _, after := _, guard := _ } :: _) _ _; refine wpList_mid_w (by rfl) 27 (.tmp 54) rfl w.heap.size 73 rfl C _ HRC1.out Tryz.underlying27 rfl HSC.out ?_; try simp only [Act.put, List.setIfInBounds_toArray, List.set_cons_zero, List.set_cons_succ])
      | (show wpList _ _ _ ({ dst := some 56, op := _, type := _, pos := _, after := _, guard := _ } :: _) _ _; refine wpList_build_none_w (by rfl) 27 rfl ZC HBC.out ?_; try simp only [Act.put, List.setIfInBounds_toArray, List.set_cons_zero, List.set_cons_succ])
      | fail)
    go_ret
    exact ⟨rfl, HB1.out⟩
set_option maxHeartbeats 8000000 in
theorem refRight_claim (x : EnT) (ok : OkE x) (hk : x.k = 3) (w : World) (X : Array Value) (HX : Hid (X = (ecells x).toArray)) :
    Calls Tryz.prog 27 #[.agg X] w fun e w' => e = .returned (.bool (rightE x)) ∧ Below w.heap.size w w' := by
  have HR := erow_new w x ok X HX 37
  have HB : Hid (Below w.heap.size w (w.alloc (.cells X 37))) := (Below.refl _ _).alloc (Nat.le_refl _) _
  have c0 := HR.k
  have c1 := HR.c
  have c2 := HR.s
  have c3 := HR.t
  have hrh := HR.h
  have hrm := HR.m
  simp only [Nat.zero_add] at c1 c2 c3 hrh hrm
  obtain ⟨Q, HQ, HSQ, H1Q, H69Q⟩ := sign_row x.h ok.h ok.g
  obtain ⟨C, HC, HSC, H1C, H36C⟩ := claim_row5 x.m ok.m
  obtain ⟨ZS, HZS, HAS, HBS, H69S⟩ := noughtsS
  obtain ⟨ZC, HZC, HAC, HBC, H36Z⟩ := noughtsC
  have RQ : Hid (∀ W, Below (w.alloc (.cells X 37)).heap.size (w.alloc (.cells X 37)) W → W.rangeAt w.heap.size 4 Q.toList) := fun W hb => by rw [HQ.out]; exact range_keep hb (by simpa using hrh)
  have RC : Hid (∀ W, Below (w.alloc (.cells X 37)).heap.size (w.alloc (.cells X 37)) W → W.rangeAt w.heap.size 73 C.toList) := fun W hb => by rw [HC.out]; exact range_keep hb (by simpa using hrm)
  have H0 : Hid (Below (w.alloc (.cells X 37)).heap.size (w.alloc (.cells X 37)) (w.alloc (.cells X 37))) := Below.refl _ _
  obtain ⟨b1, hb1⟩ : ∃ b, decide (x.c = 0) = b := ⟨_, rfl⟩
  obtain ⟨b2, hb2⟩ : ∃ b, decide (x.s = 0) = b := ⟨_, rfl⟩
  obtain ⟨b3, hb3⟩ : ∃ b, decide (x.t.size = 0) = b := ⟨_, rfl⟩
  have q1 : (x.c == 0) = b1 := by rw [← hb1, Bool.eq_iff_iff, beq_iff_eq, decide_eq_true_eq]
  have q2 : (x.s == 0) = b2 := by rw [← hb2, Bool.eq_iff_iff, beq_iff_eq, decide_eq_true_eq]
  have q3 : x.t.toList.isEmpty = b3 := by rw [← hb3]; exact text_zero x.t
  have EQ1 : ∀ W, (binOp .eql 3 (.int .i64 x.c) (.int .i64 0)).run Tryz.prog W = .ok (.bool b1) W := fun W => by rw [← q1]; simp [go_sem]
  have EQ2 : ∀ W, (binOp .eql 3 (.int .i64 x.s) (.int .i64 0)).run Tryz.prog W = .ok (.bool b2) W := fun W => by rw [← q2]; simp [go_sem]
  obtain ⟨b4, hb4⟩ : ∃ b, eqSB x.h zeroS = b := ⟨_, rfl⟩
  obtain ⟨b5, hb5⟩ : ∃ b, rightC x.m = b := ⟨_, rfl⟩
  have EQS : ∀ W, (binOp .eql 35 (.agg Q) (.agg ZS)).run Tryz.prog W = .ok (.bool b4) W := fun W => eqSigned x.h zeroS ok.h rfl ok.g rfl Q ZS HQ HZS b4 (by rw [← hb4]; exact eqSB_iff _ _) W
  have RR : Hid (∀ W, Calls Tryz.prog 22 #[.agg C] W fun e w' => e = .returned (.bool b5) ∧ Below W.heap.size W w') := fun W => by rw [← hb5]; exact refRightC_any x.m W C HC
  rw [right_claim hk]
  rw [hb1, hb2, hb3, hb4, hb5]
  rw [hk] at c0
  obtain ⟨c, hc⟩ : ∃ c, c = x.c := ⟨_, rfl⟩
  obtain ⟨s, hs⟩ : ∃ c, c = x.s := ⟨_, rfl⟩
  obtain ⟨t, ht⟩ : ∃ c, c = x.t := ⟨_, rfl⟩
  rw [← hc] at c1 q1 EQ1
  rw [← hs] at c2 q2 EQ2
  rw [← ht] at c3 q3
  clear hb1 hb2 hb3 hb4 hb5 HR hrh hrm HX HQ HC HZS HZC ok hc hs ht
  cases b1
  · go_enter Tryz.func27, Tryz.ntmps27
    go_wp2
    go_ret
    exact ⟨rfl, HB.out⟩
  cases b2
  · go_enter Tryz.func27, Tryz.ntmps27
    go_wp2
    go_ret
    exact ⟨rfl, HB.out⟩
  cases b3
  · go_enter Tryz.func27, Tryz.ntmps27
    go_wp2
    go_ret
    exact ⟨rfl, HB.out⟩
  cases b4
  · go_enter Tryz.func27, Tryz.ntmps27
    go_wp2_with (first
      | (show wpList _ _ _ ({ dst := some 76, op := _, type := _, pos := _, after := _, guard := _ } :: _) _ _; refine wpList_mid_w (by rfl) 35 (.tmp 75) rfl w.heap.size 4 rfl Q _ (RQ.out _ H0.out) Tryz.underlying35 rfl HSQ.out ?_; try simp only [Act.put, List.setIfInBounds_toArray, List.set_cons_zero, List.set_cons_succ])
      | (show wpList _ _ _ ({ dst := some 77, op := _, type := _, pos := _, after := _, guard := _ } :: _) _ _; refine wpList_build_none_w (by rfl) 35 rfl ZS HBS.out ?_; try simp only [Act.put, List.setIfInBounds_toArray, List.set_cons_zero, List.set_cons_succ])
      | (show wpList _ _ _ ({ dst := some 82, op := _, type := _, pos := _, after := _, guard := _ } :: _) _ _; refine wpList_mid_w (by rfl) 27 (.tmp 81) rfl w.heap.size 73 rfl C _ (RC.out _ H0.out) Tryz.underlying27 rfl HSC.out ?_; try simp only [Act.put, List.setIfInBounds_toArray, List.set_cons_zero, List.set_cons_succ])
      | fail)
    go_ret
    exact ⟨rfl, HB.out⟩
  · go_enter Tryz.func27, Tryz.ntmps27
    go_wp2_with (first
      | (show wpList _ _ _ ({ dst := some 76, op := _, type := _, pos := _, after := _, guard := _ } :: _) _ _; refine wpList_mid_w (by rfl) 35 (.tmp 75) rfl w.heap.size 4 rfl Q _ (RQ.out _ H0.out) Tryz.underlying35 rfl HSQ.out ?_; try simp only [Act.put, List.setIfInBounds_toArray, List.set_cons_zero, List.set_cons_succ])
      | (show wpList _ _ _ ({ dst := some 77, op := _, type := _, pos := _, after := _, guard := _ } :: _) _ _; refine wpList_build_none_w (by rfl) 35 rfl ZS HBS.out ?_; try simp only [Act.put, List.setIfInBounds_toArray, List.set_cons_zero, List.set_cons_succ])
      | (show wpList _ _ _ ({ dst := some 82, op := _, type := _, pos := _, after := _, guard := _ } :: _) _ _; refine wpList_mid_w (by rfl) 27 (.tmp 81) rfl w.heap.size 73 rfl C _ (RC.out _ H0.out) Tryz.underlying27 rfl HSC.out ?_; try simp only [Act.put, List.setIfInBounds_toArray, List.set_cons_zero, List.set_cons_succ])
      | fail)
    refine (RR.out _).mono ?_
    rintro e w1 ⟨rfl, hb1⟩
    have HB1 := hidk (HB.out.trans (hb1.mono HB.out.size))
    clear hb1
    go_wp2_with fail
    go_ret
    exact ⟨rfl, HB1.out⟩
set_option maxHeartbeats 4000000 in
theorem refRight_none (x : EnT) (ok : OkE x) (h1 : ¬ x.k = 1) (h2 : ¬ x.k = 2) (h3 : ¬ x.k = 3) (w : World) (X : Array Value) (HX : Hid (X = (ecells x).toArray)) :
    Calls Tryz.prog 27 #[.agg X] w fun e w' => e = .returned (.bool (rightE x)) ∧ Below w.heap.size w w' := by
  rw [right_none h1 h2 h3]
  have HB : Hid (Below w.heap.size w (w.alloc (.cells X 37))) := (Below.refl _ _).alloc (Nat.le_refl _) _
  have c0 := (erow_new w x ok X HX 37).k
  have q1 : (x.k == 1) = false := by rw [beq_eq_false_iff_ne]; exact h1
  have q2 : (x.k == 2) = false := by rw [beq_eq_false_iff_ne]; exact h2
  have q3 : (x.k == 3) = false := by rw [beq_eq_false_iff_ne]; exact h3
  have d1 : decide (x.k = 1) = false := by rw [decide_eq_false_iff_not]; exact h1
  have d2 : decide (x.k = 2) = false := by rw [decide_eq_false_iff_not]; exact h2
  have d3 : decide (x.k = 3) = false := by rw [decide_eq_false_iff_not]; exact h3
  obtain ⟨k, hk⟩ : ∃ k, k = x.k := ⟨_, rfl⟩
  rw [← hk] at c0 q1 q2 q3 d1 d2 d3 h1 h2 h3
  clear HX ok hk
  go_enter Tryz.func27, Tryz.ntmps27
  go_wp2
  go_ret
  exact ⟨rfl, HB.out⟩
theorem refRightE_any (x : EnT) (ok : OkE x) (w : World) (X : Array Value) (HX : Hid (X = (ecells x).toArray)) :
    Calls Tryz.prog 27 #[.agg X] w fun e w' => e = .returned (.bool (rightE x)) ∧ Below w.heap.size w w' := by
  by_cases h1 : x.k = 1
  · exact refRight_user x ok h1 w X HX
  by_cases h2 : x.k = 2
  · exact refRight_anchor x ok h2 w X HX
  by_cases h3 : x.k = 3
  · exact refRight_claim x ok h3 w X HX
  exact refRight_none x ok h1 h2 h3 w X HX
end Go.Proofs.YtgkfodmccfnaoaaGreatDoor

/- What the document's fields, Bytes and Put answer, of right entries. -/
namespace Go.Proofs.YtgkfodmccfnaoaaGreatDoor
open Go.RowKit Sums Nums
set_option linter.unusedVariables false
set_option linter.unusedSimpArgs false
set_option maxRecDepth 100000
theorem ERow.low {W W' : World} {g o B : Nat} {x : EnT} (r : ERow W g o x) (hb : Below B W W') (hg : g < B) : ERow W' g o x :=
  ⟨(hb.cell hg).trans r.k, (hb.cell hg).trans r.c, (hb.cell hg).trans r.s, (hb.cell hg).trans r.t, fun j v hj => (hb.cell hg).trans (r.h j v hj), fun j v hj => (hb.cell hg).trans (r.m j v hj)⟩
/-- The entry, and the fields that were laid behind one another. -/
structure FO (w : World) (x : EnT) (v : Value) (fs : List (Int × ByteArray)) (W : World) : Prop where
  row : ERow W w.heap.size 0 x
  own : W.ownsRow (w.heap.size + 1) 74 2 v fs.length (fcells fs)
  nil : v = .slice none 0 0 ↔ fs = []
  below : Below w.heap.size w W
  size : w.heap.size + 1 ≤ W.heap.size
theorem FO.keep {w W W' : World} {x : EnT} {v : Value} {fs : List (Int × ByteArray)} (h : FO w x v fs W) (hb : Below W.heap.size W W') : FO w x v fs W' :=
  ⟨h.row.keep hb, h.own.kept (row := none) ⟨hb.os, hb.tape, hb.output, hb.size, fun j hj _ => hb.block j hj⟩ (by cases hv : v.ownBlock <;> simp), h.nil, h.below.trans (hb.mono h.below.size), Nat.le_trans h.size hb.size⟩
theorem FO.first {w W : World} {x : EnT} (hr : ERow W w.heap.size 0 x) (hb : Below w.heap.size w W) (hs : w.heap.size + 1 ≤ W.heap.size) (n : ByteArray) : FO w x (.slice (some ⟨W.heap.size, 0, none⟩) 1 1) [(1, n)] (W.alloc (.cells #[.int .i64 1, .string n] 74)) := by
  have h0 : Below W.heap.size W (W.alloc (.cells #[.int .i64 1, .string n] 74)) := (Below.refl _ _).alloc (Nat.le_refl _) _
  refine ⟨hr.keep h0, ⟨rfl, .inr ⟨W.heap.size, 1, #[.int .i64 1, .string n], rfl, hs, heap_alloc_new W _, Nat.le_refl _, by unfold maxLen; decide, rfl, rfl⟩⟩, ?_, hb.trans (h0.mono hb.size), by simp; omega⟩
  constructor
  · intro e; cases e
  · intro e; cases e
theorem FO.app {w W : World} {x : EnT} {v : Value} {fs : List (Int × ByteArray)} (h : FO w x v fs W) (hl : fs.length ≤ 1000) (t : Int) (n : ByteArray) :
    ∃ v' w1, (Builtin.append_ #[62, 62] 62 #[v, .slice (some ⟨W.heap.size, 0, none⟩) 1 1]).run Tryz.prog (W.alloc (.cells #[.int .i64 t, .string n] 74)) = .ok v' w1 ∧ FO w x v' (fs ++ [(t, n)]) w1 := by
  obtain ⟨v', w1, hr, ho, hb, _, _⟩ := run_append_field W (w.heap.size + 1) v fs (t, n) h.own h.nil h.size (by omega)
  refine ⟨v', w1, hr, h.row.low hb (by omega), by rw [List.length_append]; exact ho, ?_, h.below.trans (hb.mono (by omega)), Nat.le_trans h.size hb.size⟩
  constructor
  · intro e
    subst e
    rcases ho.2 with ⟨_, h0⟩ | ⟨g, cap, cur, e, _⟩
    · omega
    · cases e
  · intro e; simp at e
set_option maxHeartbeats 2000000 in
theorem refFields_user (x : EnT) (ok : OkE x) (hk : x.k = 1) (hright : rightE x = true) (w : World) (X : Array Value) (HX : Hid (X = (ecells x).toArray)) :
    Calls Tryz.prog 52 #[.agg X] w fun e w' => ∃ v, e = .returned v ∧ w'.ownsRow w.heap.size 74 2 v (fieldsE x).length (fcells (fieldsE x)) ∧ Below w.heap.size w w' := by
  have HR := hidk (erow_new w x ok X HX 37)
  have HB : Hid (Below w.heap.size w (w.alloc (.cells X 37))) := (Below.refl _ _).alloc (Nat.le_refl _) _
  have c0 := HR.out.k
  rw [hk] at c0
  obtain ⟨n1, Hn1⟩ : ∃ n, Hid (n = nOf 1) := ⟨_, hidk rfl⟩
  have N1 : Hid (∀ W, Calls Tryz.prog 75 #[.int .i64 1] W fun e w' => e = .returned (.string n1) ∧ Below W.heap.size W w') := fun W => by rw [Hn1.out]; exact refNum_any 1 W
  obtain ⟨c, hc⟩ : ∃ c, Hid (c = x.c) := ⟨_, hidk rfl⟩
  obtain ⟨s, hs⟩ : ∃ c, Hid (c = x.s) := ⟨_, hidk rfl⟩
  obtain ⟨t, ht⟩ : ∃ c, Hid (c = x.t) := ⟨_, hidk rfl⟩
  obtain ⟨n2, Hn2⟩ : ∃ n, Hid (n = nOf c) := ⟨_, hidk rfl⟩
  obtain ⟨n3, Hn3⟩ : ∃ n, Hid (n = nOf s) := ⟨_, hidk rfl⟩
  have N2 : Hid (∀ W, Calls Tryz.prog 75 #[.int .i64 c] W fun e w' => e = .returned (.string n2) ∧ Below W.heap.size W w') := fun W => by rw [Hn2.out]; exact refNum_any c W
  have N3 : Hid (∀ W, Calls Tryz.prog 75 #[.int .i64 s] W fun e w' => e = .returned (.string n3) ∧ Below W.heap.size W w') := fun W => by rw [Hn3.out]; exact refNum_any s W
  have HFE : Hid (fieldsE x = [(1, n1), (2, n2), (3, n3), (4, t)]) := by show _ = _; rw [fields_user hk, Hn1.out, Hn2.out, Hn3.out, hc.out, hs.out, ht.out]
  clear Hn1 Hn2 Hn3 HX
  go_enter Tryz.func52, Tryz.ntmps52
  go_wp2_with fail
  refine (N1.out _).mono ?_
  rintro e w1 ⟨rfl, hb1⟩
  have HF1 := hidk (FO.first (x := x) (HR.out.keep hb1) (HB.out.trans (hb1.mono HB.out.size)) (by have := hb1.size; simp at this; omega) n1)
  have k1 := HF1.out.row.k
  rw [hk] at k1
  clear hb1 HR HB N1 c0
  have c1 := HF1.out.row.c
  rw [← hc.out, Nat.zero_add] at c1
  go_wp2_with fail
  refine (N2.out _).mono ?_
  rintro e w2 ⟨rfl, hb2⟩
  have HF2 := hidk (HF1.out.keep hb2)
  obtain ⟨v3, w3, hr3, hF3⟩ := HF2.out.app (by simp) 2 n2
  have HRUN3 := hidk hr3
  have HF3 := hidk hF3
  have c2 := HF3.out.row.s
  rw [← hs.out, Nat.zero_add] at c2
  clear hb2 HF1 HF2 hr3 hF3 N2 c1 k1
  go_wp2_with (first
    | (show wpList _ _ _ ({ dst := some 19, op := _, type := _, pos := _, after := _, guard := _ } :: _) _ _; refine wpList_append_run rfl (.tmp 13) (.tmp 18) 62 62 rfl _ _ v3 w3 rfl rfl HRUN3.out ?_; try simp only [Act.put, List.setIfInBounds_toArray, List.set_cons_zero, List.set_cons_succ])
    | fail)
  refine (N3.out _).mono ?_
  rintro e w4 ⟨rfl, hb4⟩
  have HF4 := hidk (HF3.out.keep hb4)
  obtain ⟨v5, w5, hr5, hF5⟩ := HF4.out.app (by simp) 3 n3
  have HRUN5 := hidk hr5
  have HF5 := hidk hF5
  have c3 := HF5.out.row.t
  rw [← ht.out, Nat.zero_add] at c3
  obtain ⟨v6, w6, hr6, hF6⟩ := HF5.out.app (by simp) 4 t
  have HRUN6 := hidk hr6
  have HF6 := hidk hF6
  clear hb4 HF3 HF4 HF5 hr5 hF5 hr6 hF6 N3 c2 HRUN3
  go_wp2_with (first
    | (show wpList _ _ _ ({ dst := some 26, op := _, type := _, pos := _, after := _, guard := _ } :: _) _ _; refine wpList_append_run rfl (.tmp 20) (.tmp 25) 62 62 rfl _ _ v5 w5 rfl rfl HRUN5.out ?_; try simp only [Act.put, List.setIfInBounds_toArray, List.set_cons_zero, List.set_cons_succ])
    | (show wpList _ _ _ ({ dst := some 32, op := _, type := _, pos := _, after := _, guard := _ } :: _) _ _; refine wpList_append_run rfl (.tmp 27) (.tmp 31) 62 62 rfl _ _ v6 w6 rfl rfl HRUN6.out ?_; try simp only [Act.put, List.setIfInBounds_toArray, List.set_cons_zero, List.set_cons_succ])
    | fail)
  go_ret
  refine ⟨_, rfl, ?_, HF6.out.below⟩
  rw [HFE.out]
  exact own_lower HF6.out.own (by omega)
set_option maxHeartbeats 2000000 in
theorem refFields_anchor (x : EnT) (ok : OkE x) (hk : x.k = 2) (hright : rightE x = true) (w : World) (X : Array Value) (HX : Hid (X = (ecells x).toArray)) :
    Calls Tryz.prog 52 #[.agg X] w fun e w' => ∃ v, e = .returned v ∧ w'.ownsRow w.heap.size 74 2 v (fieldsE x).length (fcells (fieldsE x)) ∧ Below w.heap.size w w' := by
  have HR := hidk (erow_new w x ok X HX 37)
  have HB : Hid (Below w.heap.size w (w.alloc (.cells X 37))) := (Below.refl _ _).alloc (Nat.le_refl _) _
  have c0 := HR.out.k
  rw [hk] at c0
  obtain ⟨n1, Hn1⟩ : ∃ n, Hid (n = nOf 2) := ⟨_, hidk rfl⟩
  have N1 : Hid (∀ W, Calls Tryz.prog 75 #[.int .i64 2] W fun e w' => e = .returned (.string n1) ∧ Below W.heap.size W w') := fun W => by rw [Hn1.out]; exact refNum_any 2 W
  obtain ⟨Q, HQ, HSQ, H1Q, HZQ⟩ := sign_row x.h ok.h ok.g
  obtain ⟨L, hL⟩ : ∃ l, l = signB x.h := ⟨_, rfl⟩
  obtain ⟨n2, Hn2⟩ : ∃ n : ByteArray, Hid (n = ⟨L.toArray⟩) := ⟨_, hidk rfl⟩
  have SB : Hid (∀ W, Calls Tryz.prog 76 #[.agg Q] W fun e w' => ∃ v, e = .returned v ∧ w'.ownsRow W.heap.size 5 1 v L.length (cellsOf L) ∧ Below W.heap.size W w') := fun W => by rw [hL]; exact refSB_any x.h ok.h ok.g W Q HQ
  have HFE : Hid (fieldsE x = [(1, n1), (5, n2)]) := by show _ = _; rw [fields_anchor hk, Hn1.out, Hn2.out, hL]; rfl
  have HRQ : Hid (∀ W, ERow W w.heap.size 0 x → W.rangeAt w.heap.size 4 Q.toList) := fun W h => by
    have := h.h
    rw [Nat.zero_add] at this
    rw [HQ.out]; simpa using this
  have CV : Hid (∀ W a cap, Reads W a L.length cap L → (convert 22 9 (.slice a L.length cap)).run Tryz.prog W = .ok (.string n2) W) := fun W a cap h => by rw [Hn2.out]; exact conv_reads h
  obtain ⟨len, hlen⟩ : ∃ n, Hid (n = L.length) := ⟨_, hidk rfl⟩
  rw [← hlen.out] at SB CV
  clear Hn1 Hn2 HX HQ hL
  go_enter Tryz.func52, Tryz.ntmps52
  go_wp2_with fail
  refine (N1.out _).mono ?_
  rintro e w1 ⟨rfl, hb1⟩
  have HF1 := hidk (FO.first (x := x) (HR.out.keep hb1) (HB.out.trans (hb1.mono HB.out.size)) (by have := hb1.size; simp at this; omega) n1)
  have k1 := HF1.out.row.k
  rw [hk] at k1
  clear hb1 HR HB N1 c0
  go_wp2_with (first
    | (show wpList _ _ _ ({ dst := some 37, op := _, type := _, pos := _, after := _, guard := _ } :: _) _ _; refine wpList_mid rfl 35 (.tmp 36) rfl w.heap.size 4 rfl Q _ (HRQ.out _ HF1.out.row) Tryz.underlying35 rfl HSQ.out ?_; try simp only [Act.put, List.setIfInBounds_toArray, List.set_cons_zero, List.set_cons_succ])
    | fail)
  refine (SB.out _).mono ?_
  rintro e w2 ⟨v, rfl, hown, hb2⟩
  rw [hlen.out] at hown
  obtain ⟨a2, cap2, rfl, hR2⟩ := reads_own hown
  rw [← hlen.out] at hR2 ⊢
  have c2 := CV.out w2 a2 cap2 hR2
  have HF2 := hidk (HF1.out.keep hb2)
  obtain ⟨v3, w3, hr3, hF3⟩ := HF2.out.app (by simp) 5 n2
  have HRUN3 := hidk hr3
  have HF3 := hidk hF3
  clear hown hR2 hb2 HF1 HF2 hr3 hF3 SB CV k1 HRQ
  go_wp2_with (first
    | (show wpList _ _ _ ({ dst := some 42, op := _, type := _, pos := _, after := _, guard := _ } :: _) _ _; refine wpList_append_run rfl (.tmp 35) (.tmp 41) 62 62 rfl _ _ v3 w3 rfl rfl HRUN3.out ?_; try simp only [Act.put, List.setIfInBounds_toArray, List.set_cons_zero, List.set_cons_succ])
    | fail)
  go_ret
  refine ⟨_, rfl, ?_, HF3.out.below⟩
  rw [HFE.out]
  exact own_lower HF3.out.own (by omega)
set_option maxHeartbeats 2000000 in
theorem refFields_claim (x : EnT) (ok : OkE x) (hk : x.k = 3) (hright : rightE x = true) (w : World) (X : Array Value) (HX : Hid (X = (ecells x).toArray)) :
    Calls Tryz.prog 52 #[.agg X] w fun e w' => ∃ v, e = .returned v ∧ w'.ownsRow w.heap.size 74 2 v (fieldsE x).length (fcells (fieldsE x)) ∧ Below w.heap.size w w' := by
  have HR := hidk (erow_new w x ok X HX 37)
  have HB : Hid (Below w.heap.size w (w.alloc (.cells X 37))) := (Below.refl _ _).alloc (Nat.le_refl _) _
  have c0 := HR.out.k
  rw [hk] at c0
  obtain ⟨n1, Hn1⟩ : ∃ n, Hid (n = nOf 3) := ⟨_, hidk rfl⟩
  have N1 : Hid (∀ W, Calls Tryz.prog 75 #[.int .i64 3] W fun e w' => e = .returned (.string n1) ∧ Below W.heap.size W w') := fun W => by rw [Hn1.out]; exact refNum_any 3 W
  obtain ⟨Q, HQ, HSQ, H1Q, HZQ⟩ := claim_row5 x.m ok.m
  obtain ⟨L, hL⟩ : ∃ l, l = claimB x.m := ⟨_, rfl⟩
  obtain ⟨n2, Hn2⟩ : ∃ n : ByteArray, Hid (n = ⟨L.toArray⟩) := ⟨_, hidk rfl⟩
  have SB : Hid (∀ W, Calls Tryz.prog 77 #[.agg Q] W fun e w' => ∃ v, e = .returned v ∧ w'.ownsRow W.heap.size 5 1 v L.length (cellsOf L) ∧ Below W.heap.size W w') := fun W => by rw [hL]; exact refCB_any x.m ok.m W Q HQ
  have HFE : Hid (fieldsE x = [(1, n1), (6, n2)]) := by show _ = _; rw [fields_claim hk, Hn1.out, Hn2.out, hL]; rfl
  have HRQ : Hid (∀ W, ERow W w.heap.size 0 x → W.rangeAt w.heap.size 73 Q.toList) := fun W h => by
    have := h.m
    rw [Nat.zero_add] at this
    rw [HQ.out]; simpa using this
  have CV : Hid (∀ W a cap, Reads W a L.length cap L → (convert 22 9 (.slice a L.length cap)).run Tryz.prog W = .ok (.string n2) W) := fun W a cap h => by rw [Hn2.out]; exact conv_reads h
  obtain ⟨len, hlen⟩ : ∃ n, Hid (n = L.length) := ⟨_, hidk rfl⟩
  rw [← hlen.out] at SB CV
  clear Hn1 Hn2 HX HQ hL
  go_enter Tryz.func52, Tryz.ntmps52
  go_wp2_with fail
  refine (N1.out _).mono ?_
  rintro e w1 ⟨rfl, hb1⟩
  have HF1 := hidk (FO.first (x := x) (HR.out.keep hb1) (HB.out.trans (hb1.mono HB.out.size)) (by have := hb1.size; simp at this; omega) n1)
  have k1 := HF1.out.row.k
  rw [hk] at k1
  clear hb1 HR HB N1 c0
  go_wp2_with (first
    | (show wpList _ _ _ ({ dst := some 47, op := _, type := _, pos := _, after := _, guard := _ } :: _) _ _; refine wpList_mid rfl 27 (.tmp 46) rfl w.heap.size 73 rfl Q _ (HRQ.out _ HF1.out.row) Tryz.underlying27 rfl HSQ.out ?_; try simp only [Act.put, List.setIfInBounds_toArray, List.set_cons_zero, List.set_cons_succ])
    | fail)
  refine (SB.out _).mono ?_
  rintro e w2 ⟨v, rfl, hown, hb2⟩
  rw [hlen.out] at hown
  obtain ⟨a2, cap2, rfl, hR2⟩ := reads_own hown
  rw [← hlen.out] at hR2 ⊢
  have c2 := CV.out w2 a2 cap2 hR2
  have HF2 := hidk (HF1.out.keep hb2)
  obtain ⟨v3, w3, hr3, hF3⟩ := HF2.out.app (by simp) 6 n2
  have HRUN3 := hidk hr3
  have HF3 := hidk hF3
  clear hown hR2 hb2 HF1 HF2 hr3 hF3 SB CV k1 HRQ
  go_wp2_with (first
    | (show wpList _ _ _ ({ dst := some 52, op := _, type := _, pos := _, after := _, guard := _ } :: _) _ _; refine wpList_append_run rfl (.tmp 45) (.tmp 51) 62 62 rfl _ _ v3 w3 rfl rfl HRUN3.out ?_; try simp only [Act.put, List.setIfInBounds_toArray, List.set_cons_zero, List.set_cons_succ])
    | fail)
  go_ret
  refine ⟨_, rfl, ?_, HF3.out.below⟩
  rw [HFE.out]
  exact own_lower HF3.out.own (by omega)
theorem refFields_any (x : EnT) (ok : OkE x) (hright : rightE x = true) (w : World) (X : Array Value) (HX : Hid (X = (ecells x).toArray)) :
    Calls Tryz.prog 52 #[.agg X] w fun e w' => ∃ v, e = .returned v ∧ w'.ownsRow w.heap.size 74 2 v (fieldsE x).length (fcells (fieldsE x)) ∧ Below w.heap.size w w' := by
  rcases right_kinds hright with ⟨hk, _⟩ | ⟨hk, _⟩ | ⟨hk, _⟩
  · exact refFields_user x ok hk hright w X HX
  · exact refFields_anchor x ok hk hright w X HX
  · exact refFields_claim x ok hk hright w X HX
theorem fieldsE_small {x : EnT} (ok : OkE x) (h : rightE x = true) : (∀ f ∈ fieldsE x, f.2.size ≤ maxLen) ∧ (fieldsE x).length ≤ 400 := by
  have hb : ∀ n : Nat, n ≤ 1000 → n ≤ maxLen := fun n hn => by unfold maxLen; omega
  rcases right_kinds h with ⟨hk, h1⟩ | ⟨hk, h1⟩ | ⟨hk, h1⟩
  · rw [fields_user hk]
    refine ⟨fun f hf => ?_, by simp⟩
    simp only [List.mem_cons, List.not_mem_nil, or_false] at hf
    rcases hf with rfl | rfl | rfl | rfl
    · exact hb (nOf 1).size (Nat.le_trans (nOf_size _) (by omega))
    · exact hb (nOf (x.c)).size (Nat.le_trans (nOf_size _) (by omega))
    · exact hb (nOf (x.s)).size (Nat.le_trans (nOf_size _) (by omega))
    · exact hb _ (by show x.t.size ≤ 1000; omega)
  · rw [fields_anchor hk]
    refine ⟨fun f hf => ?_, by simp⟩
    simp only [List.mem_cons, List.not_mem_nil, or_false] at hf
    rcases hf with rfl | rfl
    · exact hb (nOf 2).size (Nat.le_trans (nOf_size _) (by omega))
    · exact hb _ (by show (bA (signB x.h)).size ≤ 1000; rw [bA_size]; have := signB_length x.h ok.h ok.g; omega)
  · rw [fields_claim hk]
    refine ⟨fun f hf => ?_, by simp⟩
    simp only [List.mem_cons, List.not_mem_nil, or_false] at hf
    rcases hf with rfl | rfl
    · exact hb (nOf 3).size (Nat.le_trans (nOf_size _) (by omega))
    · exact hb _ (by show (bA (claimB x.m)).size ≤ 1000; rw [bA_size]; have := claimB_length x.m ok.m; omega)
set_option maxHeartbeats 2000000 in
theorem refEB_any (x : EnT) (ok : OkE x) (hright : rightE x = true) (w : World) (X : Array Value) (HX : Hid (X = (ecells x).toArray)) :
    Calls Tryz.prog 28 #[.agg X] w fun e w' => ∃ v, e = .returned v ∧ w'.ownsRow w.heap.size 5 1 v (entryB x).length (cellsOf (entryB x)) ∧ Below w.heap.size w w' := by
  have HSX : Hid ((Tryz.prog.info? 37).map (·.size) = some X.size) := by show _ = _; rw [sizeE, HX.out]; simp [ecells_length x ok]
  have HR : Hid ((w.alloc (.cells X 37)).heap[w.heap.size]? = some (.cells X 37 (0, 0))) := heap_alloc_new w _
  have HB : Hid (Below w.heap.size w (w.alloc (.cells X 37))) := (Below.refl _ _).alloc (Nat.le_refl _) _
  have FF : Hid (∀ W, Calls Tryz.prog 52 #[.agg X] W fun e w' => ∃ v, e = .returned v ∧ w'.ownsRow W.heap.size 74 2 v (fieldsE x).length (fcells (fieldsE x)) ∧ Below W.heap.size W w') := fun W => refFields_any x ok hright W X HX
  have hsm := fieldsE_small ok hright
  have h0 := layE_entry hright ok
  obtain ⟨fs, hfs⟩ : ∃ f, f = fieldsE x := ⟨_, rfl⟩
  have hEB : entryB x = rowOf fs := by unfold entryB rowOf; rw [hfs, if_pos h0]
  rw [hEB]
  rw [← hfs] at FF hsm h0
  obtain ⟨len, hlen⟩ : ∃ n, Hid (n = fs.length) := ⟨_, hidk rfl⟩
  have LL : Hid (∀ W a cap, FReads W.heap.size W a len cap fs → Calls Tryz.prog 51 #[.slice a len cap] W fun e W' => ∃ v, e = .returned (.tuple #[v, .int .i64 0]) ∧ W'.ownsRow W.heap.size 5 1 v (rowOf fs).length (cellsOf (rowOf fs)) ∧ Below W.heap.size W W') := fun W a cap h => by
    have := refLay_any a len cap fs W h (by rw [hlen.out]; exact hsm.2)
    rwa [h0] at this
  have HSM := hidk hsm.1
  clear HX hEB hsm h0 hfs hright
  go_enter Tryz.func28, Tryz.ntmps28
  go_wp2_with (first
    | (show wpList _ _ _ ({ dst := some 6, op := _, type := _, pos := _, after := _, guard := _ } :: _) _ _; refine wpList_load_row rfl 37 (.tmp 1) rfl w.heap.size rfl 37 X (0, 0) _ HR.out Tryz.underlying37 rfl HSX.out ?_; try simp only [Act.put, List.setIfInBounds_toArray, List.set_cons_zero, List.set_cons_succ])
    | fail)
  refine (FF.out _).mono ?_
  rintro e w1 ⟨v, rfl, hown, hb1⟩
  obtain ⟨a1, c1, rfl, hF1⟩ := freads_own hown HSM.out
  rw [← hlen.out] at hF1 ⊢
  have HF1 := hidk hF1
  have HB1 := hidk (HB.out.trans (hb1.mono HB.out.size))
  clear hown hb1 hF1 HB HR FF
  go_wp2_with fail
  refine (LL.out _ _ _ HF1.out).mono ?_
  rintro e w2 ⟨v2, rfl, hown2, hb2⟩
  have HO := hidk (own_lower hown2 HB1.out.size)
  have HB2 := hidk (HB1.out.trans (hb2.mono HB1.out.size))
  clear hown2 hb2 HF1 HB1 LL
  go_wp2_with fail
  go_ret
  exact ⟨_, rfl, HO.out, HB2.out⟩
end Go.Proofs.YtgkfodmccfnaoaaGreatDoor

/- What the document's Put, RightItem, ItemBytes and PutItem answer. -/
namespace Go.Proofs.YtgkfodmccfnaoaaGreatDoor
open Go.RowKit Sums Nums
set_option linter.unusedVariables false
set_option linter.unusedSimpArgs false
set_option maxRecDepth 100000
/-- What the parts of an item's row read as. -/
theorem irow_new (w : World) (x : ItT) (X : Array Value) (HX : Hid (X = (icells x).toArray)) (t : TypeId) : (w.alloc (.cells X t)).cell? ⟨w.heap.size, 0, none⟩ = some (.int .i64 x.p) ∧ (w.alloc (.cells X t)).rangeAt w.heap.size 1 (ecells x.e) := by
  have each : ∀ j u, (icells x)[j]? = some u → (w.alloc (.cells X t)).cell? ⟨w.heap.size, j, none⟩ = some u := fun j u hj => by
    rw [cell_of_row _ _ j _ t (0, 0) (heap_alloc_new w _), HX.out]
    simpa using hj
  refine ⟨each 0 _ rfl, fun j v hj => each (1 + j) v ?_⟩
  unfold icells
  rw [List.getElem?_append_right (by simp)]
  simpa using hj
set_option maxHeartbeats 2000000 in
theorem refRightI_any (x : ItT) (ok : OkE x.e) (w : World) (X : Array Value) (HX : Hid (X = (icells x).toArray)) :
    Calls Tryz.prog 31 #[.agg X] w fun e w' => e = .returned (.bool (rightI x)) ∧ Below w.heap.size w w' := by
  have HB : Hid (Below w.heap.size w (w.alloc (.cells X 41))) := (Below.refl _ _).alloc (Nat.le_refl _) _
  obtain ⟨c0, hr⟩ := irow_new w x X HX 41
  obtain ⟨Q, HQ⟩ : ∃ Q : Array Value, Hid (Q = (ecells x.e).toArray) := ⟨_, hidk rfl⟩
  have HSQ : Hid ((Tryz.prog.info? 37).map (·.size) = some Q.size) := by show _ = _; rw [sizeE, HQ.out]; simp [ecells_length x.e ok]
  have HRQ : Hid ((w.alloc (.cells X 41)).rangeAt w.heap.size 1 Q.toList) := by show World.rangeAt _ _ _ _; rw [HQ.out]; simpa using hr
  obtain ⟨b1, hb1⟩ : ∃ b, (decide (1 ≤ x.p) && decide (x.p ≤ 900000000)) = b := ⟨_, rfl⟩
  obtain ⟨b2, hb2⟩ : ∃ b, rightE x.e = b := ⟨_, rfl⟩
  have W1 : Hid (∀ (W : World), Calls Tryz.prog 45 #[.int .i64 x.p, .int .i64 1, .int .i64 900000000] W fun e w' => e = .returned (.bool b1) ∧ w' = W) := fun W => by rw [← hb1]; exact within8_any x.p 1 900000000 W
  have R2 : Hid (∀ W, Calls Tryz.prog 27 #[.agg Q] W fun e w' => e = .returned (.bool b2) ∧ Below W.heap.size W w') := fun W => by rw [← hb2]; exact refRightE_any x.e ok W Q HQ
  have hE : rightI x = (b1 && b2) := by rw [← hb1, ← hb2]; rfl
  rw [hE]
  obtain ⟨p, hp⟩ : ∃ p, p = x.p := ⟨_, rfl⟩
  rw [← hp] at c0 W1
  clear hE hb1 hb2 hp HX HQ hr ok
  cases b1
  · go_enter Tryz.func31, Tryz.ntmps31
    go_wp2_with fail
    refine (W1.out _).mono ?_
    rintro e w1 ⟨rfl, rfl⟩
    go_wp2
    go_ret
    exact ⟨rfl, HB.out⟩
  · go_enter Tryz.func31, Tryz.ntmps31
    go_wp2_with fail
    refine (W1.out _).mono ?_
    rintro e w1 ⟨rfl, rfl⟩
    go_wp2_with (first
      | (show wpList _ _ _ ({ dst := some 8, op := _, type := _, pos := _, after := _, guard := _ } :: _) _ _; refine wpList_mid_w (by rfl) 37 (.tmp 7) rfl w.heap.size 1 rfl Q _ HRQ.out Tryz.underlying37 rfl HSQ.out ?_; try simp only [Act.put, List.setIfInBounds_toArray, List.set_cons_zero, List.set_cons_succ])
      | fail)
    refine (R2.out _).mono ?_
    rintro e w1 ⟨rfl, hb1⟩
    have HB1 := hidk (HB.out.trans (hb1.mono HB.out.size))
    clear hb1
    go_wp2
    go_ret
    exact ⟨rfl, HB1.out⟩
end Go.Proofs.YtgkfodmccfnaoaaGreatDoor

/- What the calls of package entry answer, as the document says (their proofs are of one commit of the code). -/
namespace Go.Proofs.YtgkfodmccfnaoaaGreatDoor
open Go.RowKit Sums Nums
set_option linter.unusedVariables false
set_option linter.unusedSimpArgs false
set_option maxRecDepth 100000
/-- A claim, an entry, an item that lies in a variable. -/
structure InC (c : ClT) : Prop where
  d : c.d.length = 32
  r : In64 c.r
  e : In64 c.e
  n : In64 c.n
  s : In64 c.s
structure InE (x : EnT) : Prop where
  k : In64 x.k
  c : In64 x.c
  s : In64 x.s
  t : x.t.size ≤ 100000
  h : InS x.h
  m : InC x.m
theorem InE.ok {x : EnT} (h : InE x) : OkE x := ⟨h.h.h.d, h.h.g, h.m.d⟩
structure InI (x : ItT) : Prop where
  p : In64 x.p
  e : InE x.e
def cB (c : ClT) : List UInt8 := if rightC c = true then claimB c else []
def cE (c : ClT) : Int := if rightC c = true then 0 else 60
def eB (x : EnT) : List UInt8 := if rightE x = true then entryB x else []
def eE (x : EnT) : Int := if rightE x = true then 0 else 60
def iB (x : ItT) : List UInt8 := if rightI x = true then itemB x else []
def iE (x : ItT) : Int := if rightI x = true then 0 else 60
def leafO (x : ItT) : List UInt8 := if rightI x = true then leafI x else List.replicate 32 0
/-- What the calls of package entry answer. -/
structure EntryC : Prop where
  checkC : ∀ (c : ClT) (hc : InC c) (w : World) (C : Array Value) (HC : Hid (C = (ccells c).toArray)),
    Calls Tryz.prog 32 #[.agg C] w fun e w' => e = .returned (.int .i64 (cE c)) ∧ Below w.heap.size w w'
  putC : ∀ (c : ClT) (hc : InC c) (w : World) (C : Array Value) (HC : Hid (C = (ccells c).toArray)),
    Calls Tryz.prog 12 #[.agg C] w fun e w' => BytesE (cB c) (cE c) e w' ∧ Below w.heap.size w w'
  getC : ∀ (a : Option Addr) (len cap : Nat) (bs : List UInt8) (w : World) (hR : Reads w a len cap bs) (hl : len ≤ 100000) (R : Array Value) (HR : Hid (R = (ccells (getCO bs)).toArray)),
    Calls Tryz.prog 5 #[.slice a len cap] w fun e w' => e = .returned (.tuple #[.agg R, .int .i64 (getCE bs)]) ∧ Below w.heap.size w w'
  check : ∀ (x : EnT) (hx : InE x) (w : World) (X : Array Value) (HX : Hid (X = (ecells x).toArray)),
    Calls Tryz.prog 35 #[.agg X] w fun e w' => e = .returned (.int .i64 (eE x)) ∧ Below w.heap.size w w'
  put : ∀ (x : EnT) (hx : InE x) (w : World) (X : Array Value) (HX : Hid (X = (ecells x).toArray)),
    Calls Tryz.prog 13 #[.agg X] w fun e w' => BytesE (eB x) (eE x) e w' ∧ Below w.heap.size w w'
  get : ∀ (a : Option Addr) (len cap : Nat) (bs : List UInt8) (w : World) (hR : Reads w a len cap bs) (hl : len ≤ 100000) (R : Array Value) (HR : Hid (R = (ecells (getEO bs)).toArray)),
    Calls Tryz.prog 7 #[.slice a len cap] w fun e w' => e = .returned (.tuple #[.agg R, .int .i64 (getEE bs)]) ∧ Below w.heap.size w w'
  putI : ∀ (x : ItT) (hx : InI x) (w : World) (X : Array Value) (HX : Hid (X = (icells x).toArray)),
    Calls Tryz.prog 14 #[.agg X] w fun e w' => BytesE (iB x) (iE x) e w' ∧ Below w.heap.size w w'
  getI : ∀ (a : Option Addr) (len cap : Nat) (bs : List UInt8) (w : World) (hR : Reads w a len cap bs) (hl : len ≤ 100000) (R : Array Value) (HR : Hid (R = (icells (getIO bs)).toArray)),
    Calls Tryz.prog 9 #[.slice a len cap] w fun e w' => e = .returned (.tuple #[.agg R, .int .i64 (getIE bs)]) ∧ Below w.heap.size w w'
  leaf : ∀ (x : ItT) (hx : InI x) (w : World) (X D : Array Value) (HX : Hid (X = (icells x).toArray)) (hT : TabH w) (HD : Hid (D = (cellsOf (leafO x)).toArray)),
    Calls Tryz.prog 39 #[.agg X] w fun e w' => e = .returned (.tuple #[.agg D, .int .i64 (iE x)]) ∧ Below w.heap.size w w'
theorem rightC_in {c : ClT} (hr : rightC c = true) (hd : c.d.length = 32) : InC c := by
  have := (rightC_iff c).1 hr
  refine ⟨hd, ?_, ?_, ?_, ?_⟩ <;> unfold In64 <;> omega
theorem zeroC_in : InC zeroC := ⟨rfl, by unfold In64; decide, by unfold In64; decide, by unfold In64; decide, by unfold In64; decide⟩
theorem getCO_in (bs : List UInt8) : InC (getCO bs) := by
  unfold getCO
  cases h : getC bs with
  | none => exact zeroC_in
  | some x => exact rightC_in (getC_some h).1 (getC_some h).2.1
theorem zeroE_in : InE zeroE := ⟨by unfold In64; decide, by unfold In64; decide, by unfold In64; decide, by show 0 ≤ 100000; omega, zeroS_in, zeroC_in⟩
theorem rightE_in {x : EnT} (hr : rightE x = true) (ok : OkE x) : InE x := by
  have z0 : In64 0 := by unfold In64; decide
  by_cases h1 : x.k = 1
  · have hh := right_user h1
    rw [hr] at hh
    have hh := hh.symm
    simp only [Bool.and_eq_true, decide_eq_true_eq] at hh
    obtain ⟨⟨a1, a2⟩, ⟨a3, a4⟩, a5, a6, a7⟩ := hh
    exact ⟨by rw [h1]; unfold In64; decide, by unfold In64; omega, by unfold In64; omega, by omega, by rw [(eqSB_iff _ _).1 a6]; exact zeroS_in, by rw [(eqCB_iff _ _).1 a7]; exact zeroC_in⟩
  by_cases h2 : x.k = 2
  · have hh := right_anchor h2
    rw [hr] at hh
    have hh := hh.symm
    simp only [Bool.and_eq_true, decide_eq_true_eq] at hh
    obtain ⟨a1, a2, a3, a4, a5⟩ := hh
    exact ⟨by rw [h2]; unfold In64; decide, by rw [a1]; exact z0, by rw [a2]; exact z0, by omega, may_in a4 ok.h ok.g, by rw [(eqCB_iff _ _).1 a5]; exact zeroC_in⟩
  by_cases h3 : x.k = 3
  · have hh := right_claim h3
    rw [hr] at hh
    have hh := hh.symm
    simp only [Bool.and_eq_true, decide_eq_true_eq] at hh
    obtain ⟨a1, a2, a3, a4, a5⟩ := hh
    exact ⟨by rw [h3]; unfold In64; decide, by rw [a1]; exact z0, by rw [a2]; exact z0, by omega, by rw [(eqSB_iff _ _).1 a4]; exact zeroS_in, rightC_in a5 ok.m⟩
  rw [right_none h1 h2 h3] at hr
  cases hr
theorem getEO_in (bs : List UInt8) : InE (getEO bs) := by
  unfold getEO
  cases h : getE bs with
  | none => exact zeroE_in
  | some x => exact rightE_in (getE_some h).1 (getE_some h).2.1
theorem getIO_in (bs : List UInt8) : InI (getIO bs) := by
  unfold getIO
  cases h : getI bs with
  | none => exact ⟨by unfold In64; decide, zeroE_in⟩
  | some x =>
    obtain ⟨h1, h2, _⟩ := getI_some h
    have := (rightI_iff x).1 h1
    exact ⟨by show In64 x.p; unfold In64; omega, rightE_in this.2.2 h2⟩
theorem eB_length (x : EnT) (ok : OkE x) : (eB x).length ≤ 240 := by
  unfold eB
  split
  · rename_i h; exact entryB_length h ok
  · exact Nat.zero_le _
theorem cE_two (c : ClT) : cE c = 0 ∧ rightC c = true ∨ cE c = 60 ∧ rightC c = false := by
  unfold cE
  cases rightC c
  · exact .inr ⟨rfl, rfl⟩
  · exact .inl ⟨rfl, rfl⟩
theorem eE_two (x : EnT) : eE x = 0 ∧ rightE x = true ∨ eE x = 60 ∧ rightE x = false := by
  unfold eE
  cases rightE x
  · exact .inr ⟨rfl, rfl⟩
  · exact .inl ⟨rfl, rfl⟩
theorem iE_two (x : ItT) : iE x = 0 ∧ rightI x = true ∨ iE x = 60 ∧ rightI x = false := by
  unfold iE
  cases rightI x
  · exact .inr ⟨rfl, rfl⟩
  · exact .inl ⟨rfl, rfl⟩
end Go.Proofs.YtgkfodmccfnaoaaGreatDoor

/- What the document's ItemBytes and PutItem answer. -/
namespace Go.Proofs.YtgkfodmccfnaoaaGreatDoor
open Go.RowKit Sums Nums
set_option linter.unusedVariables false
set_option linter.unusedSimpArgs false
set_option maxRecDepth 100000
/-- What the parts of an item's row read as. -/
structure IRow (W : World) (g : Nat) (p : Int) (Q : Array Value) : Prop where
  p : W.cell? ⟨g, 0, none⟩ = some (.int .i64 p)
  e : W.rangeAt g 1 Q.toList
theorem IRow.keep {W W' : World} {g : Nat} {p : Int} {Q : Array Value} (r : IRow W g p Q) (hb : Below W.heap.size W W') : IRow W' g p Q :=
  ⟨(hb.cell (World.block_lt_of_cell? _ _ r.p)).trans r.p, range_keep hb r.e⟩
end Go.Proofs.YtgkfodmccfnaoaaGreatDoor

/- What the document's Leaf of a right item answers. -/
namespace Go.Proofs.YtgkfodmccfnaoaaGreatDoor
open Go.RowKit Sums Nums
set_option linter.unusedVariables false
set_option linter.unusedSimpArgs false
set_option maxRecDepth 100000

end Go.Proofs.YtgkfodmccfnaoaaGreatDoor

/- An entry's fields written one by one. -/
namespace Go.Proofs.YtgkfodmccfnaoaaGreatDoor
open Go.RowKit Sums Nums
set_option linter.unusedVariables false
set_option linter.unusedSimpArgs false
set_option maxRecDepth 100000
theorem eset_k (x : EnT) (v : Int) : (ecells x).toArray.setIfInBounds 0 (.int .i64 v) = (ecells { x with k := v }).toArray := by
  rw [List.setIfInBounds_toArray]; rfl
theorem eset_c (x : EnT) (v : Int) : (ecells x).toArray.setIfInBounds 1 (.int .i64 v) = (ecells { x with c := v }).toArray := by
  rw [List.setIfInBounds_toArray]; rfl
theorem eset_s (x : EnT) (v : Int) : (ecells x).toArray.setIfInBounds 2 (.int .i64 v) = (ecells { x with s := v }).toArray := by
  rw [List.setIfInBounds_toArray]; rfl
theorem eset_t (x : EnT) (v : ByteArray) : (ecells x).toArray.setIfInBounds 3 (.string v) = (ecells { x with t := v }).toArray := by
  rw [List.setIfInBounds_toArray]; rfl
theorem eset_h (x : EnT) (ok : OkE x) (v : SgT) (h1 : v.h.d.length = 32) (h2 : v.g.length = 32) : ((ecells x).take 4 ++ scells v ++ (ecells x).drop (4 + 69)).toArray = (ecells { x with h := v }).toArray := by
  congr 1
  have hs := scells_length x.h ok.h ok.g
  show ([Value.int .i64 x.k, .int .i64 x.c, .int .i64 x.s, .string x.t] ++ scells v) ++ (([Value.int .i64 x.k, .int .i64 x.c, .int .i64 x.s, .string x.t] ++ scells x.h) ++ ccells x.m).drop 73 = ([Value.int .i64 x.k, .int .i64 x.c, .int .i64 x.s, .string x.t] ++ scells v) ++ ccells x.m
  rw [List.drop_left' (by simp [hs])]
theorem eset_m (x : EnT) (ok : OkE x) (v : ClT) (h1 : v.d.length = 32) : ((ecells x).take 73 ++ ccells v ++ (ecells x).drop (73 + 36)).toArray = (ecells { x with m := v }).toArray := by
  congr 1
  have hs := scells_length x.h ok.h ok.g
  have hl := ecells_length x ok
  rw [List.drop_of_length_le (by rw [hl]; omega), List.append_nil]
  show (([Value.int .i64 x.k, .int .i64 x.c, .int .i64 x.s, .string x.t] ++ scells x.h) ++ ccells x.m).take 73 ++ ccells v = ([Value.int .i64 x.k, .int .i64 x.c, .int .i64 x.s, .string x.t] ++ scells x.h) ++ ccells v
  rw [List.take_left' (by simp [hs])]
/-- A text stored in the midst of a variable. -/
theorem wpList_set_str {P : Program} {ops : Array Oper} {rest : List Oper} {o : Oper} {a : Act} {w : World} {Q : Exit → Act → World → Prop} (hgd : o.guard = none) (ty : TypeId) (x y : Operand) (ho : o.op = .store ty x y)
    (g k : Nat) (n : ByteArray) (hx : a.eval x = .pointer (some ⟨g, k, none⟩)) (hy : a.eval y = .string n) (t' : TypeId) (D : Array Value) (hg : w.heap[g]? = some (.cells D t' (0, 0))) (hk : k < D.size) (hi : (P.info? ty).map (·.size) = some 1)
    (h : ∀ w', Hid (Wrote g (D.setIfInBounds k (.string n)) t' w w') → wpList P ops Q rest (a.put o.dst undef) w') : wpList P ops Q (o :: rest) a w := by
  refine wpList_plain hgd fun K hK => ?_
  have hkk := hK _ _ (h _ (wrote_part (k := k) (v := .string n) hg))
  have hc : w.cell? ⟨g, k, none⟩ = some D[k] := by rw [cell_of_row w g k D t' (0, 0) hg]; simp [hk]
  have hf : w.frozen? ⟨g, k, none⟩ = false := frozen_of_row w g k D t' hg
  cases hq : P.info? ty with
  | none => simp [hq] at hi
  | some i =>
    have hs : i.size = 1 := by simpa [hq] using hi
    have := run_storeCells_cells (P := P) g k [.string n] 0 w (fun j hj => by
      obtain rfl : j = 0 := by simpa using hj
      simp [hc]) (fun j hj => by
      obtain rfl : j = 0 := by simpa using hj
      simpa using hf) (fun v hv => by simp at hv; subst hv; rfl)
    unfold Oper.wp execOp
    simp only [ho, hx, hy, Instr.storeAt, Instr.sureAddr, Sem.run_bind, Sem.run_pure, Result.andThen_ok]
    simp only [Nat.add_zero] at this
    simp [storeVar, sizeOf, typeInfo, hq, Value.cells, hs, this]
    exact hkk
theorem infoE : (Tryz.prog.info? 37).map (fun i => (i.zero, i.size)) = some (some (.agg (ecells zeroE).toArray), 109) := by kernel_rfl
theorem builtE0 : Tryz.prog.built 37 [] = some (ecells zeroE).toArray := by kernel_rfl
theorem one_cellsE (x : EnT) : (ecells x).toArray.all (·.oneCell') = true := by
  rw [List.all_toArray, List.all_eq_true]
  intro v hv
  unfold ecells at hv
  simp only [List.mem_append, List.mem_cons, List.not_mem_nil, or_false] at hv
  rcases hv with ((rfl | rfl | rfl | rfl) | hv) | hv
  · rfl
  · rfl
  · rfl
  · rfl
  · have := one_cellsS x.h
    rw [List.all_toArray, List.all_eq_true] at this
    exact this v hv
  · have := one_cellsC x.m
    rw [List.all_toArray, List.all_eq_true] at this
    exact this v hv
end Go.Proofs.YtgkfodmccfnaoaaGreatDoor

/- The statements' own examples of claims and items, over what the calls of package entry answer. -/
namespace Go.Proofs.YtgkfodmccfnaoaaGreatDoor
open Go.RowKit Sums Nums
set_option linter.unusedVariables false
set_option linter.unusedSimpArgs false
set_option maxRecDepth 100000
def oneC : ClT := ⟨1, 2, 3, 0, List.replicate 32 0⟩
theorem oneC_in : InC oneC := ⟨rfl, by unfold In64; decide, by unfold In64; decide, by unfold In64; decide, by unfold In64; decide⟩
theorem oneC_right : rightC oneC = true := by decide
theorem builtC3 : Tryz.prog.built 27 [(0, .int .i64 1), (1, .int .i64 2), (2, .int .i64 3)] = some (ccells oneC).toArray := by kernel_rfl
theorem cE_zero : cE zeroC = 60 := by decide
theorem wpList_build_some {P : Program} {ops : Array Oper} {rest : List Oper} {o : Oper} {a : Act} {w : World} {Q : Exit → Act → World → Prop} (hg : o.guard = none) (t : TypeId) (parts : Array (Nat × Operand)) (ho : o.op = .build t parts) (vals : List (Nat × Value)) (hv : (parts.toList.map fun p => (p.1, a.eval p.2)) = vals)
    (cs : Array Value) (hb : P.built t vals = some cs) (h : wpList P ops Q rest (a.put o.dst (.agg cs)) w) : wpList P ops Q (o :: rest) a w := by
  refine wpList_build_row hg t parts ho cs ?_ h
  rw [← hb, ← hv, Array.toList_map]
set_option maxHeartbeats 4000000 in
theorem claims_true (ck : EntryC) (w : World) : Calls Tryz.prog 15 #[] w fun e w' => e = .returned (.bool true) ∧ Below w.heap.size w w' := by
  obtain ⟨Z, HZ, HA, HBZ, H36⟩ := noughtsC
  obtain ⟨X, HX, HSX, H1X, H36X⟩ := claim_row5 oneC rfl
  have HZX : Hid (Z.size = X.size) := by show _ = _; rw [H36.out, H36X.out]
  have HB3 : Hid (Tryz.prog.built 27 [(0, .int .i64 1), (1, .int .i64 2), (2, .int .i64 3)] = some X) := by show _ = _; rw [HX.out]; exact builtC3
  obtain ⟨L, hL⟩ : ∃ L, L = claimB oneC := ⟨_, rfl⟩
  obtain ⟨n, hn⟩ : ∃ n, n = L.length := ⟨_, rfl⟩
  have PU : Hid (∀ W, Calls Tryz.prog 12 #[.agg X] W fun e w' => (∃ a cap, e = .returned (.tuple #[.slice a n cap, .int .i64 0]) ∧ Reads w' a n cap L) ∧ Below W.heap.size W w') := fun W => by
    have := ck.putC oneC oneC_in W X HX
    rw [show cB oneC = L by rw [hL]; unfold cB; rw [if_pos oneC_right], show cE oneC = 0 by decide] at this
    rw [hn]; exact this
  have GE : Hid (∀ W a cap, Reads W a n cap L → Calls Tryz.prog 5 #[.slice a n cap] W fun e w' => e = .returned (.tuple #[.agg X, .int .i64 0]) ∧ Below W.heap.size W w') := fun W a cap h => by
    have hg := getC_claim oneC oneC_right rfl
    have := ck.getC _ _ _ _ W h (by rw [hn, hL]; have := claimB_length oneC rfl; omega) X (by show _ = _; unfold getCO; rw [hL, hg]; exact HX.out)
    rwa [show getCE L = 0 by unfold getCE; rw [hL, hg]; rfl] at this
  have CH1 : Hid (∀ W, Calls Tryz.prog 32 #[.agg X] W fun e w' => e = .returned (.int .i64 0) ∧ Below W.heap.size W w') := fun W => by
    have := ck.checkC oneC oneC_in W X HX
    rwa [show cE oneC = 0 by decide] at this
  have CH0 : Hid (∀ W, Calls Tryz.prog 32 #[.agg Z] W fun e w' => e = .returned (.int .i64 60) ∧ Below W.heap.size W w') := fun W => by
    have := ck.checkC zeroC zeroC_in W Z HZ
    rwa [cE_zero] at this
  have EQ : ∀ W, (binOp .eql 27 (.agg X) (.agg X)).run Tryz.prog W = .ok (.bool true) W := fun W => eqClaim oneC oneC rfl rfl X X HX HX true (by simp) W
  clear HX HZ H36 H36X hL hn
  go_enter Tryz.func15, Tryz.ntmps15
  go_wp2_with (first
    | (show wpList _ _ _ ({ dst := some 6, op := _, type := _, pos := _, after := _, guard := _ } :: _) _ _; refine wpList_build_some rfl 27 _ rfl _ rfl X HB3.out ?_; try simp only [Act.put, List.setIfInBounds_toArray, List.set_cons_zero, List.set_cons_succ])
    | (show wpList _ _ _ ({ dst := some 1, op := _, type := _, pos := _, after := _, guard := _ } :: _) _ _; refine wpList_new_var rfl 27 rfl Z HA.out ?_; intro g1 w1 HM1; try simp only [Act.put, List.setIfInBounds_toArray, List.set_cons_zero, List.set_cons_succ])
    | (refine wpList_set_var rfl 27 (.tmp 1) (.tmp 6) rfl g1 X rfl rfl 27 Z HM1.out.row HSX.out HZX.out H1X.out ?_; intro w2 HW1; try simp only [Act.put, List.setIfInBounds_toArray, List.set_cons_zero, List.set_cons_succ])
    | (show wpList _ _ _ ({ dst := some 8, op := _, type := _, pos := _, after := _, guard := _ } :: _) _ _; refine wpList_load_row rfl 27 (.tmp 1) rfl g1 rfl 27 X (0, 0) _ HW1.out.row Tryz.underlying27 rfl HSX.out ?_; try simp only [Act.put, List.setIfInBounds_toArray, List.set_cons_zero, List.set_cons_succ])
    | fail)
  have HB2 := hidk (HW1.out.below _ _ HM1.out.below (Nat.le_of_eq HM1.out.new.symm))
  have HR2 := hidk HW1.out.row
  clear HM1 HW1
  refine (PU.out _).mono ?_
  rintro e w3 ⟨⟨a3, c3, rfl, hR3⟩, hb3⟩
  have HQ3 := hidk hR3
  have HB3' := hidk (HB2.out.trans (hb3.mono HB2.out.size))
  have HR3 := hidk ((hb3.block _ (heap_lt HR2.out)).trans HR2.out)
  clear hb3 hR3 HB2 HR2 PU
  go_wp2_with fail
  refine (GE.out _ _ _ HQ3.out).mono ?_
  rintro e w4 ⟨rfl, hb4⟩
  have HB4 := hidk (HB3'.out.trans (hb4.mono HB3'.out.size))
  have HR4 := hidk ((hb4.block _ (heap_lt HR3.out)).trans HR3.out)
  clear hb4 HB3' HR3 HQ3 GE
  go_wp2_with (first
    | (show wpList _ _ _ ({ dst := some 4, op := _, type := _, pos := _, after := _, guard := _ } :: _) _ _; refine wpList_new_var rfl 27 rfl Z HA.out ?_; intro g4 w5 HM4; try simp only [Act.put, List.setIfInBounds_toArray, List.set_cons_zero, List.set_cons_succ])
    | (refine wpList_set_var rfl 27 (.tmp 4) (.tmp 15) rfl g4 X rfl rfl 27 Z HM4.out.row HSX.out HZX.out H1X.out ?_; intro w6 HW4; try simp only [Act.put, List.setIfInBounds_toArray, List.set_cons_zero, List.set_cons_succ])
    | (show wpList _ _ _ ({ dst := some 24, op := _, type := _, pos := _, after := _, guard := _ } :: _) _ _; refine wpList_load_row_w (by rfl) 27 (.tmp 4) rfl g4 rfl 27 X (0, 0) _ HW4.out.row Tryz.underlying27 rfl HSX.out ?_; try simp only [Act.put, List.setIfInBounds_toArray, List.set_cons_zero, List.set_cons_succ])
    | (show wpList _ _ _ ({ dst := some 25, op := _, type := _, pos := _, after := _, guard := _ } :: _) _ _; refine wpList_load_row_w (by rfl) 27 (.tmp 1) rfl g1 rfl 27 X (0, 0) _ ((HW4.out.other _ (by have e1 := HM4.out.new; have := heap_lt HR4.out; omega)).trans ((HM4.out.below.block _ (heap_lt HR4.out)).trans HR4.out)) Tryz.underlying27 rfl HSX.out ?_; try simp only [Act.put, List.setIfInBounds_toArray, List.set_cons_zero, List.set_cons_succ])
    | (show wpList _ _ _ ({ dst := some 29, op := _, type := _, pos := _, after := _, guard := _ } :: _) _ _; refine wpList_load_row_w (by rfl) 27 (.tmp 1) rfl g1 rfl 27 X (0, 0) _ ((HW4.out.other _ (by have e1 := HM4.out.new; have := heap_lt HR4.out; omega)).trans ((HM4.out.below.block _ (heap_lt HR4.out)).trans HR4.out)) Tryz.underlying27 rfl HSX.out ?_; try simp only [Act.put, List.setIfInBounds_toArray, List.set_cons_zero, List.set_cons_succ])
    | fail)
  have HB6 := hidk (HW4.out.below _ _ (HB4.out.trans (HM4.out.below.mono HB4.out.size)) (by have := HM4.out.new; have := HB4.out.size; omega))
  clear HM4 HW4 HB4 HR4
  refine (CH1.out _).mono ?_
  rintro e w7 ⟨rfl, hb7⟩
  have HB7 := hidk (HB6.out.trans (hb7.mono HB6.out.size))
  clear hb7 HB6 CH1
  go_wp2_with (first
    | (show wpList _ _ _ ({ dst := some 34, op := _, type := _, pos := _, after := _, guard := _ } :: _) _ _; refine wpList_build_none_w (by rfl) 27 rfl Z HBZ.out ?_; try simp only [Act.put, List.setIfInBounds_toArray, List.set_cons_zero, List.set_cons_succ])
    | fail)
  refine (CH0.out _).mono ?_
  rintro e w8 ⟨rfl, hb8⟩
  have HB8 := hidk (HB7.out.trans (hb8.mono HB7.out.size))
  clear hb8 HB7 CH0
  go_wp2_with fail
  go_ret
  exact ⟨rfl, HB8.out⟩
/-! A user's entry, and an item with it. -/
def userE : EnT := ⟨1, 1, 2, ⟨#[97, 98]⟩, zeroS, zeroC⟩
theorem userE_ok : OkE userE := ⟨rfl, rfl, rfl⟩
theorem userE_right : rightE userE = true := by decide
theorem userE_in : InE userE := rightE_in userE_right userE_ok
def itemX : ItT := ⟨1, userE⟩
theorem itemX_right : rightI itemX = true := by decide
theorem itemX_in : InI itemX := ⟨by unfold In64; decide, userE_in⟩
theorem builtU : Tryz.prog.built 37 [(0, .int .i64 1), (1, .int .i64 1), (2, .int .i64 2), (3, .string ⟨#[97, 98]⟩)] = some (ecells userE).toArray := by kernel_rfl
theorem infoI : (Tryz.prog.info? 41).map (fun i => (i.zero, i.size)) = some (some (.agg (icells zeroI).toArray), 110) := by kernel_rfl
theorem builtI0 : Tryz.prog.built 41 [] = some (icells zeroI).toArray := by kernel_rfl
theorem one_cellsI (x : ItT) : (icells x).toArray.all (·.oneCell') = true := by
  have := one_cellsE x.e
  rw [List.all_toArray, List.all_eq_true] at this ⊢
  intro v hv
  unfold icells at hv
  simp only [List.mem_append, List.mem_cons, List.not_mem_nil, or_false] at hv
  rcases hv with rfl | hv
  · rfl
  · exact this v hv
theorem entry_row (x : EnT) (ok : OkE x) : ∃ C : Array Value, Hid (C = (ecells x).toArray) ∧ Hid ((Tryz.prog.info? 37).map (·.size) = some C.size) ∧ Hid (C.all (·.oneCell') = true) ∧ Hid (C.size = 109) := by
  refine ⟨(ecells x).toArray, hidk rfl, ?_, one_cellsE x, ?_⟩
  · show _ = _
    rw [sizeE]; simp [ecells_length x ok]
  · show _ = _
    simp [ecells_length x ok]
theorem item_row (x : ItT) (ok : OkE x.e) : ∃ C : Array Value, Hid (C = (icells x).toArray) ∧ Hid ((Tryz.prog.info? 41).map (·.size) = some C.size) ∧ Hid (C.all (·.oneCell') = true) ∧ Hid (C.size = 110) := by
  refine ⟨(icells x).toArray, hidk rfl, ?_, one_cellsI x, ?_⟩
  · show _ = _
    rw [sizeI]; simp [icells_length x ok]
  · show _ = _
    simp [icells_length x ok]
theorem noughtsE : ∃ Z : Array Value, Hid (Z = (ecells zeroE).toArray) ∧ Hid ((Tryz.prog.info? 37).map (fun i => (i.zero, i.size)) = some (some (.agg Z), Z.size)) ∧ Hid (Tryz.prog.built 37 [] = some Z) ∧ Hid (Z.size = 109) :=
  ⟨(ecells zeroE).toArray, hidk rfl, infoE, builtE0, hidk rfl⟩
theorem noughtsI : ∃ Z : Array Value, Hid (Z = (icells zeroI).toArray) ∧ Hid ((Tryz.prog.info? 41).map (fun i => (i.zero, i.size)) = some (some (.agg Z), Z.size)) ∧ Hid (Tryz.prog.built 41 [] = some Z) ∧ Hid (Z.size = 110) :=
  ⟨(icells zeroI).toArray, hidk rfl, infoI, builtI0, hidk rfl⟩
theorem user_any (w : World) (C : Array Value) (HC : Hid (C = (ecells userE).toArray)) :
    Calls Tryz.prog 38 #[] w fun e w' => e = .returned (.agg C) ∧ Below w.heap.size w w' := by
  obtain ⟨Z, HZ, HA, HBZ, H109⟩ := noughtsE
  have HSC : Hid ((Tryz.prog.info? 37).map (·.size) = some C.size) := by show _ = _; rw [sizeE, HC.out]; simp [ecells_length _ userE_ok]
  have H1C : Hid (C.all (·.oneCell') = true) := by show _ = _; rw [HC.out]; exact one_cellsE _
  have HZC : Hid (Z.size = C.size) := by show _ = _; rw [H109.out, HC.out]; simp [ecells_length _ userE_ok]
  have HBO : Hid (Tryz.prog.built 37 [(0, .int .i64 1), (1, .int .i64 1), (2, .int .i64 2), (3, .string ⟨#[97, 98]⟩)] = some C) := by show _ = _; rw [HC.out]; exact builtU
  clear HC HZ HBZ H109
  go_enter Tryz.func38, Tryz.ntmps38
  go_wp2_with (first
    | (show wpList _ _ _ ({ dst := some 0, op := _, type := _, pos := _, after := _, guard := _ } :: _) _ _; refine wpList_new_var rfl 37 rfl Z HA.out ?_; intro g0 w1 HM0; try simp only [Act.put, List.setIfInBounds_toArray, List.set_cons_zero, List.set_cons_succ])
    | (show wpList _ _ _ ({ dst := some 1, op := _, type := _, pos := _, after := _, guard := _ } :: _) _ _; refine wpList_build_some rfl 37 _ rfl _ rfl C HBO.out ?_; try simp only [Act.put, List.setIfInBounds_toArray, List.set_cons_zero, List.set_cons_succ])
    | (refine wpList_set_var rfl 37 (.tmp 0) (.tmp 1) rfl g0 C rfl rfl 37 Z HM0.out.row HSC.out HZC.out H1C.out ?_; intro w2 HW0; try simp only [Act.put, List.setIfInBounds_toArray, List.set_cons_zero, List.set_cons_succ])
    | fail)
  refine bodyPost_ret (v := .agg C) ?_ rfl ⟨rfl, HW0.out.below w.heap.size w HM0.out.below (Nat.le_of_eq HM0.out.new.symm)⟩
  exact results_cell_row (p := 0) (ty := 37) rfl _ _ g0 37 C (0, 0) _ rfl HW0.out.row Tryz.underlying37 rfl HSC.out
end Go.Proofs.YtgkfodmccfnaoaaGreatDoor

/- The statements' own example of items, over what the calls of package entry answer. -/
namespace Go.Proofs.YtgkfodmccfnaoaaGreatDoor
open Go.RowKit Sums Nums
set_option linter.unusedVariables false
set_option linter.unusedSimpArgs false
set_option maxRecDepth 100000
theorem builtI (x : ItT) (ok : OkE x.e) (C R : Array Value) (HC : Hid (C = (ecells x.e).toArray)) (HR : Hid (R = (icells x).toArray)) : Tryz.prog.built 41 [(0, .int .i64 x.p), (1, .agg C)] = some R := by
  have hi := infoI
  have hzl := ecells_length zeroE zeroE_ok
  cases hq : Tryz.prog.info? 41 with
  | none => rw [hq] at hi; cases hi
  | some i =>
    rw [hq] at hi
    simp only [Option.map_some, Option.some.injEq, Prod.mk.injEq] at hi
    have hE := sizeE
    have h3 : (Tryz.prog.info? 3).map (·.size) = some 1 := by kernel_rfl
    cases hqE : Tryz.prog.info? 37 with
    | none => rw [hqE] at hE; cases hE
    | some iE =>
      cases hq3 : Tryz.prog.info? 3 with
      | none => rw [hq3] at h3; cases h3
      | some i3 =>
        rw [hqE] at hE
        rw [hq3] at h3
        simp only [Option.map_some, Option.some.injEq] at hE h3
        unfold Program.built
        simp only [hq, Tryz.underlying41, hi.1, List.mapM_cons, List.mapM_nil, hqE, hq3, hE, h3, Option.map_some, Option.bind_eq_bind, Option.bind_some, Option.pure_def]
        show Instr.fill _ (icells zeroI).toArray _ = some R
        have hc : C.size = 109 := by rw [HC.out]; simp [ecells_length x.e ok]
        refine (fill_val _ 0 0 1 (.int .i64 x.p) #[.int .i64 x.p] _ [] [.int .i64 0] (ecells zeroE) _ rfl rfl rfl (by simp [icells, zeroI]) rfl rfl).trans ?_
        refine (fill_val _ 1 1 109 (.agg C) C _ [.int .i64 x.p] (ecells zeroE) [] _ rfl rfl hc (by simp) rfl hzl).trans ?_
        simp only [Instr.fill, List.append_nil, Option.some.injEq]
        rw [HR.out, HC.out]
        rfl
def itemL : List UInt8 := [1, 0, 0, 1, 1, 2, 0, 0, 21, 1, 0, 0, 1, 1, 2, 0, 0, 1, 1, 3, 0, 0, 1, 2, 4, 0, 0, 2, 97, 98]
theorem itemB_X : itemB itemX = itemL := by decide +kernel
theorem getEE_nil : getEE [] = 60 := by decide +kernel
theorem getEO_nil : getEO [] = zeroE := by
  have h := getEE_nil
  unfold getEE at h
  unfold getEO
  cases hq : getE [] with
  | none => rfl
  | some x => rw [hq] at h; simp at h
theorem iE_zero : iE zeroI = 60 := by decide
theorem eE_zero : eE zeroE = 60 := by decide
theorem zeroI_in : InI zeroI := ⟨by unfold In64; decide, zeroE_in⟩
theorem leafO_zero : leafO zeroI = List.replicate 32 0 := rfl
set_option maxHeartbeats 8000000 in
theorem items_true (ck : EntryC) (w : World) (hT : TabH w) : Calls Tryz.prog 16 #[] w fun e w' => e = .returned (.bool true) ∧ Below w.heap.size w w' := by
  obtain ⟨ZE, HZE, HAE, HBE, H109⟩ := noughtsE
  obtain ⟨ZI, HZI, HAI, HBI, H110⟩ := noughtsI
  obtain ⟨ZD, HZD, HAD, HSD, H1D, H32⟩ := noughts27
  obtain ⟨U, HU, HSU, H1U, H109U⟩ := entry_row userE userE_ok
  obtain ⟨X, HX, HSX, H1X, H110X⟩ := item_row itemX userE_ok
  have HZX : Hid (ZI.size = X.size) := by show _ = _; rw [H110.out, H110X.out]
  have HSZE : Hid ((Tryz.prog.info? 37).map (·.size) = some ZE.size) := by show _ = _; rw [sizeE, H109.out]
  have H1ZE : Hid (ZE.all (·.oneCell') = true) := by show _ = _; rw [HZE.out]; exact one_cellsE _
  have HB2 : Hid (Tryz.prog.built 41 [(0, .int .i64 1), (1, .agg U)] = some X) := builtI itemX userE_ok U X HU HX
  have US : Hid (∀ W, Calls Tryz.prog 38 #[] W fun e w' => e = .returned (.agg U) ∧ Below W.heap.size W w') := fun W => user_any W U HU
  obtain ⟨L, hL⟩ : ∃ L, L = itemB itemX := ⟨_, rfl⟩
  obtain ⟨n, hn⟩ : ∃ n, n = L.length := ⟨_, rfl⟩
  have PU : Hid (∀ W, Calls Tryz.prog 14 #[.agg X] W fun e w' => (∃ a cap, e = .returned (.tuple #[.slice a n cap, .int .i64 0]) ∧ Reads w' a n cap L) ∧ Below W.heap.size W w') := fun W => by
    have := ck.putI itemX itemX_in W X HX
    rw [show iB itemX = L by rw [hL]; unfold iB; rw [if_pos itemX_right], show iE itemX = 0 by decide] at this
    rw [hn]; exact this
  have GE : Hid (∀ W a cap, Reads W a n cap L → Calls Tryz.prog 9 #[.slice a n cap] W fun e w' => e = .returned (.tuple #[.agg X, .int .i64 0]) ∧ Below W.heap.size W w') := fun W a cap h => by
    have hg := getI_item itemX_right userE_ok
    have := ck.getI _ _ _ _ W h (by rw [hn, hL]; have := itemB_length itemX_right userE_ok; omega) X (by show _ = _; unfold getIO; rw [hL, hg]; exact HX.out)
    rwa [show getIE L = 0 by unfold getIE; rw [hL, hg]; rfl] at this
  have GN : Hid (∀ W, Calls Tryz.prog 7 #[.slice none 0 0] W fun e w' => e = .returned (.tuple #[.agg ZE, .int .i64 60]) ∧ Below W.heap.size W w') := fun W => by
    have := ck.get none 0 0 [] W (reads_none _) (by omega) ZE (by show _ = _; rw [getEO_nil]; exact HZE.out)
    rwa [getEE_nil] at this
  have LE : Hid (∀ W, Below w.heap.size w W → Calls Tryz.prog 39 #[.agg ZI] W fun e w' => e = .returned (.tuple #[.agg ZD, .int .i64 60]) ∧ Below W.heap.size W w') := fun W hb => by
    have := ck.leaf zeroI zeroI_in W ZI ZD HZI (hT.keep hb) (by show _ = _; rw [leafO_zero]; exact HZD.out)
    rwa [iE_zero] at this
  have CH1 : Hid (∀ W, Calls Tryz.prog 35 #[.agg U] W fun e w' => e = .returned (.int .i64 0) ∧ Below W.heap.size W w') := fun W => by
    have := ck.check userE userE_in W U HU
    rwa [show eE userE = 0 by decide] at this
  have CH0 : Hid (∀ W, Calls Tryz.prog 35 #[.agg ZE] W fun e w' => e = .returned (.int .i64 60) ∧ Below W.heap.size W w') := fun W => by
    have := ck.check zeroE zeroE_in W ZE HZE
    rwa [eE_zero] at this
  have EQ : ∀ W, (binOp .eql 41 (.agg X) (.agg X)).run Tryz.prog W = .ok (.bool true) W := fun W => eqItem itemX itemX userE_ok userE_ok X X HX HX true (by simp) W
  have CV : Hid (∀ W a cap, Reads W a n cap L → (convert 22 9 (.slice a n cap)).run Tryz.prog W = .ok (.string ⟨#[1, 0, 0, 1, 1, 2, 0, 0, 21, 1, 0, 0, 1, 1, 2, 0, 0, 1, 1, 3, 0, 0, 1, 2, 4, 0, 0, 2, 97, 98]⟩) W) := fun W a cap h => by
    have := conv_reads h
    rwa [hL, itemB_X] at this
  clear HX HZE HZI HZD HU H109 H110 H109U H110X H32 hL hn hT
  go_enter Tryz.func16, Tryz.ntmps16
  go_wp2_with fail
  refine (US.out _).mono ?_
  rintro e w0 ⟨rfl, hb0⟩
  have HB0 := hidk hb0
  clear hb0
  go_wp2_with (first
    | (show wpList _ _ _ ({ dst := some 11, op := _, type := _, pos := _, after := _, guard := _ } :: _) _ _; refine wpList_build_some rfl 41 _ rfl _ rfl X HB2.out ?_; try simp only [Act.put, List.setIfInBounds_toArray, List.set_cons_zero, List.set_cons_succ])
    | (show wpList _ _ _ ({ dst := some 1, op := _, type := _, pos := _, after := _, guard := _ } :: _) _ _; refine wpList_new_var rfl 41 rfl ZI HAI.out ?_; intro g1 w1 HM1; try simp only [Act.put, List.setIfInBounds_toArray, List.set_cons_zero, List.set_cons_succ])
    | (refine wpList_set_var rfl 41 (.tmp 1) (.tmp 11) rfl g1 X rfl rfl 41 ZI HM1.out.row HSX.out HZX.out H1X.out ?_; intro w2 HW1; try simp only [Act.put, List.setIfInBounds_toArray, List.set_cons_zero, List.set_cons_succ])
    | (show wpList _ _ _ ({ dst := some 13, op := _, type := _, pos := _, after := _, guard := _ } :: _) _ _; refine wpList_load_row rfl 41 (.tmp 1) rfl g1 rfl 41 X (0, 0) _ HW1.out.row Tryz.underlying41 rfl HSX.out ?_; try simp only [Act.put, List.setIfInBounds_toArray, List.set_cons_zero, List.set_cons_succ])
    | fail)
  have HB2' := hidk (HW1.out.below _ _ (HB0.out.trans (HM1.out.below.mono HB0.out.size)) (by rw [HM1.out.new]; exact HB0.out.size))
  have HR2 := hidk HW1.out.row
  clear HM1 HW1 HB0
  refine (PU.out _).mono ?_
  rintro e w3 ⟨⟨a3, c3, rfl, hR3⟩, hb3⟩
  have HQ3 := hidk hR3
  have HB3 := hidk (HB2'.out.trans (hb3.mono HB2'.out.size))
  have HR3 := hidk ((hb3.block _ (heap_lt HR2.out)).trans HR2.out)
  clear hb3 hR3 HB2' HR2 PU
  go_wp2_with fail
  refine (GE.out _ _ _ HQ3.out).mono ?_
  rintro e w4 ⟨rfl, hb4⟩
  have HB4 := hidk (HB3.out.trans (hb4.mono HB3.out.size))
  have HR4 := hidk ((hb4.block _ (heap_lt HR3.out)).trans HR3.out)
  have HQ4 := hidk (HQ3.out.below hb4)
  clear hb4 HB3 HR3 HQ3 GE
  go_wp2_with (first
    | (show wpList _ _ _ ({ dst := some 4, op := _, type := _, pos := _, after := _, guard := _ } :: _) _ _; refine wpList_new_var rfl 41 rfl ZI HAI.out ?_; intro g4 w5 HM4; try simp only [Act.put, List.setIfInBounds_toArray, List.set_cons_zero, List.set_cons_succ])
    | (refine wpList_set_var rfl 41 (.tmp 4) (.tmp 20) rfl g4 X rfl rfl 41 ZI HM4.out.row HSX.out HZX.out H1X.out ?_; intro w6 HW4; try simp only [Act.put, List.setIfInBounds_toArray, List.set_cons_zero, List.set_cons_succ])
    | fail)
  have HX6 := hidk (HW4.out.below _ _ HM4.out.below (Nat.le_of_eq HM4.out.new.symm))
  have HB6 := hidk (HB4.out.trans (HX6.out.mono HB4.out.size))
  have HR6 := hidk ((HX6.out.block _ (heap_lt HR4.out)).trans HR4.out)
  have HQ6 := hidk (HQ4.out.below HX6.out)
  have HR46 := hidk HW4.out.row
  clear HM4 HW4 HX6 HB4 HR4 HQ4
  refine (GN.out _).mono ?_
  rintro e w7 ⟨rfl, hb7⟩
  have HB7 := hidk (HB6.out.trans (hb7.mono HB6.out.size))
  have HR7 := hidk ((hb7.block _ (heap_lt HR6.out)).trans HR6.out)
  have HR47 := hidk ((hb7.block _ (heap_lt HR46.out)).trans HR46.out)
  have HQ7 := hidk (HQ6.out.below hb7)
  clear hb7 HB6 HR6 HQ6 HR46 GN
  go_wp2_with (first
    | (show wpList _ _ _ ({ dst := some 6, op := _, type := _, pos := _, after := _, guard := _ } :: _) _ _; refine wpList_new_var rfl 37 rfl ZE HAE.out ?_; intro g6 w8 HM6; try simp only [Act.put, List.setIfInBounds_toArray, List.set_cons_zero, List.set_cons_succ])
    | (refine wpList_set_var rfl 37 (.tmp 6) (.tmp 24) rfl g6 ZE rfl rfl 37 ZE HM6.out.row HSZE.out rfl H1ZE.out ?_; intro w9 HW6; try simp only [Act.put, List.setIfInBounds_toArray, List.set_cons_zero, List.set_cons_succ])
    | (show wpList _ _ _ ({ dst := some 27, op := _, type := _, pos := _, after := _, guard := _ } :: _) _ _; refine wpList_build_none rfl 41 rfl ZI HBI.out ?_; try simp only [Act.put, List.setIfInBounds_toArray, List.set_cons_zero, List.set_cons_succ])
    | fail)
  have HX9 := hidk (HW6.out.below _ _ HM6.out.below (Nat.le_of_eq HM6.out.new.symm))
  have HB9 := hidk (HB7.out.trans (HX9.out.mono HB7.out.size))
  have HR9 := hidk ((HX9.out.block _ (heap_lt HR7.out)).trans HR7.out)
  have HR49 := hidk ((HX9.out.block _ (heap_lt HR47.out)).trans HR47.out)
  have HQ9 := hidk (HQ7.out.below HX9.out)
  clear HM6 HW6 HX9 HB7 HR7 HQ7 HR47
  refine (LE.out _ HB9.out).mono ?_
  rintro e w10 ⟨rfl, hb10⟩
  have HB10 := hidk (HB9.out.trans (hb10.mono HB9.out.size))
  have HR10 := hidk ((hb10.block _ (heap_lt HR9.out)).trans HR9.out)
  have HR410 := hidk ((hb10.block _ (heap_lt HR49.out)).trans HR49.out)
  have HQ10 := hidk (HQ9.out.below hb10)
  clear hb10 HB9 HR9 HQ9 HR49 LE
  go_wp2_with (first
    | (show wpList _ _ _ ({ dst := some 8, op := _, type := _, pos := _, after := _, guard := _ } :: _) _ _; refine wpList_new_var rfl 25 rfl ZD HAD.out ?_; intro g8 w11 HM8; try simp only [Act.put, List.setIfInBounds_toArray, List.set_cons_zero, List.set_cons_succ])
    | (refine wpList_set_var rfl 25 (.tmp 8) (.tmp 29) rfl g8 ZD rfl rfl 25 ZD HM8.out.row HSD.out rfl H1D.out ?_; intro w12 HW8; try simp only [Act.put, List.setIfInBounds_toArray, List.set_cons_zero, List.set_cons_succ]; have HX12 := hidk (HW8.out.below _ _ HM8.out.below (Nat.le_of_eq HM8.out.new.symm)); have hcv := CV.out w12 _ _ (HQ10.out.below HX12.out))
    | (show wpList _ _ _ ({ dst := some 43, op := _, type := _, pos := _, after := _, guard := _ } :: _) _ _; refine wpList_load_row_w (by rfl) 41 (.tmp 4) rfl g4 rfl 41 X (0, 0) _ ((HX12.out.block _ (heap_lt HR410.out)).trans HR410.out) Tryz.underlying41 rfl HSX.out ?_; try simp only [Act.put, List.setIfInBounds_toArray, List.set_cons_zero, List.set_cons_succ])
    | (show wpList _ _ _ ({ dst := some 44, op := _, type := _, pos := _, after := _, guard := _ } :: _) _ _; refine wpList_load_row_w (by rfl) 41 (.tmp 1) rfl g1 rfl 41 X (0, 0) _ ((HX12.out.block _ (heap_lt HR10.out)).trans HR10.out) Tryz.underlying41 rfl HSX.out ?_; try simp only [Act.put, List.setIfInBounds_toArray, List.set_cons_zero, List.set_cons_succ])
    | fail)
  have HB12 := hidk (HB10.out.trans (HX12.out.mono HB10.out.size))
  clear HM8 HW8 HX12 HB10 HR10 HQ10 HR410 hcv
  refine (US.out _).mono ?_
  rintro e w13 ⟨rfl, hb13⟩
  have HB13 := hidk (HB12.out.trans (hb13.mono HB12.out.size))
  clear hb13 HB12 US
  go_wp2_with fail
  refine (CH1.out _).mono ?_
  rintro e w14 ⟨rfl, hb14⟩
  have HB14 := hidk (HB13.out.trans (hb14.mono HB13.out.size))
  clear hb14 HB13 CH1
  go_wp2_with (first
    | (show wpList _ _ _ ({ dst := some 61, op := _, type := _, pos := _, after := _, guard := _ } :: _) _ _; refine wpList_build_none_w (by rfl) 37 rfl ZE HBE.out ?_; try simp only [Act.put, List.setIfInBounds_toArray, List.set_cons_zero, List.set_cons_succ])
    | fail)
  refine (CH0.out _).mono ?_
  rintro e w15 ⟨rfl, hb15⟩
  have HB15 := hidk (HB14.out.trans (hb15.mono HB14.out.size))
  clear hb15 HB14 CH0
  go_wp2_with fail
  go_ret
  exact ⟨rfl, HB15.out⟩
end Go.Proofs.YtgkfodmccfnaoaaGreatDoor

/- What EntryBytes says of any input, over what the calls of package entry answer. -/
namespace Go.Proofs.YtgkfodmccfnaoaaGreatDoor
open Go.RowKit Sums Nums
set_option linter.unusedVariables false
set_option linter.unusedSimpArgs false
set_option maxRecDepth 100000
/-- An entry, an item that came in: its text may be of any length. -/
structure CmE (x : EnT) : Prop where
  k : In64 x.k
  c : In64 x.c
  s : In64 x.s
  t : x.t.size ≤ maxLen
  h : InS x.h
  m : InC x.m
theorem CmE.ok {x : EnT} (h : CmE x) : OkE x := ⟨h.h.h.d, h.h.g, h.m.d⟩
theorem CmE.in {x : EnT} (h : CmE x) (ht : ¬ 16384 < x.t.size) : InE x := ⟨h.k, h.c, h.s, by omega, h.h, h.m⟩
structure CmI (x : ItT) : Prop where
  p : In64 x.p
  e : CmE x.e
theorem CmI.in {x : ItT} (h : CmI x) (ht : ¬ 16384 < x.e.t.size) : InI x := ⟨h.p, h.e.in ht⟩
end Go.Proofs.YtgkfodmccfnaoaaGreatDoor

/- What the document's guess answers. -/
namespace Go.Proofs.YtgkfodmccfnaoaaGreatDoor
open Go.RowKit Sums Nums
set_option linter.unusedVariables false
set_option linter.unusedSimpArgs false
set_option maxRecDepth 100000
theorem guess_next (fs : List (Int × ByteArray)) (k : Nat) (f : Int × ByteArray) (h : fs[k]? = some f) : guessE (fs.take (k + 1)) = stepE (guessE (fs.take k)) f := by
  unfold guessE
  rw [List.take_add_one, h]
  simp
theorem idxF8 (W : World) (b off len cap k : Nat) (h : k < len) : (Instr.indexAt 62 (.slice (some ⟨b, off, none⟩) len cap) (.int .i64 (k : Int))).run Tryz.prog W = .ok (.pointer (some ⟨b, off + k * 2, none⟩)) W := by
  have hs : ∀ w, (sizeOf 74).run Tryz.prog w = .ok 2 w := fun w => sizeOf_of (by kernel_rfl) w
  simp [Instr.indexAt, asIntOf, run_underlying Tryz.underlying62, hs, h]
  rw [add_plain]
/-- What the loop holds. -/
structure GI (w : World) (g2 g3 : Nat) (Z : Array Value) (X : Array Value) (W : World) : Prop where
  below : Below w.heap.size w W
  r2 : W.heap[g2]? = some (.cells Z 37 (0, 0))
  r3 : W.heap[g3]? = some (.cells X 37 (0, 0))
theorem GI.keep {w W W' : World} {g2 g3 : Nat} {Z X : Array Value} (h : GI w g2 g3 Z X W) (hb : Below W.heap.size W W') : GI w g2 g3 Z X W' :=
  ⟨h.below.trans (hb.mono h.below.size), (hb.block _ (heap_lt h.r2)).trans h.r2, (hb.block _ (heap_lt h.r3)).trans h.r3⟩
theorem GI.wrote {w W W' : World} {g2 g3 : Nat} {Z X Y : Array Value} (h : GI w g2 g3 Z X W) (hw : Wrote g3 Y 37 W W') (h3 : w.heap.size ≤ g3) (hne : g2 ≠ g3) : GI w g2 g3 Z Y W' :=
  ⟨hw.below _ _ h.below h3, (hw.other _ hne).trans h.r2, hw.row⟩
set_option maxHeartbeats 8000000 in
theorem refGuess_any (a : Option Addr) (len cap : Nat) (fs : List (Int × ByteArray)) (w : World) (hR : FReads w.heap.size w a len cap fs) (hl : len ≤ 400) (hsm : ∀ f ∈ fs, f.2.size ≤ 65536) (R : Array Value) (HR : Hid (R = (ecells (guessE fs)).toArray)) :
    Calls Tryz.prog 26 #[.slice a len cap] w fun e w' => e = .returned (.agg R) ∧ Below w.heap.size w w' := by
  obtain ⟨Z, HZ⟩ : ∃ Z : Array Value, Hid (Z = (ecells zeroE).toArray) := ⟨_, hidk rfl⟩
  have HA : Hid ((Tryz.prog.info? 37).map (fun i => (i.zero, i.size)) = some (some (.agg Z), Z.size)) := by show _ = _; rw [HZ.out]; exact infoE
  have HBE : Hid (Tryz.prog.built 37 [] = some Z) := by show _ = _; rw [HZ.out]; exact builtE0
  have HSZ : Hid ((Tryz.prog.info? 37).map (·.size) = some Z.size) := by show _ = _; rw [sizeE, HZ.out]; simp [ecells_length _ zeroE_ok]
  have H1Z : Hid (Z.all (·.oneCell') = true) := by show _ = _; rw [HZ.out]; exact one_cellsE _
  obtain ⟨gx, Hgx⟩ : ∃ g : Nat → EnT, Hid (∀ k, g k = guessE (fs.take k)) := ⟨_, (fun k => rfl : ∀ k, guessE (fs.take k) = _)⟩
  have gok : ∀ k, OkE (gx k) := fun k => by rw [Hgx.out]; exact guessE_ok _
  obtain ⟨XA, HXA⟩ : ∃ X : Nat → Array Value, Hid (∀ k, X k = (ecells (gx k)).toArray) := ⟨_, (fun k => rfl : ∀ k, (ecells (gx k)).toArray = _)⟩
  have HSA : Hid (∀ k, (XA k).size = 109) := fun k => by rw [HXA.out]; simp [ecells_length _ (gok k)]
  have HSE : Hid (∀ k, (Tryz.prog.info? 37).map (·.size) = some (XA k).size) := fun k => by rw [sizeE, HSA.out]
  have H1A : Hid (∀ k, (XA k).all (·.oneCell') = true) := fun k => by rw [HXA.out]; exact one_cellsE _
  have H00 : Hid (XA 0 = Z) := by show _ = _; rw [HXA.out, Hgx.out, HZ.out]; rfl
  have HFN : Hid (XA fs.length = R) := by show _ = _; rw [HXA.out, Hgx.out, HR.out, List.take_of_length_le (Nat.le_refl _)]
  have HNX : Hid (∀ k f, fs[k]? = some f → gx (k + 1) = stepE (gx k) f) := fun k f h => by rw [Hgx.out, Hgx.out]; exact guess_next fs k f h
  have I3 := hidk (show (Tryz.prog.info? 3).map (·.size) = some 1 by kernel_rfl)
  have IK := hidk (show (Tryz.prog.info? 31).map (·.size) = some 1 by kernel_rfl)
  have I9 := hidk (show (Tryz.prog.info? 9).map (·.size) = some 1 by kernel_rfl)
  obtain ⟨ZS, HZS, HAS, HBS, H69S⟩ := noughtsS
  obtain ⟨ZC, HZC, HAC, HBC, H36C⟩ := noughtsC
  have hlen : fs.length = len := hR.1
  have HFR := hidk hR
  have HSM := hidk hsm
  have HZA : Hid (Z.size = R.size) := by show _ = _; rw [← HFN.out, HSA.out, HZ.out]; simp [ecells_length _ zeroE_ok]
  have HSR : Hid ((Tryz.prog.info? 37).map (·.size) = some R.size) := by show _ = _; rw [← HFN.out]; exact HSE.out _
  have H1R : Hid (R.all (·.oneCell') = true) := by show _ = _; rw [← HFN.out]; exact H1A.out _
  clear hR hsm HR HZ Hgx HZS HZC
  go_enter Tryz.func26, Tryz.ntmps26
  go_wp2_with (first
    | (show wpList _ _ _ ({ dst := some 2, op := _, type := _, pos := _, after := _, guard := _ } :: _) _ _; refine wpList_new_var rfl 37 rfl Z HA.out ?_; intro g2 w1 HM2; try simp only [Act.put, List.setIfInBounds_toArray, List.set_cons_zero, List.set_cons_succ])
    | (show wpList _ _ _ ({ dst := some 10, op := _, type := _, pos := _, after := _, guard := _ } :: _) _ _; refine wpList_build_none rfl 37 rfl Z HBE.out ?_; try simp only [Act.put, List.setIfInBounds_toArray, List.set_cons_zero, List.set_cons_succ])
    | (show wpList _ _ _ ({ dst := some 3, op := _, type := _, pos := _, after := _, guard := _ } :: _) _ _; refine wpList_new_var rfl 37 rfl Z HA.out ?_; intro g3 w2 HM3; try simp only [Act.put, List.setIfInBounds_toArray, List.set_cons_zero, List.set_cons_succ])
    | (refine wpList_set_var rfl 37 (.tmp 3) (.tmp 10) rfl g3 Z rfl rfl 37 Z HM3.out.row HSZ.out rfl H1Z.out ?_; intro w3 HW3; try simp only [Act.put, List.setIfInBounds_toArray, List.set_cons_zero, List.set_cons_succ])
    | fail)
  have hg3 : g2 < g3 := by rw [HM3.out.new]; exact heap_lt HM2.out.row
  have hg2 : w.heap.size ≤ g2 := Nat.le_of_eq HM2.out.new.symm
  have HG0 : Hid (GI w g2 g3 Z (XA 0) w3) := by
    have hb2 : Below w.heap.size w w2 := HM2.out.below.trans (HM3.out.below.mono HM2.out.below.size)
    have r2 := (HM3.out.below.block _ (heap_lt HM2.out.row)).trans HM2.out.row
    rw [H00.out]
    exact ⟨HW3.out.below _ _ hb2 (by omega), (HW3.out.other _ (by omega)).trans r2, HW3.out.row⟩
  clear HM2 HM3 HW3
  go_loopw [4] (fun i wr => ∃ k : Nat, k ≤ len ∧ i = .int .i64 k ∧ Hid (GI w g2 g3 Z (XA k) wr)) (fun i _ => len - (intOf i).toNat)
  case atStart => exact ⟨0, by omega, rfl, HG0⟩
  case round =>
    clear HG0
    obtain ⟨k, hk, rfl, HG⟩ := hrel
    by_cases hlt : k < len
    · have dk : decide ((k : Int) < (len : Int)) = true := by rw [decide_eq_true_eq]; omega
      have dk' : decide (k < len) = true := by rw [decide_eq_true_eq]; omega
      have hkf : k < fs.length := by omega
      obtain ⟨f, hf⟩ : ∃ f, fs[k]? = some f := ⟨fs[k], List.getElem?_eq_getElem hkf⟩
      have hfm : f ∈ fs := by rw [List.getElem?_eq_getElem hkf] at hf; rw [← Option.some.inj hf]; exact List.getElem_mem hkf
      have hfs := HSM.out f hfm
      have hnx := HNX.out k f hf
      obtain ⟨b, off, rfl, hbn, hcell⟩ : ∃ b off, a = some ⟨b, off, none⟩ ∧ b < w.heap.size ∧ ∀ (i : Nat) (h : i < fs.length), w.cell? ⟨b, off + i * 2, none⟩ = some (.int .i64 fs[i].1) ∧ w.cell? ⟨b, off + i * 2 + 1, none⟩ = some (.string fs[i].2) := by
        rcases HFR.out.2.2.2.2 with ⟨_, h0⟩ | ⟨_, _, h0⟩ | ⟨b, off, e, hb, hc⟩
        · have := HFR.out.2.1; omega
        · omega
        · exact ⟨b, off, e, hb, hc⟩
      have hcc := hcell k hkf
      rw [List.getElem?_eq_getElem hkf, Option.some.injEq] at hf
      rw [hf] at hcc
      obtain ⟨tg, dt⟩ := f
      have c1 := (HG.out.below.cell (p := ⟨b, off + k * 2, none⟩) hbn).trans hcc.1
      have c2 := (HG.out.below.cell (p := ⟨b, off + k * 2 + 1, none⟩) hbn).trans hcc.2
      simp only at c1 c2 hfs
      have hdm : dt.size ≤ maxLen := by unfold maxLen; omega
      have ix := fun W => idxF8 W b off len cap k hlt
      have hw1 := wrap_int ((k : Int) + 1) (by omega) (by omega)
      have hs109 := HSA.out k
      have HXk := hidk (HXA.out k)
      have HXn := hidk (HXA.out (k + 1))
      have hgk := gok k
      clear hcell hcc hf hfm HSM HNX HFR
      by_cases h1 : tg = 1
      · subst h1
        obtain ⟨v, Hv⟩ : ∃ v, Hid (v = valO dt.data.toList) := ⟨_, hidk rfl⟩
        have V1 : Hid (∀ W, Calls Tryz.prog 21 #[.string dt] W fun e w' => e = .returned (.int .i64 v) ∧ w' = W) := fun W => (refVal_any dt W hdm).mono (by rintro e w' ⟨rfl, rfl⟩; exact ⟨by rw [Hv.out], rfl⟩)
        have HE : Hid ((XA k).setIfInBounds 0 (.int .i64 v) = XA (k + 1)) := by
          show _ = _
          rw [HXk.out, HXn.out, hnx, eset_k (gx k) v, Hv.out]
          rfl
        clear hnx HXk HXn Hv
        go_wp2_with fail
        refine (V1.out _).mono ?_
        rintro e w1 ⟨rfl, rfl⟩
        clear V1
        go_wp2_with (first
          | (refine wpList_set_int rfl 31 (.tmp 31) (.tmp 30) rfl g3 0 .i64 v rfl rfl 37 (XA k) HG.out.r3 (by rw [hs109]; omega) IK.out ?_; intro w4 HW4; rw [HE.out] at HW4; have HG2 := hidk (HG.out.wrote HW4.out (by omega) (by omega)); clear HW4 HG; try simp only [Act.put, List.setIfInBounds_toArray, List.set_cons_zero, List.set_cons_succ])
          | fail)
        go_roundw
        case rel => exact ⟨k + 1, by omega, by go_num, HG2⟩
        case measure => simp [intOf]; omega
      have e1 : (tg == 1) = false := by rw [beq_eq_false_iff_ne]; exact h1
      have f1 : decide (tg = 1) = false := by rw [decide_eq_false_iff_not]; exact h1
      by_cases h2 : tg = 2
      · subst h2
        obtain ⟨v, Hv⟩ : ∃ v, Hid (v = valO dt.data.toList) := ⟨_, hidk rfl⟩
        have V1 : Hid (∀ W, Calls Tryz.prog 21 #[.string dt] W fun e w' => e = .returned (.int .i64 v) ∧ w' = W) := fun W => (refVal_any dt W hdm).mono (by rintro e w' ⟨rfl, rfl⟩; exact ⟨by rw [Hv.out], rfl⟩)
        have HE : Hid ((XA k).setIfInBounds 1 (.int .i64 v) = XA (k + 1)) := by
          show _ = _
          rw [HXk.out, HXn.out, hnx, eset_c (gx k) v, Hv.out]
          rfl
        clear hnx HXk HXn Hv
        go_wp2_with fail
        refine (V1.out _).mono ?_
        rintro e w1 ⟨rfl, rfl⟩
        clear V1
        go_wp2_with (first
          | (refine wpList_set_int rfl 3 (.tmp 36) (.tmp 35) rfl g3 1 .i64 v rfl rfl 37 (XA k) HG.out.r3 (by rw [hs109]; omega) I3.out ?_; intro w4 HW4; rw [HE.out] at HW4; have HG2 := hidk (HG.out.wrote HW4.out (by omega) (by omega)); clear HW4 HG; try simp only [Act.put, List.setIfInBounds_toArray, List.set_cons_zero, List.set_cons_succ])
          | fail)
        go_roundw
        case rel => exact ⟨k + 1, by omega, by go_num, HG2⟩
        case measure => simp [intOf]; omega
      have e2 : (tg == 2) = false := by rw [beq_eq_false_iff_ne]; exact h2
      have f2 : decide (tg = 2) = false := by rw [decide_eq_false_iff_not]; exact h2
      by_cases h3 : tg = 3
      · subst h3
        obtain ⟨v, Hv⟩ : ∃ v, Hid (v = valO dt.data.toList) := ⟨_, hidk rfl⟩
        have V1 : Hid (∀ W, Calls Tryz.prog 21 #[.string dt] W fun e w' => e = .returned (.int .i64 v) ∧ w' = W) := fun W => (refVal_any dt W hdm).mono (by rintro e w' ⟨rfl, rfl⟩; exact ⟨by rw [Hv.out], rfl⟩)
        have HE : Hid ((XA k).setIfInBounds 2 (.int .i64 v) = XA (k + 1)) := by
          show _ = _
          rw [HXk.out, HXn.out, hnx, eset_s (gx k) v, Hv.out]
          rfl
        clear hnx HXk HXn Hv
        go_wp2_with fail
        refine (V1.out _).mono ?_
        rintro e w1 ⟨rfl, rfl⟩
        clear V1
        go_wp2_with (first
          | (refine wpList_set_int rfl 3 (.tmp 41) (.tmp 40) rfl g3 2 .i64 v rfl rfl 37 (XA k) HG.out.r3 (by rw [hs109]; omega) I3.out ?_; intro w4 HW4; rw [HE.out] at HW4; have HG2 := hidk (HG.out.wrote HW4.out (by omega) (by omega)); clear HW4 HG; try simp only [Act.put, List.setIfInBounds_toArray, List.set_cons_zero, List.set_cons_succ])
          | fail)
        go_roundw
        case rel => exact ⟨k + 1, by omega, by go_num, HG2⟩
        case measure => simp [intOf]; omega
      have e3 : (tg == 3) = false := by rw [beq_eq_false_iff_ne]; exact h3
      have f3 : decide (tg = 3) = false := by rw [decide_eq_false_iff_not]; exact h3
      by_cases h4 : tg = 4
      · subst h4
        have HE : Hid ((XA k).setIfInBounds 3 (.string dt) = XA (k + 1)) := by
          show _ = _
          rw [HXk.out, HXn.out, hnx, eset_t (gx k) dt]
          rfl
        clear hnx HXk HXn
        go_wp2_with (first
          | (refine wpList_set_str rfl 9 (.tmp 45) (.tmp 44) rfl g3 3 dt rfl rfl 37 (XA k) HG.out.r3 (by rw [hs109]; omega) I9.out ?_; intro w4 HW4; rw [HE.out] at HW4; have HG2 := hidk (HG.out.wrote HW4.out (by omega) (by omega)); clear HW4 HG; try simp only [Act.put, List.setIfInBounds_toArray, List.set_cons_zero, List.set_cons_succ])
          | fail)
        go_roundw
        case rel => exact ⟨k + 1, by omega, by go_num, HG2⟩
        case measure => simp [intOf]; omega
      have e4 : (tg == 4) = false := by rw [beq_eq_false_iff_ne]; exact h4
      have f4 : decide (tg = 4) = false := by rw [decide_eq_false_iff_not]; exact h4
      by_cases h5 : tg = 5
      · subst h5
        have hgo := getSO_ok dt.data.toList
        obtain ⟨Q, HQ, HSQ, H1Q, HQZ⟩ := sign_row (getSO dt.data.toList) hgo.1 hgo.2
        have HZQ : Hid (ZS.size = Q.size) := by show _ = _; rw [H69S.out, HQZ.out]
        obtain ⟨Er, HEr⟩ : ∃ z, Hid (z = getSE dt.data.toList) := ⟨_, hidk rfl⟩
        obtain ⟨bl, Hbl⟩ : ∃ l, Hid (l = dt.data.toList) := ⟨_, hidk rfl⟩
        have G1 : Hid (∀ W a cap, Reads W a dt.size cap dt.data.toList → Calls Tryz.prog 49 #[.slice a dt.size cap] W fun e w' => e = .returned (.tuple #[.agg Q, .int .i64 Er]) ∧ Below W.heap.size W w') := fun W a cap h => by rw [HEr.out]; exact refGetS_any a dt.size cap _ W h (by omega) Q HQ
        have HE : Hid (((XA k).toList.take 4 ++ Q.toList ++ (XA k).toList.drop (4 + Q.size)).toArray = XA (k + 1)) := by
          show _ = _
          rw [HQZ.out, HXk.out, HXn.out, hnx, HQ.out]
          exact eset_h (gx k) hgk _ hgo.1 hgo.2
        clear hnx HXk HXn HQ HEr hgo Hbl
        go_wp2_with (first
          | (show wpList _ _ _ ({ dst := some 50, op := _, type := _, pos := _, after := _, guard := _ } :: _) _ _; refine wpList_conv_text rfl 9 22 5 (.tmp 49) rfl dt rfl Tryz.underlying9 Tryz.underlying22 Tryz.underlying5 hdm ?_; intro b1 cc1 w4 HX4; try simp only [Act.put, List.setIfInBounds_toArray, List.set_cons_zero, List.set_cons_succ])
          | fail)
        have HGa := hidk (HG.out.keep HX4.out.2)
        refine (G1.out _ _ _ HX4.out.1).mono ?_
        rintro e w5 ⟨rfl, hb5⟩
        have HGb := hidk (HGa.out.keep hb5)
        clear hb5 HGa HX4 HG G1
        go_wp2_with (first
          | (show wpList _ _ _ ({ dst := some 6, op := _, type := _, pos := _, after := _, guard := _ } :: _) _ _; refine wpList_new_var rfl 35 rfl ZS HAS.out ?_; intro g6 w6 HM6; try simp only [Act.put, List.setIfInBounds_toArray, List.set_cons_zero, List.set_cons_succ])
          | (refine wpList_set_var rfl 35 (.tmp 6) (.tmp 52) rfl g6 Q rfl rfl 35 ZS HM6.out.row HSQ.out HZQ.out H1Q.out ?_; intro w7 HW6; have HX7 := hidk (HW6.out.below w5.heap.size w5 HM6.out.below (Nat.le_of_eq HM6.out.new.symm)); have HGc := hidk (HGb.out.keep HX7.out); have HR6 := hidk HW6.out.row; clear HM6 HW6 HX7 HGb; try simp only [Act.put, List.setIfInBounds_toArray, List.set_cons_zero, List.set_cons_succ])
          | (show wpList _ _ _ ({ dst := some 54, op := _, type := _, pos := _, after := _, guard := _ } :: _) _ _; refine wpList_load_row rfl 35 (.tmp 6) rfl g6 rfl 35 Q (0, 0) _ HR6.out Tryz.underlying35 rfl HSQ.out ?_; try simp only [Act.put, List.setIfInBounds_toArray, List.set_cons_zero, List.set_cons_succ])
          | (refine wpList_set_mid rfl 35 (.tmp 55) (.tmp 54) rfl g3 4 Q rfl rfl 37 (XA k) HGc.out.r3 (by rw [hs109, HQZ.out]; omega) HSQ.out H1Q.out ?_; intro w8 HW8; rw [HE.out] at HW8; have HG2 := hidk (HGc.out.wrote HW8.out (by omega) (by omega)); clear HW8 HGc HR6; try simp only [Act.put, List.setIfInBounds_toArray, List.set_cons_zero, List.set_cons_succ])
          | fail)
        go_roundw
        case rel => exact ⟨k + 1, by omega, by go_num, HG2⟩
        case measure => simp [intOf]; omega
      have e5 : (tg == 5) = false := by rw [beq_eq_false_iff_ne]; exact h5
      have f5 : decide (tg = 5) = false := by rw [decide_eq_false_iff_not]; exact h5
      by_cases h6 : tg = 6
      · subst h6
        have hgo := getCO_ok dt.data.toList
        obtain ⟨Q, HQ, HSQ, H1Q, HQZ⟩ := claim_row5 (getCO dt.data.toList) hgo
        have HZQ : Hid (ZC.size = Q.size) := by show _ = _; rw [H36C.out, HQZ.out]
        obtain ⟨Er, HEr⟩ : ∃ z, Hid (z = getCE dt.data.toList) := ⟨_, hidk rfl⟩
        obtain ⟨bl, Hbl⟩ : ∃ l, Hid (l = dt.data.toList) := ⟨_, hidk rfl⟩
        have G1 : Hid (∀ W a cap, Reads W a dt.size cap dt.data.toList → Calls Tryz.prog 6 #[.slice a dt.size cap] W fun e w' => e = .returned (.tuple #[.agg Q, .int .i64 Er]) ∧ Below W.heap.size W w') := fun W a cap h => by rw [HEr.out]; exact refGetC_any a dt.size cap _ W h (by omega) Q HQ
        have HE : Hid (((XA k).toList.take 73 ++ Q.toList ++ (XA k).toList.drop (73 + Q.size)).toArray = XA (k + 1)) := by
          show _ = _
          rw [HQZ.out, HXk.out, HXn.out, hnx, HQ.out]
          exact eset_m (gx k) hgk _ hgo
        clear hnx HXk HXn HQ HEr hgo Hbl
        go_wp2_with (first
          | (show wpList _ _ _ ({ dst := some 60, op := _, type := _, pos := _, after := _, guard := _ } :: _) _ _; refine wpList_conv_text rfl 9 22 5 (.tmp 59) rfl dt rfl Tryz.underlying9 Tryz.underlying22 Tryz.underlying5 hdm ?_; intro b1 cc1 w4 HX4; try simp only [Act.put, List.setIfInBounds_toArray, List.set_cons_zero, List.set_cons_succ])
          | fail)
        have HGa := hidk (HG.out.keep HX4.out.2)
        refine (G1.out _ _ _ HX4.out.1).mono ?_
        rintro e w5 ⟨rfl, hb5⟩
        have HGb := hidk (HGa.out.keep hb5)
        clear hb5 HGa HX4 HG G1
        go_wp2_with (first
          | (show wpList _ _ _ ({ dst := some 8, op := _, type := _, pos := _, after := _, guard := _ } :: _) _ _; refine wpList_new_var rfl 27 rfl ZC HAC.out ?_; intro g6 w6 HM6; try simp only [Act.put, List.setIfInBounds_toArray, List.set_cons_zero, List.set_cons_succ])
          | (refine wpList_set_var rfl 27 (.tmp 8) (.tmp 62) rfl g6 Q rfl rfl 27 ZC HM6.out.row HSQ.out HZQ.out H1Q.out ?_; intro w7 HW6; have HX7 := hidk (HW6.out.below w5.heap.size w5 HM6.out.below (Nat.le_of_eq HM6.out.new.symm)); have HGc := hidk (HGb.out.keep HX7.out); have HR6 := hidk HW6.out.row; clear HM6 HW6 HX7 HGb; try simp only [Act.put, List.setIfInBounds_toArray, List.set_cons_zero, List.set_cons_succ])
          | (show wpList _ _ _ ({ dst := some 64, op := _, type := _, pos := _, after := _, guard := _ } :: _) _ _; refine wpList_load_row rfl 27 (.tmp 8) rfl g6 rfl 27 Q (0, 0) _ HR6.out Tryz.underlying27 rfl HSQ.out ?_; try simp only [Act.put, List.setIfInBounds_toArray, List.set_cons_zero, List.set_cons_succ])
          | (refine wpList_set_mid rfl 27 (.tmp 65) (.tmp 64) rfl g3 73 Q rfl rfl 37 (XA k) HGc.out.r3 (by rw [hs109, HQZ.out]; omega) HSQ.out H1Q.out ?_; intro w8 HW8; rw [HE.out] at HW8; have HG2 := hidk (HGc.out.wrote HW8.out (by omega) (by omega)); clear HW8 HGc HR6; try simp only [Act.put, List.setIfInBounds_toArray, List.set_cons_zero, List.set_cons_succ])
          | fail)
        go_roundw
        case rel => exact ⟨k + 1, by omega, by go_num, HG2⟩
        case measure => simp [intOf]; omega
      have e6 : (tg == 6) = false := by rw [beq_eq_false_iff_ne]; exact h6
      have f6 : decide (tg = 6) = false := by rw [decide_eq_false_iff_not]; exact h6
      have HE : Hid (XA (k + 1) = XA k) := by
        show _ = _
        rw [HXk.out, HXn.out, hnx]
        unfold stepE
        rw [if_neg h1, if_neg h2, if_neg h3, if_neg h4, if_neg h5, if_neg h6]
      have HG2 : Hid (GI w g2 g3 Z (XA (k + 1)) wr) := by
        show GI _ _ _ _ _ _
        rw [HE.out]; exact HG.out
      clear hnx HXk HXn HE HG
      go_wp2_with fail
      go_roundw
      case rel => exact ⟨k + 1, by omega, by go_num, HG2⟩
      case measure => simp [intOf]; omega
    · obtain rfl : k = len := by omega
      have HGF := hidk HG.out
      rw [← hlen, HFN.out] at HGF
      clear HG
      have hdf : decide ((k : Int) < (k : Int)) = false := by rw [decide_eq_false_iff_not]; omega
      go_wp2_with (first
        | (show wpList _ _ _ ({ dst := some 66, op := _, type := _, pos := _, after := _, guard := _ } :: _) _ _; refine wpList_load_row rfl 37 (.tmp 3) rfl g3 rfl 37 R (0, 0) _ HGF.out.r3 Tryz.underlying37 rfl HSR.out ?_; try simp only [Act.put, List.setIfInBounds_toArray, List.set_cons_zero, List.set_cons_succ])
        | (refine wpList_set_var rfl 37 (.tmp 2) (.tmp 66) rfl g2 R rfl rfl 37 Z HGF.out.r2 HSR.out HZA.out H1R.out ?_; intro wz HW2; try simp only [Act.put, List.setIfInBounds_toArray, List.set_cons_zero, List.set_cons_succ])
        | fail)
      refine bodyPost_ret (v := .agg R) ?_ rfl ⟨rfl, HW2.out.below w.heap.size w HGF.out.below hg2⟩
      exact results_cell_row (p := 2) (ty := 37) rfl _ _ g2 37 R (0, 0) _ rfl HW2.out.row Tryz.underlying37 rfl HSR.out
end Go.Proofs.YtgkfodmccfnaoaaGreatDoor

/- What the document's Get of an entry answers. -/
namespace Go.Proofs.YtgkfodmccfnaoaaGreatDoor
open Go.RowKit Sums Nums
set_option linter.unusedVariables false
set_option linter.unusedSimpArgs false
set_option maxRecDepth 100000
theorem readF_short (bs : List UInt8) : ∀ f ∈ readF bs, f.2.size ≤ 65536 := by
  intro f hf
  unfold readF at hf
  split at hf
  · unfold toF at hf
    obtain ⟨x, hx, rfl⟩ := List.mem_map.1 hf
    have := parse_small _ _ _ x hx
    show x.d.toArray.size ≤ 65536
    simp
    omega
  · cases hf
theorem readF_many (bs : List UInt8) : (readF bs).length ≤ 255 := by
  by_cases h : readE bs = 0
  · exact (lay_read h).2.2
  · unfold readF; rw [if_neg h]; simp
/-- What is read, and what it is made of. -/
structure GR (w : World) (g2 g6 : Nat) (Z Q : Array Value) (a : Option Addr) (len cap : Nat) (bs : List UInt8) (W : World) : Prop where
  below : Below w.heap.size w W
  r2 : W.heap[g2]? = some (.cells Z 37 (0, 0))
  r6 : W.heap[g6]? = some (.cells Q 37 (0, 0))
  rd : Reads W a len cap bs
theorem GR.keep {w W W' : World} {g2 g6 : Nat} {Z Q : Array Value} {a : Option Addr} {len cap : Nat} {bs : List UInt8} (h : GR w g2 g6 Z Q a len cap bs W) (hb : Below W.heap.size W W') : GR w g2 g6 Z Q a len cap bs W' :=
  ⟨h.below.trans (hb.mono h.below.size), (hb.block _ (heap_lt h.r2)).trans h.r2, (hb.block _ (heap_lt h.r6)).trans h.r6, h.rd.below hb⟩
set_option maxHeartbeats 8000000 in
theorem refGetE_any (a : Option Addr) (len cap : Nat) (bs : List UInt8) (w : World) (hR : Reads w a len cap bs) (hl : len ≤ 1000000) (R : Array Value) (HR : Hid (R = (ecells (getEO bs)).toArray)) :
    Calls Tryz.prog 8 #[.slice a len cap] w fun e w' => e = .returned (.tuple #[.agg R, .int .i64 (getEE bs)]) ∧ Below w.heap.size w w' := by
  have hnot : ∀ (x : Bool) (w : World), (Op.unary .not (.bool x)).run Tryz.prog w = .ok (.bool (!x)) w := fun _ _ => rfl
  obtain ⟨Z, HZ⟩ : ∃ Z : Array Value, Hid (Z = (ecells zeroE).toArray) := ⟨_, hidk rfl⟩
  have HA : Hid ((Tryz.prog.info? 37).map (fun i => (i.zero, i.size)) = some (some (.agg Z), Z.size)) := by show _ = _; rw [HZ.out]; exact infoE
  have HBE : Hid (Tryz.prog.built 37 [] = some Z) := by show _ = _; rw [HZ.out]; exact builtE0
  have HSZ : Hid ((Tryz.prog.info? 37).map (·.size) = some Z.size) := by show _ = _; rw [sizeE, HZ.out]; simp [ecells_length _ zeroE_ok]
  have H1Z : Hid (Z.all (·.oneCell') = true) := by show _ = _; rw [HZ.out]; exact one_cellsE _
  obtain ⟨fs, hfs⟩ : ∃ f, f = readF bs := ⟨_, rfl⟩
  obtain ⟨x, hx⟩ : ∃ x, x = guessE fs := ⟨_, rfl⟩
  have ok : OkE x := by rw [hx]; exact guessE_ok _
  obtain ⟨Q, HQ⟩ : ∃ Q : Array Value, Hid (Q = (ecells x).toArray) := ⟨_, hidk rfl⟩
  have HSQ : Hid ((Tryz.prog.info? 37).map (·.size) = some Q.size) := by show _ = _; rw [sizeE, HQ.out]; simp [ecells_length _ ok]
  have H1Q : Hid (Q.all (·.oneCell') = true) := by show _ = _; rw [HQ.out]; exact one_cellsE _
  have HZQ : Hid (Z.size = Q.size) := by show _ = _; rw [HZ.out, HQ.out]; simp [ecells_length _ ok, ecells_length _ zeroE_ok]
  obtain ⟨E, hE⟩ : ∃ E : Nat, E = readE bs := ⟨_, rfl⟩
  obtain ⟨nf, hnf⟩ : ∃ n, n = fs.length := ⟨_, rfl⟩
  have RD : Hid (∀ W, Below w.heap.size w W → Calls Tryz.prog 25 #[.slice a len cap] W fun e W' => ∃ a' c', e = .returned (.tuple #[.slice a' nf c', .int .i64 (E : Int)]) ∧ FReads W'.heap.size W' a' nf c' fs ∧ Below W.heap.size W W') := fun W hb => (refRead_any a len cap bs W (hR.below hb) hl).mono (by
    rintro e W' ⟨v, rfl, hown, hbb⟩
    rw [← hfs] at hown
    obtain ⟨a', c', rfl, hrd⟩ := freads_own hown (by rw [hfs]; exact readF_small bs)
    rw [← hnf] at hrd ⊢
    exact ⟨a', c', by rw [hE], hrd, hbb⟩)
  have GU : Hid (∀ W a' c', FReads W.heap.size W a' nf c' fs → Calls Tryz.prog 26 #[.slice a' nf c'] W fun e w' => e = .returned (.agg Q) ∧ Below W.heap.size W w') := fun W a' c' h => refGuess_any a' nf c' fs W h (by rw [hnf, hfs]; have := readF_many bs; omega) (by rw [hfs]; exact readF_short bs) Q (by show _ = _; rw [HQ.out, hx])
  obtain ⟨br, hbr⟩ : ∃ b, rightE x = b := ⟨_, rfl⟩
  have RI : Hid (∀ W, Calls Tryz.prog 27 #[.agg Q] W fun e w' => e = .returned (.bool br) ∧ Below W.heap.size W w') := fun W => by rw [← hbr]; exact refRightE_any x ok W Q HQ
  obtain ⟨L, hL⟩ : ∃ l, l = entryB x := ⟨_, rfl⟩
  obtain ⟨T1, HT1⟩ : ∃ t : ByteArray, Hid (t = ⟨L.toArray⟩) := ⟨_, hidk rfl⟩
  obtain ⟨T2, HT2⟩ : ∃ t : ByteArray, Hid (t = ⟨bs.toArray⟩) := ⟨_, hidk rfl⟩
  obtain ⟨ln, Hln⟩ : ∃ n, Hid (n = L.length) := ⟨_, hidk rfl⟩
  have BY : Hid (br = true → ∀ W, Calls Tryz.prog 28 #[.agg Q] W fun e w' => (∃ a cap, e = .returned (.slice a ln cap) ∧ Reads w' a ln cap L) ∧ Below W.heap.size W w') := fun hb W => (refEB_any x ok (by rw [hbr]; exact hb) W Q HQ).mono (by
    rintro e w' ⟨v, rfl, hown, hbb⟩
    rw [← hL] at hown
    obtain ⟨a', c', rfl, hrd⟩ := reads_own hown
    rw [Hln.out]
    exact ⟨⟨a', c', rfl, hrd⟩, hbb⟩)
  have CV1 : Hid (∀ W a cap, Reads W a ln cap L → (convert 22 9 (.slice a ln cap)).run Tryz.prog W = .ok (.string T1) W) := fun W a cap h => by rw [HT1.out]; exact conv_reads h
  have CV2 : Hid (∀ W, Reads W a len cap bs → (convert 22 9 (.slice a len cap)).run Tryz.prog W = .ok (.string T2) W) := fun W h => by rw [HT2.out]; exact conv_reads h
  have hgood : (E = 0 ∧ br = true ∧ L = bs) → R = Q ∧ getEE bs = 0 := fun h => by
    have hg : getE bs = some x := by
      unfold getE
      rw [← hfs, ← hx, if_pos ⟨by rw [← hE]; exact h.1, by rw [hbr]; exact h.2.1, by rw [← hL]; exact h.2.2⟩]
    exact ⟨by rw [HR.out, HQ.out]; unfold getEO; rw [hg]; rfl, by unfold getEE; rw [hg]; rfl⟩
  have hbad : ¬ (E = 0 ∧ br = true ∧ L = bs) → R = Z ∧ getEE bs = 60 := fun h => by
    have hg : getE bs = none := by
      unfold getE
      rw [← hfs, ← hx, if_neg (by rintro ⟨q1, q2, q3⟩; exact h ⟨by rw [hE]; exact q1, by rw [← hbr]; exact q2, by rw [hL]; exact q3⟩)]
    exact ⟨by rw [HR.out, HZ.out]; unfold getEO; rw [hg]; rfl, by unfold getEE; rw [hg]; rfl⟩
  obtain ⟨GEE, hGE⟩ : ∃ z, z = getEE bs := ⟨_, rfl⟩
  rw [← hGE] at hgood hbad ⊢
  have HGOOD := hidk hgood
  have HBAD := hidk hbad
  have HEQ : Hid (L = bs → (T1.toList == T2.toList) = true) := fun h => by rw [HT1.out, HT2.out, h]; exact beq_self_eq_true _
  have HNE : Hid (L ≠ bs → (T1.toList == T2.toList) = false) := fun h => by rw [HT1.out, HT2.out]; exact text_ne (fun e => h (text_inj.1 e))
  have HRD := hidk hR
  clear hR HR hgood hbad hGE hfs hx hE hbr hL HQ HZ hnf ok HT1 HT2
  go_enter Tryz.func8, Tryz.ntmps8
  go_wp2_with (first
    | (show wpList _ _ _ ({ dst := some 2, op := _, type := _, pos := _, after := _, guard := _ } :: _) _ _; refine wpList_new_var rfl 37 rfl Z HA.out ?_; intro g2 w1 HM2; try simp only [Act.put, List.setIfInBounds_toArray, List.set_cons_zero, List.set_cons_succ])
    | fail)
  refine (RD.out _ HM2.out.below).mono ?_
  rintro e w2 ⟨a2, c2, rfl, hF2, hb2⟩
  have HF2 := hidk hF2
  have hg2 : w.heap.size ≤ g2 := Nat.le_of_eq HM2.out.new.symm
  have HB2 := hidk (HM2.out.below.trans (hb2.mono HM2.out.below.size))
  have HR2 := hidk ((hb2.block _ (heap_lt HM2.out.row)).trans HM2.out.row)
  clear hF2 hb2 HM2 RD
  go_wp2_with fail
  refine (GU.out _ _ _ HF2.out).mono ?_
  rintro e w3 ⟨rfl, hb3⟩
  have HB3 := hidk (HB2.out.trans (hb3.mono HB2.out.size))
  have HR3 := hidk ((hb3.block _ (heap_lt HR2.out)).trans HR2.out)
  clear hb3 HB2 HR2 HF2 GU
  go_wp2_with (first
    | (show wpList _ _ _ ({ dst := some 6, op := _, type := _, pos := _, after := _, guard := _ } :: _) _ _; refine wpList_new_var rfl 37 rfl Z HA.out ?_; intro g6 w4 HM6; try simp only [Act.put, List.setIfInBounds_toArray, List.set_cons_zero, List.set_cons_succ])
    | (refine wpList_set_var rfl 37 (.tmp 6) (.tmp 13) rfl g6 Q rfl rfl 37 Z HM6.out.row HSQ.out HZQ.out H1Q.out ?_; intro w5 HW6; try simp only [Act.put, List.setIfInBounds_toArray, List.set_cons_zero, List.set_cons_succ])
    | fail)
  have hg6 : g2 < g6 := by rw [HM6.out.new]; exact heap_lt HR3.out
  have HX5 := hidk (HW6.out.below w3.heap.size w3 HM6.out.below (Nat.le_of_eq HM6.out.new.symm))
  have HS5 : Hid (GR w g2 g6 Z Q a len cap bs w5.drew) := by
    have hb5 := HB3.out.trans (HX5.out.mono HB3.out.size)
    exact GR.keep ⟨hb5, (HX5.out.block _ (heap_lt HR3.out)).trans HR3.out, HW6.out.row, HRD.out.below hb5⟩ (Below.refl _ _).drew
  clear HM6 HW6 HX5 HB3 HR3 HRD
  by_cases hE0 : E = 0
  · subst hE0
    cases br
    · have HBD := hidk (HBAD.out (by simp))
      clear HBAD HGOOD
      refine wp_region_held_drew (S := (GR w g2 g6 Z Q a len cap bs)) (by kernel_rfl) HS5.out (fun hHeld => ?_)
      refine wpAnyH_take (i := 0) (oi := { dst := some 14, op := Op.move (Operand.tmp 5), type := 28, pos := "ref.go:118", after := #[], guard := none }) (v := .int .i64 0) rfl (by kernel_rfl) (by kernel_rfl) (by kernel_rfl) (fun _ _ _ h => h) (Or.inl ⟨by rfl, by intro W hSw; go_simp⟩) hHeld ?_
      try simp only [Act.put, List.setIfInBounds_toArray, List.set_cons_zero, List.set_cons_succ]
      refine wpAnyH_take (i := 1) (oi := { dst := some 15, op := Op.binOp BinOp.neq 28 (Operand.tmp 14) (Operand.const (Value.int IntKind.i64 0)) 28, type := 4, pos := "ref.go:118", after := #[{ on := 0, ground := Ground.data }], guard := none }) (v := .bool false) rfl (by kernel_rfl) (by kernel_rfl) (by kernel_rfl) (fun _ _ _ h => h) (Or.inl ⟨by rfl, by intro W hSw; go_simp⟩) hHeld ?_
      try simp only [Act.put, List.setIfInBounds_toArray, List.set_cons_zero, List.set_cons_succ]
      refine wpAnyH_take (i := 2) (oi := { dst := some 16, op := Op.move (Operand.tmp 15), type := 4, pos := "ref.go:118", after := #[{ on := 1, ground := Ground.data }], guard := none }) (v := .bool false) rfl (by kernel_rfl) (by kernel_rfl) (by kernel_rfl) (fun _ _ _ h => h) (Or.inl ⟨by rfl, by intro W hSw; go_simp⟩) hHeld ?_
      try simp only [Act.put, List.setIfInBounds_toArray, List.set_cons_zero, List.set_cons_succ]
      refine wpAnyH_take (i := 3) (oi := { dst := some 17, op := Op.load 37 (Operand.tmp 6), type := 37, pos := "ref.go:118", after := #[{ on := 2, ground := Ground.guard }], guard := some (2, false) }) (v := .agg Q) rfl (by kernel_rfl) (by kernel_rfl) (by kernel_rfl) (fun _ _ _ h => h) (yieldsIf_row (by rfl) 37 (.tmp 6) rfl g6 rfl 37 Q (0, 0) _ (fun _ h => h.r6) Tryz.underlying37 rfl HSQ.out) hHeld ?_
      try simp only [Act.put, List.setIfInBounds_toArray, List.set_cons_zero, List.set_cons_succ]
      refine wpAnyH_ready (rs := [4]) (by kernel_rfl) (by simp) ?_
      refine (AllReadyH.cons (o := { dst := some 18, op := Op.call { callee := Callee.value (Operand.func 27), args := #[Operand.tmp 17], argTypes := #[37] }, type := 4, pos := "ref.go:118", after := #[{ on := 3, ground := Ground.data }, { on := 2, ground := Ground.chain }, { on := 2, ground := Ground.guard }], guard := some (2, false) }) rfl (fun K hK => ?_) AllReadyH.nil)
      go_simp
      refine (RI.out _).mono ?_
      rintro e wr ⟨rfl, hbr⟩
      go_wp2_with fail
      refine hK.out _ _ (hHeld.keep hbr) (fun hHeld => ?_)
      clear hK K
      try simp only [Act.put, List.setIfInBounds_toArray, List.set_cons_zero, List.set_cons_succ]
      refine wpAnyH_take (i := 5) (oi := { dst := some 19, op := Op.unOp UnOp.not 4 (Operand.tmp 18), type := 4, pos := "ref.go:118", after := #[{ on := 4, ground := Ground.data }, { on := 2, ground := Ground.guard }], guard := some (2, false) }) (v := .bool true) rfl (by kernel_rfl) (by kernel_rfl) (by kernel_rfl) (fun _ _ _ h => h) (Or.inl ⟨by rfl, by intro W hSw; go_simp⟩) hHeld ?_
      try simp only [Act.put, List.setIfInBounds_toArray, List.set_cons_zero, List.set_cons_succ]
      refine wpAnyH_take (i := 6) (oi := { dst := some 20, op := Op.pick (Operand.tmp 16) (Operand.const (Value.bool true)) (Operand.tmp 19), type := 4, pos := "ref.go:118", after := #[{ on := 2, ground := Ground.data }, { on := 5, ground := Ground.data }], guard := none }) (v := .bool true) rfl (by kernel_rfl) (by kernel_rfl) (by kernel_rfl) (fun _ _ _ h => h) (Or.inl ⟨by rfl, by intro W hSw; go_simp⟩) hHeld ?_
      try simp only [Act.put, List.setIfInBounds_toArray, List.set_cons_zero, List.set_cons_succ]
      refine wpAnyH_take (i := 7) (oi := { dst := some 21, op := Op.move (Operand.tmp 20), type := 4, pos := "ref.go:118", after := #[{ on := 6, ground := Ground.data }, { on := 4, ground := Ground.chain }], guard := none }) (v := .bool true) rfl (by kernel_rfl) (by kernel_rfl) (by kernel_rfl) (fun _ _ _ h => h) (Or.inl ⟨by rfl, by intro W hSw; go_simp⟩) hHeld ?_
      try simp only [Act.put, List.setIfInBounds_toArray, List.set_cons_zero, List.set_cons_succ]
      refine wpAnyH_take (i := 8) (oi := { dst := some 22, op := Op.load 37 (Operand.tmp 6), type := 37, pos := "ref.go:118", after := #[{ on := 7, ground := Ground.guard }], guard := some (7, false) }) (v := undef) rfl (by kernel_rfl) (by kernel_rfl) (by kernel_rfl) (fun _ _ _ h => h) (Or.inr ⟨by rfl, rfl⟩) hHeld ?_
      try simp only [Act.put, List.setIfInBounds_toArray, List.set_cons_zero, List.set_cons_succ]
      refine wpAnyH_take (i := 9) (oi := { dst := some 23, op := Op.call { callee := Callee.value (Operand.func 28), args := #[Operand.tmp 22], argTypes := #[37] }, type := 22, pos := "ref.go:118", after := #[{ on := 8, ground := Ground.data }, { on := 7, ground := Ground.chain }, { on := 7, ground := Ground.guard }], guard := some (7, false) }) (v := undef) rfl (by kernel_rfl) (by kernel_rfl) (by kernel_rfl) (fun _ _ _ h => h) (Or.inr ⟨by rfl, rfl⟩) hHeld ?_
      try simp only [Act.put, List.setIfInBounds_toArray, List.set_cons_zero, List.set_cons_succ]
      refine wpAnyH_take (i := 10) (oi := { dst := some 24, op := Op.convert 22 9 (Operand.tmp 23), type := 9, pos := "ref.go:118", after := #[{ on := 9, ground := Ground.data }, { on := 7, ground := Ground.guard }], guard := some (7, false) }) (v := undef) rfl (by kernel_rfl) (by kernel_rfl) (by kernel_rfl) (fun _ _ _ h => h) (Or.inr ⟨by rfl, rfl⟩) hHeld ?_
      try simp only [Act.put, List.setIfInBounds_toArray, List.set_cons_zero, List.set_cons_succ]
      refine wpAnyH_take (i := 11) (oi := { dst := some 25, op := Op.move (Operand.tmp 0), type := 22, pos := "ref.go:118", after := #[{ on := 7, ground := Ground.guard }], guard := some (7, false) }) (v := undef) rfl (by kernel_rfl) (by kernel_rfl) (by kernel_rfl) (fun _ _ _ h => h) (Or.inr ⟨by rfl, rfl⟩) hHeld ?_
      try simp only [Act.put, List.setIfInBounds_toArray, List.set_cons_zero, List.set_cons_succ]
      refine wpAnyH_take (i := 12) (oi := { dst := some 26, op := Op.convert 22 9 (Operand.tmp 25), type := 9, pos := "ref.go:118", after := #[{ on := 11, ground := Ground.data }, { on := 7, ground := Ground.guard }], guard := some (7, false) }) (v := undef) rfl (by kernel_rfl) (by kernel_rfl) (by kernel_rfl) (fun _ _ _ h => h) (Or.inr ⟨by rfl, rfl⟩) hHeld ?_
      try simp only [Act.put, List.setIfInBounds_toArray, List.set_cons_zero, List.set_cons_succ]
      refine wpAnyH_take (i := 13) (oi := { dst := some 27, op := Op.binOp BinOp.neq 9 (Operand.tmp 24) (Operand.tmp 26) 9, type := 4, pos := "ref.go:118", after := #[{ on := 10, ground := Ground.data }, { on := 12, ground := Ground.data }, { on := 7, ground := Ground.guard }], guard := some (7, false) }) (v := undef) rfl (by kernel_rfl) (by kernel_rfl) (by kernel_rfl) (fun _ _ _ h => h) (Or.inr ⟨by rfl, rfl⟩) hHeld ?_
      try simp only [Act.put, List.setIfInBounds_toArray, List.set_cons_zero, List.set_cons_succ]
      refine wpAnyH_take (i := 14) (oi := { dst := some 28, op := Op.pick (Operand.tmp 21) (Operand.const (Value.bool true)) (Operand.tmp 27), type := 4, pos := "ref.go:118", after := #[{ on := 7, ground := Ground.data }, { on := 13, ground := Ground.data }], guard := none }) (v := .bool true) rfl (by kernel_rfl) (by kernel_rfl) (by kernel_rfl) (fun _ _ _ h => h) (Or.inl ⟨by rfl, by intro W hSw; go_simp⟩) hHeld ?_
      try simp only [Act.put, List.setIfInBounds_toArray, List.set_cons_zero, List.set_cons_succ]
      refine wpAnyH_done (by kernel_rfl) ?_ _
      have HS := hidk hHeld
      clear hHeld HS5
      go_wp2_with (first
        | (show wpList _ _ _ ({ dst := some 29, op := _, type := _, pos := _, after := _, guard := _ } :: _) _ _; refine wpList_build_none rfl 37 rfl Z HBE.out ?_; try simp only [Act.put, List.setIfInBounds_toArray, List.set_cons_zero, List.set_cons_succ])
        | (refine wpList_set_var rfl 37 (.tmp 2) (.tmp 29) rfl g2 Z rfl rfl 37 Z HS.out.r2 HSZ.out rfl H1Z.out ?_; intro wz HW2; try simp only [Act.put, List.setIfInBounds_toArray, List.set_cons_zero, List.set_cons_succ])
        | fail)
      refine bodyPost_ret (v := .tuple #[.agg R, .int .i64 GEE]) ?_ rfl ⟨rfl, HW2.out.below w.heap.size w HS.out.below hg2⟩
      rw [HBD.out.1, HBD.out.2]
      exact results_row_tmp (p := 2) (q := 3) (ty := 37) rfl _ _ g2 37 Z (0, 0) _ rfl HW2.out.row Tryz.underlying37 rfl HSZ.out
    · by_cases hLb : L = bs
      · have HBD := hidk (HGOOD.out ⟨rfl, rfl, hLb⟩)
        clear HBAD HGOOD
        have HT12 := hidk (HEQ.out hLb)
        refine wp_region_held_drew (S := (GR w g2 g6 Z Q a len cap bs)) (by kernel_rfl) HS5.out (fun hHeld => ?_)
        refine wpAnyH_take (i := 0) (oi := { dst := some 14, op := Op.move (Operand.tmp 5), type := 28, pos := "ref.go:118", after := #[], guard := none }) (v := .int .i64 0) rfl (by kernel_rfl) (by kernel_rfl) (by kernel_rfl) (fun _ _ _ h => h) (Or.inl ⟨by rfl, by intro W hSw; go_simp⟩) hHeld ?_
        try simp only [Act.put, List.setIfInBounds_toArray, List.set_cons_zero, List.set_cons_succ]
        refine wpAnyH_take (i := 1) (oi := { dst := some 15, op := Op.binOp BinOp.neq 28 (Operand.tmp 14) (Operand.const (Value.int IntKind.i64 0)) 28, type := 4, pos := "ref.go:118", after := #[{ on := 0, ground := Ground.data }], guard := none }) (v := .bool false) rfl (by kernel_rfl) (by kernel_rfl) (by kernel_rfl) (fun _ _ _ h => h) (Or.inl ⟨by rfl, by intro W hSw; go_simp⟩) hHeld ?_
        try simp only [Act.put, List.setIfInBounds_toArray, List.set_cons_zero, List.set_cons_succ]
        refine wpAnyH_take (i := 2) (oi := { dst := some 16, op := Op.move (Operand.tmp 15), type := 4, pos := "ref.go:118", after := #[{ on := 1, ground := Ground.data }], guard := none }) (v := .bool false) rfl (by kernel_rfl) (by kernel_rfl) (by kernel_rfl) (fun _ _ _ h => h) (Or.inl ⟨by rfl, by intro W hSw; go_simp⟩) hHeld ?_
        try simp only [Act.put, List.setIfInBounds_toArray, List.set_cons_zero, List.set_cons_succ]
        refine wpAnyH_take (i := 3) (oi := { dst := some 17, op := Op.load 37 (Operand.tmp 6), type := 37, pos := "ref.go:118", after := #[{ on := 2, ground := Ground.guard }], guard := some (2, false) }) (v := .agg Q) rfl (by kernel_rfl) (by kernel_rfl) (by kernel_rfl) (fun _ _ _ h => h) (yieldsIf_row (by rfl) 37 (.tmp 6) rfl g6 rfl 37 Q (0, 0) _ (fun _ h => h.r6) Tryz.underlying37 rfl HSQ.out) hHeld ?_
        try simp only [Act.put, List.setIfInBounds_toArray, List.set_cons_zero, List.set_cons_succ]
        refine wpAnyH_ready (rs := [4]) (by kernel_rfl) (by simp) ?_
        refine (AllReadyH.cons (o := { dst := some 18, op := Op.call { callee := Callee.value (Operand.func 27), args := #[Operand.tmp 17], argTypes := #[37] }, type := 4, pos := "ref.go:118", after := #[{ on := 3, ground := Ground.data }, { on := 2, ground := Ground.chain }, { on := 2, ground := Ground.guard }], guard := some (2, false) }) rfl (fun K hK => ?_) AllReadyH.nil)
        go_simp
        refine (RI.out _).mono ?_
        rintro e wr ⟨rfl, hbr⟩
        go_wp2_with fail
        refine hK.out _ _ (hHeld.keep hbr) (fun hHeld => ?_)
        clear hK K
        try simp only [Act.put, List.setIfInBounds_toArray, List.set_cons_zero, List.set_cons_succ]
        refine wpAnyH_take (i := 5) (oi := { dst := some 19, op := Op.unOp UnOp.not 4 (Operand.tmp 18), type := 4, pos := "ref.go:118", after := #[{ on := 4, ground := Ground.data }, { on := 2, ground := Ground.guard }], guard := some (2, false) }) (v := .bool false) rfl (by kernel_rfl) (by kernel_rfl) (by kernel_rfl) (fun _ _ _ h => h) (Or.inl ⟨by rfl, by intro W hSw; go_simp⟩) hHeld ?_
        try simp only [Act.put, List.setIfInBounds_toArray, List.set_cons_zero, List.set_cons_succ]
        refine wpAnyH_take (i := 6) (oi := { dst := some 20, op := Op.pick (Operand.tmp 16) (Operand.const (Value.bool true)) (Operand.tmp 19), type := 4, pos := "ref.go:118", after := #[{ on := 2, ground := Ground.data }, { on := 5, ground := Ground.data }], guard := none }) (v := .bool false) rfl (by kernel_rfl) (by kernel_rfl) (by kernel_rfl) (fun _ _ _ h => h) (Or.inl ⟨by rfl, by intro W hSw; go_simp⟩) hHeld ?_
        try simp only [Act.put, List.setIfInBounds_toArray, List.set_cons_zero, List.set_cons_succ]
        refine wpAnyH_take (i := 7) (oi := { dst := some 21, op := Op.move (Operand.tmp 20), type := 4, pos := "ref.go:118", after := #[{ on := 6, ground := Ground.data }, { on := 4, ground := Ground.chain }], guard := none }) (v := .bool false) rfl (by kernel_rfl) (by kernel_rfl) (by kernel_rfl) (fun _ _ _ h => h) (Or.inl ⟨by rfl, by intro W hSw; go_simp⟩) hHeld ?_
        try simp only [Act.put, List.setIfInBounds_toArray, List.set_cons_zero, List.set_cons_succ]
        refine wpAnyH_take (i := 8) (oi := { dst := some 22, op := Op.load 37 (Operand.tmp 6), type := 37, pos := "ref.go:118", after := #[{ on := 7, ground := Ground.guard }], guard := some (7, false) }) (v := .agg Q) rfl (by kernel_rfl) (by kernel_rfl) (by kernel_rfl) (fun _ _ _ h => h) (yieldsIf_row (by rfl) 37 (.tmp 6) rfl g6 rfl 37 Q (0, 0) _ (fun _ h => h.r6) Tryz.underlying37 rfl HSQ.out) hHeld ?_
        try simp only [Act.put, List.setIfInBounds_toArray, List.set_cons_zero, List.set_cons_succ]
        refine wpAnyH_take (i := 11) (oi := { dst := some 25, op := Op.move (Operand.tmp 0), type := 22, pos := "ref.go:118", after := #[{ on := 7, ground := Ground.guard }], guard := some (7, false) }) (v := .slice a len cap) rfl (by kernel_rfl) (by kernel_rfl) (by kernel_rfl) (fun _ _ _ h => h) (Or.inl ⟨by rfl, by intro W hSw; go_simp⟩) hHeld ?_
        try simp only [Act.put, List.setIfInBounds_toArray, List.set_cons_zero, List.set_cons_succ]
        refine wpAnyH_take (i := 12) (oi := { dst := some 26, op := Op.convert 22 9 (Operand.tmp 25), type := 9, pos := "ref.go:118", after := #[{ on := 11, ground := Ground.data }, { on := 7, ground := Ground.guard }], guard := some (7, false) }) (v := .string T2) rfl (by kernel_rfl) (by kernel_rfl) (by kernel_rfl) (fun _ _ _ h => h) (Or.inl ⟨by rfl, by intro W hSw; have := CV2.out W hSw.rd; go_simp⟩) hHeld ?_
        try simp only [Act.put, List.setIfInBounds_toArray, List.set_cons_zero, List.set_cons_succ]
        refine wpAnyH_ready (rs := [9]) (by kernel_rfl) (by simp) ?_
        refine (AllReadyH.cons (o := { dst := some 23, op := Op.call { callee := Callee.value (Operand.func 28), args := #[Operand.tmp 22], argTypes := #[37] }, type := 22, pos := "ref.go:118", after := #[{ on := 8, ground := Ground.data }, { on := 7, ground := Ground.chain }, { on := 7, ground := Ground.guard }], guard := some (7, false) }) rfl (fun K hK => ?_) AllReadyH.nil)
        go_simp
        refine (BY.out (by trivial) _).mono ?_
        rintro e ws ⟨⟨ab, cb, rfl, hrb⟩, hbs⟩
        have HV := hidk hrb
        go_wp2_with fail
        refine hK.out _ _ (hHeld.keep hbs) (fun hHeld => ?_)
        clear hK K
        try simp only [Act.put, List.setIfInBounds_toArray, List.set_cons_zero, List.set_cons_succ]
        refine wpAnyH_ready (rs := [10]) (by kernel_rfl) (by simp) ?_
        refine (AllReadyH.cons (o := { dst := some 24, op := Op.convert 22 9 (Operand.tmp 23), type := 9, pos := "ref.go:118", after := #[{ on := 9, ground := Ground.data }, { on := 7, ground := Ground.guard }], guard := some (7, false) }) rfl (fun K hK => ?_) AllReadyH.nil)
        have hcv := CV1.out _ _ _ HV.out
        go_simp
        clear hcv
        refine hK.out _ _ hHeld (fun hHeld => ?_)
        clear hK K
        try simp only [Act.put, List.setIfInBounds_toArray, List.set_cons_zero, List.set_cons_succ]
        refine wpAnyH_take (i := 13) (oi := { dst := some 27, op := Op.binOp BinOp.neq 9 (Operand.tmp 24) (Operand.tmp 26) 9, type := 4, pos := "ref.go:118", after := #[{ on := 10, ground := Ground.data }, { on := 12, ground := Ground.data }, { on := 7, ground := Ground.guard }], guard := some (7, false) }) (v := .bool false) rfl (by kernel_rfl) (by kernel_rfl) (by kernel_rfl) (fun _ _ _ h => h) (Or.inl ⟨by rfl, by intro W hSw; have := HT12.out; go_simp⟩) hHeld ?_
        try simp only [Act.put, List.setIfInBounds_toArray, List.set_cons_zero, List.set_cons_succ]
        refine wpAnyH_take (i := 14) (oi := { dst := some 28, op := Op.pick (Operand.tmp 21) (Operand.const (Value.bool true)) (Operand.tmp 27), type := 4, pos := "ref.go:118", after := #[{ on := 7, ground := Ground.data }, { on := 13, ground := Ground.data }], guard := none }) (v := .bool false) rfl (by kernel_rfl) (by kernel_rfl) (by kernel_rfl) (fun _ _ _ h => h) (Or.inl ⟨by rfl, by intro W hSw; go_simp⟩) hHeld ?_
        try simp only [Act.put, List.setIfInBounds_toArray, List.set_cons_zero, List.set_cons_succ]
        refine wpAnyH_done (by kernel_rfl) ?_ _
        have HS := hidk hHeld
        clear hHeld HS5
        go_wp2_with (first
          | (show wpList _ _ _ ({ dst := some 30, op := _, type := _, pos := _, after := _, guard := _ } :: _) _ _; refine wpList_load_row rfl 37 (.tmp 6) rfl g6 rfl 37 Q (0, 0) _ HS.out.r6 Tryz.underlying37 rfl HSQ.out ?_; try simp only [Act.put, List.setIfInBounds_toArray, List.set_cons_zero, List.set_cons_succ])
          | (refine wpList_set_var rfl 37 (.tmp 2) (.tmp 30) rfl g2 Q rfl rfl 37 Z HS.out.r2 HSQ.out HZQ.out H1Q.out ?_; intro wz HW2; try simp only [Act.put, List.setIfInBounds_toArray, List.set_cons_zero, List.set_cons_succ])
          | fail)
        refine bodyPost_ret (v := .tuple #[.agg R, .int .i64 GEE]) ?_ rfl ⟨rfl, HW2.out.below w.heap.size w HS.out.below hg2⟩
        rw [HBD.out.1, HBD.out.2]
        exact results_row_tmp (p := 2) (q := 3) (ty := 37) rfl _ _ g2 37 Q (0, 0) _ rfl HW2.out.row Tryz.underlying37 rfl HSQ.out
      · have HBD := hidk (HBAD.out (by rintro ⟨_, _, h⟩; exact hLb h))
        clear HBAD HGOOD
        have hne := HNE.out hLb
        refine wp_region_held_drew (S := (GR w g2 g6 Z Q a len cap bs)) (by kernel_rfl) HS5.out (fun hHeld => ?_)
        refine wpAnyH_take (i := 0) (oi := { dst := some 14, op := Op.move (Operand.tmp 5), type := 28, pos := "ref.go:118", after := #[], guard := none }) (v := .int .i64 0) rfl (by kernel_rfl) (by kernel_rfl) (by kernel_rfl) (fun _ _ _ h => h) (Or.inl ⟨by rfl, by intro W hSw; go_simp⟩) hHeld ?_
        try simp only [Act.put, List.setIfInBounds_toArray, List.set_cons_zero, List.set_cons_succ]
        refine wpAnyH_take (i := 1) (oi := { dst := some 15, op := Op.binOp BinOp.neq 28 (Operand.tmp 14) (Operand.const (Value.int IntKind.i64 0)) 28, type := 4, pos := "ref.go:118", after := #[{ on := 0, ground := Ground.data }], guard := none }) (v := .bool false) rfl (by kernel_rfl) (by kernel_rfl) (by kernel_rfl) (fun _ _ _ h => h) (Or.inl ⟨by rfl, by intro W hSw; go_simp⟩) hHeld ?_
        try simp only [Act.put, List.setIfInBounds_toArray, List.set_cons_zero, List.set_cons_succ]
        refine wpAnyH_take (i := 2) (oi := { dst := some 16, op := Op.move (Operand.tmp 15), type := 4, pos := "ref.go:118", after := #[{ on := 1, ground := Ground.data }], guard := none }) (v := .bool false) rfl (by kernel_rfl) (by kernel_rfl) (by kernel_rfl) (fun _ _ _ h => h) (Or.inl ⟨by rfl, by intro W hSw; go_simp⟩) hHeld ?_
        try simp only [Act.put, List.setIfInBounds_toArray, List.set_cons_zero, List.set_cons_succ]
        refine wpAnyH_take (i := 3) (oi := { dst := some 17, op := Op.load 37 (Operand.tmp 6), type := 37, pos := "ref.go:118", after := #[{ on := 2, ground := Ground.guard }], guard := some (2, false) }) (v := .agg Q) rfl (by kernel_rfl) (by kernel_rfl) (by kernel_rfl) (fun _ _ _ h => h) (yieldsIf_row (by rfl) 37 (.tmp 6) rfl g6 rfl 37 Q (0, 0) _ (fun _ h => h.r6) Tryz.underlying37 rfl HSQ.out) hHeld ?_
        try simp only [Act.put, List.setIfInBounds_toArray, List.set_cons_zero, List.set_cons_succ]
        refine wpAnyH_ready (rs := [4]) (by kernel_rfl) (by simp) ?_
        refine (AllReadyH.cons (o := { dst := some 18, op := Op.call { callee := Callee.value (Operand.func 27), args := #[Operand.tmp 17], argTypes := #[37] }, type := 4, pos := "ref.go:118", after := #[{ on := 3, ground := Ground.data }, { on := 2, ground := Ground.chain }, { on := 2, ground := Ground.guard }], guard := some (2, false) }) rfl (fun K hK => ?_) AllReadyH.nil)
        go_simp
        refine (RI.out _).mono ?_
        rintro e wr ⟨rfl, hbr⟩
        go_wp2_with fail
        refine hK.out _ _ (hHeld.keep hbr) (fun hHeld => ?_)
        clear hK K
        try simp only [Act.put, List.setIfInBounds_toArray, List.set_cons_zero, List.set_cons_succ]
        refine wpAnyH_take (i := 5) (oi := { dst := some 19, op := Op.unOp UnOp.not 4 (Operand.tmp 18), type := 4, pos := "ref.go:118", after := #[{ on := 4, ground := Ground.data }, { on := 2, ground := Ground.guard }], guard := some (2, false) }) (v := .bool false) rfl (by kernel_rfl) (by kernel_rfl) (by kernel_rfl) (fun _ _ _ h => h) (Or.inl ⟨by rfl, by intro W hSw; go_simp⟩) hHeld ?_
        try simp only [Act.put, List.setIfInBounds_toArray, List.set_cons_zero, List.set_cons_succ]
        refine wpAnyH_take (i := 6) (oi := { dst := some 20, op := Op.pick (Operand.tmp 16) (Operand.const (Value.bool true)) (Operand.tmp 19), type := 4, pos := "ref.go:118", after := #[{ on := 2, ground := Ground.data }, { on := 5, ground := Ground.data }], guard := none }) (v := .bool false) rfl (by kernel_rfl) (by kernel_rfl) (by kernel_rfl) (fun _ _ _ h => h) (Or.inl ⟨by rfl, by intro W hSw; go_simp⟩) hHeld ?_
        try simp only [Act.put, List.setIfInBounds_toArray, List.set_cons_zero, List.set_cons_succ]
        refine wpAnyH_take (i := 7) (oi := { dst := some 21, op := Op.move (Operand.tmp 20), type := 4, pos := "ref.go:118", after := #[{ on := 6, ground := Ground.data }, { on := 4, ground := Ground.chain }], guard := none }) (v := .bool false) rfl (by kernel_rfl) (by kernel_rfl) (by kernel_rfl) (fun _ _ _ h => h) (Or.inl ⟨by rfl, by intro W hSw; go_simp⟩) hHeld ?_
        try simp only [Act.put, List.setIfInBounds_toArray, List.set_cons_zero, List.set_cons_succ]
        refine wpAnyH_take (i := 8) (oi := { dst := some 22, op := Op.load 37 (Operand.tmp 6), type := 37, pos := "ref.go:118", after := #[{ on := 7, ground := Ground.guard }], guard := some (7, false) }) (v := .agg Q) rfl (by kernel_rfl) (by kernel_rfl) (by kernel_rfl) (fun _ _ _ h => h) (yieldsIf_row (by rfl) 37 (.tmp 6) rfl g6 rfl 37 Q (0, 0) _ (fun _ h => h.r6) Tryz.underlying37 rfl HSQ.out) hHeld ?_
        try simp only [Act.put, List.setIfInBounds_toArray, List.set_cons_zero, List.set_cons_succ]
        refine wpAnyH_take (i := 11) (oi := { dst := some 25, op := Op.move (Operand.tmp 0), type := 22, pos := "ref.go:118", after := #[{ on := 7, ground := Ground.guard }], guard := some (7, false) }) (v := .slice a len cap) rfl (by kernel_rfl) (by kernel_rfl) (by kernel_rfl) (fun _ _ _ h => h) (Or.inl ⟨by rfl, by intro W hSw; go_simp⟩) hHeld ?_
        try simp only [Act.put, List.setIfInBounds_toArray, List.set_cons_zero, List.set_cons_succ]
        refine wpAnyH_take (i := 12) (oi := { dst := some 26, op := Op.convert 22 9 (Operand.tmp 25), type := 9, pos := "ref.go:118", after := #[{ on := 11, ground := Ground.data }, { on := 7, ground := Ground.guard }], guard := some (7, false) }) (v := .string T2) rfl (by kernel_rfl) (by kernel_rfl) (by kernel_rfl) (fun _ _ _ h => h) (Or.inl ⟨by rfl, by intro W hSw; have := CV2.out W hSw.rd; go_simp⟩) hHeld ?_
        try simp only [Act.put, List.setIfInBounds_toArray, List.set_cons_zero, List.set_cons_succ]
        refine wpAnyH_ready (rs := [9]) (by kernel_rfl) (by simp) ?_
        refine (AllReadyH.cons (o := { dst := some 23, op := Op.call { callee := Callee.value (Operand.func 28), args := #[Operand.tmp 22], argTypes := #[37] }, type := 22, pos := "ref.go:118", after := #[{ on := 8, ground := Ground.data }, { on := 7, ground := Ground.chain }, { on := 7, ground := Ground.guard }], guard := some (7, false) }) rfl (fun K hK => ?_) AllReadyH.nil)
        go_simp
        refine (BY.out (by trivial) _).mono ?_
        rintro e ws ⟨⟨ab, cb, rfl, hrb⟩, hbs⟩
        have HV := hidk hrb
        go_wp2_with fail
        refine hK.out _ _ (hHeld.keep hbs) (fun hHeld => ?_)
        clear hK K
        try simp only [Act.put, List.setIfInBounds_toArray, List.set_cons_zero, List.set_cons_succ]
        refine wpAnyH_ready (rs := [10]) (by kernel_rfl) (by simp) ?_
        refine (AllReadyH.cons (o := { dst := some 24, op := Op.convert 22 9 (Operand.tmp 23), type := 9, pos := "ref.go:118", after := #[{ on := 9, ground := Ground.data }, { on := 7, ground := Ground.guard }], guard := some (7, false) }) rfl (fun K hK => ?_) AllReadyH.nil)
        have hcv := CV1.out _ _ _ HV.out
        go_simp
        clear hcv
        refine hK.out _ _ hHeld (fun hHeld => ?_)
        clear hK K
        try simp only [Act.put, List.setIfInBounds_toArray, List.set_cons_zero, List.set_cons_succ]
        refine wpAnyH_take (i := 13) (oi := { dst := some 27, op := Op.binOp BinOp.neq 9 (Operand.tmp 24) (Operand.tmp 26) 9, type := 4, pos := "ref.go:118", after := #[{ on := 10, ground := Ground.data }, { on := 12, ground := Ground.data }, { on := 7, ground := Ground.guard }], guard := some (7, false) }) (v := .bool true) rfl (by kernel_rfl) (by kernel_rfl) (by kernel_rfl) (fun _ _ _ h => h) (Or.inl ⟨by rfl, by intro W hSw; go_simp⟩) hHeld ?_
        try simp only [Act.put, List.setIfInBounds_toArray, List.set_cons_zero, List.set_cons_succ]
        refine wpAnyH_take (i := 14) (oi := { dst := some 28, op := Op.pick (Operand.tmp 21) (Operand.const (Value.bool true)) (Operand.tmp 27), type := 4, pos := "ref.go:118", after := #[{ on := 7, ground := Ground.data }, { on := 13, ground := Ground.data }], guard := none }) (v := .bool true) rfl (by kernel_rfl) (by kernel_rfl) (by kernel_rfl) (fun _ _ _ h => h) (Or.inl ⟨by rfl, by intro W hSw; go_simp⟩) hHeld ?_
        try simp only [Act.put, List.setIfInBounds_toArray, List.set_cons_zero, List.set_cons_succ]
        refine wpAnyH_done (by kernel_rfl) ?_ _
        have HS := hidk hHeld
        clear hHeld HS5
        go_wp2_with (first
          | (show wpList _ _ _ ({ dst := some 29, op := _, type := _, pos := _, after := _, guard := _ } :: _) _ _; refine wpList_build_none rfl 37 rfl Z HBE.out ?_; try simp only [Act.put, List.setIfInBounds_toArray, List.set_cons_zero, List.set_cons_succ])
          | (refine wpList_set_var rfl 37 (.tmp 2) (.tmp 29) rfl g2 Z rfl rfl 37 Z HS.out.r2 HSZ.out rfl H1Z.out ?_; intro wz HW2; try simp only [Act.put, List.setIfInBounds_toArray, List.set_cons_zero, List.set_cons_succ])
          | fail)
        refine bodyPost_ret (v := .tuple #[.agg R, .int .i64 GEE]) ?_ rfl ⟨rfl, HW2.out.below w.heap.size w HS.out.below hg2⟩
        rw [HBD.out.1, HBD.out.2]
        exact results_row_tmp (p := 2) (q := 3) (ty := 37) rfl _ _ g2 37 Z (0, 0) _ rfl HW2.out.row Tryz.underlying37 rfl HSZ.out
  · have HBD := hidk (HBAD.out (by rintro ⟨h, _, _⟩; exact hE0 h))
    clear HBAD HGOOD
    have e0 : ((E : Int) != 0) = true := by rw [bne_iff_ne]; omega
    have e1 : decide ((E : Int) = 0) = false := by rw [decide_eq_false_iff_not]; omega
    have e2 : decide (E = 0) = false := by rw [decide_eq_false_iff_not]; exact hE0
    refine wp_region_held_drew (S := (GR w g2 g6 Z Q a len cap bs)) (by kernel_rfl) HS5.out (fun hHeld => ?_)
    refine wpAnyH_take (i := 0) (oi := { dst := some 14, op := Op.move (Operand.tmp 5), type := 28, pos := "ref.go:118", after := #[], guard := none }) (v := .int .i64 (E : Int)) rfl (by kernel_rfl) (by kernel_rfl) (by kernel_rfl) (fun _ _ _ h => h) (Or.inl ⟨by rfl, by intro W hSw; go_simp⟩) hHeld ?_
    try simp only [Act.put, List.setIfInBounds_toArray, List.set_cons_zero, List.set_cons_succ]
    refine wpAnyH_take (i := 1) (oi := { dst := some 15, op := Op.binOp BinOp.neq 28 (Operand.tmp 14) (Operand.const (Value.int IntKind.i64 0)) 28, type := 4, pos := "ref.go:118", after := #[{ on := 0, ground := Ground.data }], guard := none }) (v := .bool true) rfl (by kernel_rfl) (by kernel_rfl) (by kernel_rfl) (fun _ _ _ h => h) (Or.inl ⟨by rfl, by intro W hSw; go_simp⟩) hHeld ?_
    try simp only [Act.put, List.setIfInBounds_toArray, List.set_cons_zero, List.set_cons_succ]
    refine wpAnyH_take (i := 2) (oi := { dst := some 16, op := Op.move (Operand.tmp 15), type := 4, pos := "ref.go:118", after := #[{ on := 1, ground := Ground.data }], guard := none }) (v := .bool true) rfl (by kernel_rfl) (by kernel_rfl) (by kernel_rfl) (fun _ _ _ h => h) (Or.inl ⟨by rfl, by intro W hSw; go_simp⟩) hHeld ?_
    try simp only [Act.put, List.setIfInBounds_toArray, List.set_cons_zero, List.set_cons_succ]
    refine wpAnyH_take (i := 3) (oi := { dst := some 17, op := Op.load 37 (Operand.tmp 6), type := 37, pos := "ref.go:118", after := #[{ on := 2, ground := Ground.guard }], guard := some (2, false) }) (v := undef) rfl (by kernel_rfl) (by kernel_rfl) (by kernel_rfl) (fun _ _ _ h => h) (Or.inr ⟨by rfl, rfl⟩) hHeld ?_
    try simp only [Act.put, List.setIfInBounds_toArray, List.set_cons_zero, List.set_cons_succ]
    refine wpAnyH_take (i := 4) (oi := { dst := some 18, op := Op.call { callee := Callee.value (Operand.func 27), args := #[Operand.tmp 17], argTypes := #[37] }, type := 4, pos := "ref.go:118", after := #[{ on := 3, ground := Ground.data }, { on := 2, ground := Ground.chain }, { on := 2, ground := Ground.guard }], guard := some (2, false) }) (v := undef) rfl (by kernel_rfl) (by kernel_rfl) (by kernel_rfl) (fun _ _ _ h => h) (Or.inr ⟨by rfl, rfl⟩) hHeld ?_
    try simp only [Act.put, List.setIfInBounds_toArray, List.set_cons_zero, List.set_cons_succ]
    refine wpAnyH_take (i := 5) (oi := { dst := some 19, op := Op.unOp UnOp.not 4 (Operand.tmp 18), type := 4, pos := "ref.go:118", after := #[{ on := 4, ground := Ground.data }, { on := 2, ground := Ground.guard }], guard := some (2, false) }) (v := undef) rfl (by kernel_rfl) (by kernel_rfl) (by kernel_rfl) (fun _ _ _ h => h) (Or.inr ⟨by rfl, rfl⟩) hHeld ?_
    try simp only [Act.put, List.setIfInBounds_toArray, List.set_cons_zero, List.set_cons_succ]
    refine wpAnyH_take (i := 6) (oi := { dst := some 20, op := Op.pick (Operand.tmp 16) (Operand.const (Value.bool true)) (Operand.tmp 19), type := 4, pos := "ref.go:118", after := #[{ on := 2, ground := Ground.data }, { on := 5, ground := Ground.data }], guard := none }) (v := .bool true) rfl (by kernel_rfl) (by kernel_rfl) (by kernel_rfl) (fun _ _ _ h => h) (Or.inl ⟨by rfl, by intro W hSw; go_simp⟩) hHeld ?_
    try simp only [Act.put, List.setIfInBounds_toArray, List.set_cons_zero, List.set_cons_succ]
    refine wpAnyH_take (i := 7) (oi := { dst := some 21, op := Op.move (Operand.tmp 20), type := 4, pos := "ref.go:118", after := #[{ on := 6, ground := Ground.data }, { on := 4, ground := Ground.chain }], guard := none }) (v := .bool true) rfl (by kernel_rfl) (by kernel_rfl) (by kernel_rfl) (fun _ _ _ h => h) (Or.inl ⟨by rfl, by intro W hSw; go_simp⟩) hHeld ?_
    try simp only [Act.put, List.setIfInBounds_toArray, List.set_cons_zero, List.set_cons_succ]
    refine wpAnyH_take (i := 8) (oi := { dst := some 22, op := Op.load 37 (Operand.tmp 6), type := 37, pos := "ref.go:118", after := #[{ on := 7, ground := Ground.guard }], guard := some (7, false) }) (v := undef) rfl (by kernel_rfl) (by kernel_rfl) (by kernel_rfl) (fun _ _ _ h => h) (Or.inr ⟨by rfl, rfl⟩) hHeld ?_
    try simp only [Act.put, List.setIfInBounds_toArray, List.set_cons_zero, List.set_cons_succ]
    refine wpAnyH_take (i := 9) (oi := { dst := some 23, op := Op.call { callee := Callee.value (Operand.func 28), args := #[Operand.tmp 22], argTypes := #[37] }, type := 22, pos := "ref.go:118", after := #[{ on := 8, ground := Ground.data }, { on := 7, ground := Ground.chain }, { on := 7, ground := Ground.guard }], guard := some (7, false) }) (v := undef) rfl (by kernel_rfl) (by kernel_rfl) (by kernel_rfl) (fun _ _ _ h => h) (Or.inr ⟨by rfl, rfl⟩) hHeld ?_
    try simp only [Act.put, List.setIfInBounds_toArray, List.set_cons_zero, List.set_cons_succ]
    refine wpAnyH_take (i := 10) (oi := { dst := some 24, op := Op.convert 22 9 (Operand.tmp 23), type := 9, pos := "ref.go:118", after := #[{ on := 9, ground := Ground.data }, { on := 7, ground := Ground.guard }], guard := some (7, false) }) (v := undef) rfl (by kernel_rfl) (by kernel_rfl) (by kernel_rfl) (fun _ _ _ h => h) (Or.inr ⟨by rfl, rfl⟩) hHeld ?_
    try simp only [Act.put, List.setIfInBounds_toArray, List.set_cons_zero, List.set_cons_succ]
    refine wpAnyH_take (i := 11) (oi := { dst := some 25, op := Op.move (Operand.tmp 0), type := 22, pos := "ref.go:118", after := #[{ on := 7, ground := Ground.guard }], guard := some (7, false) }) (v := undef) rfl (by kernel_rfl) (by kernel_rfl) (by kernel_rfl) (fun _ _ _ h => h) (Or.inr ⟨by rfl, rfl⟩) hHeld ?_
    try simp only [Act.put, List.setIfInBounds_toArray, List.set_cons_zero, List.set_cons_succ]
    refine wpAnyH_take (i := 12) (oi := { dst := some 26, op := Op.convert 22 9 (Operand.tmp 25), type := 9, pos := "ref.go:118", after := #[{ on := 11, ground := Ground.data }, { on := 7, ground := Ground.guard }], guard := some (7, false) }) (v := undef) rfl (by kernel_rfl) (by kernel_rfl) (by kernel_rfl) (fun _ _ _ h => h) (Or.inr ⟨by rfl, rfl⟩) hHeld ?_
    try simp only [Act.put, List.setIfInBounds_toArray, List.set_cons_zero, List.set_cons_succ]
    refine wpAnyH_take (i := 13) (oi := { dst := some 27, op := Op.binOp BinOp.neq 9 (Operand.tmp 24) (Operand.tmp 26) 9, type := 4, pos := "ref.go:118", after := #[{ on := 10, ground := Ground.data }, { on := 12, ground := Ground.data }, { on := 7, ground := Ground.guard }], guard := some (7, false) }) (v := undef) rfl (by kernel_rfl) (by kernel_rfl) (by kernel_rfl) (fun _ _ _ h => h) (Or.inr ⟨by rfl, rfl⟩) hHeld ?_
    try simp only [Act.put, List.setIfInBounds_toArray, List.set_cons_zero, List.set_cons_succ]
    refine wpAnyH_take (i := 14) (oi := { dst := some 28, op := Op.pick (Operand.tmp 21) (Operand.const (Value.bool true)) (Operand.tmp 27), type := 4, pos := "ref.go:118", after := #[{ on := 7, ground := Ground.data }, { on := 13, ground := Ground.data }], guard := none }) (v := .bool true) rfl (by kernel_rfl) (by kernel_rfl) (by kernel_rfl) (fun _ _ _ h => h) (Or.inl ⟨by rfl, by intro W hSw; go_simp⟩) hHeld ?_
    try simp only [Act.put, List.setIfInBounds_toArray, List.set_cons_zero, List.set_cons_succ]
    refine wpAnyH_done (by kernel_rfl) ?_ _
    have HS := hidk hHeld
    clear hHeld HS5
    go_wp2_with (first
      | (show wpList _ _ _ ({ dst := some 29, op := _, type := _, pos := _, after := _, guard := _ } :: _) _ _; refine wpList_build_none rfl 37 rfl Z HBE.out ?_; try simp only [Act.put, List.setIfInBounds_toArray, List.set_cons_zero, List.set_cons_succ])
      | (refine wpList_set_var rfl 37 (.tmp 2) (.tmp 29) rfl g2 Z rfl rfl 37 Z HS.out.r2 HSZ.out rfl H1Z.out ?_; intro wz HW2; try simp only [Act.put, List.setIfInBounds_toArray, List.set_cons_zero, List.set_cons_succ])
      | fail)
    refine bodyPost_ret (v := .tuple #[.agg R, .int .i64 GEE]) ?_ rfl ⟨rfl, HW2.out.below w.heap.size w HS.out.below hg2⟩
    rw [HBD.out.1, HBD.out.2]
    exact results_row_tmp (p := 2) (q := 3) (ty := 37) rfl _ _ g2 37 Z (0, 0) _ rfl HW2.out.row Tryz.underlying37 rfl HSZ.out
end Go.Proofs.YtgkfodmccfnaoaaGreatDoor

/- What the program takes of a row, and that it is the thing whose bytes these are if it is laid as them. -/
namespace Go.Proofs.YtgkfodmccfnaoaaGreatDoor
open Nums Sums
set_option linter.unusedVariables false
set_option maxRecDepth 100000
/-- The data of the first field of a tag. -/
def fdD (tag : Int) : List (Int × ByteArray) → ByteArray
  | [] => ⟨#[]⟩
  | f :: r => if f.1 = tag then f.2 else fdD tag r
theorem fdD_le (tag : Int) (n : Nat) : ∀ fs : List (Int × ByteArray), (∀ f ∈ fs, f.2.size ≤ n) → (fdD tag fs).size ≤ n
  | [], _ => Nat.zero_le _
  | f :: r, h => by
    show (if f.1 = tag then f.2 else fdD tag r).size ≤ n
    split
    · exact h f (List.mem_cons_self ..)
    · exact fdD_le tag n r fun y hy => h y (List.mem_cons_of_mem _ hy)
def fdN (tag : Int) (fs : List (Int × ByteArray)) : Int := vOf (fdD tag fs).data.toList
def fdG (tag : Int) (fs : List (Int × ByteArray)) : List UInt8 := (fdD tag fs).data.toList.take 32 ++ List.replicate (32 - (fdD tag fs).size) 0
theorem fdG_length (tag : Int) (fs : List (Int × ByteArray)) : (fdG tag fs).length = 32 := by
  unfold fdG
  have e : (fdD tag fs).data.toList.length = (fdD tag fs).size := rfl
  rw [List.length_append, List.length_take, List.length_replicate, e]
  omega
theorem vOf_nOf (n : Int) (h : 0 ≤ n ∧ n ≤ 4611686018427387903) : vOf (nOf n).data.toList = n := by
  have h1 := valO_nOf n h
  unfold valO at h1
  unfold vOf
  split at h1
  · rename_i hh; rw [if_pos hh]; exact h1
  · omega
theorem readF_65 (bs : List UInt8) : ∀ f ∈ readF bs, f.2.size ≤ 65536 := by
  intro f hf
  unfold readF at hf
  by_cases h : readE bs = 0
  · rw [if_pos h] at hf
    unfold toF at hf
    obtain ⟨x, hx, rfl⟩ := List.mem_map.1 hf
    have := parse_small _ _ _ x hx
    show x.d.toArray.size ≤ 65536
    simp
    omega
  · rw [if_neg h] at hf; simp at hf
/-- A claim that is taken of a row. -/
def takeC (fs : List (Int × ByteArray)) : ClT := ⟨fdN 1 fs, fdN 2 fs, fdN 3 fs, fdN 4 fs, fdG 5 fs⟩
theorem takeC_cL (c : ClT) (hr : rightC c = true) (hd : c.d.length = 32) : takeC (fieldsN (cL c)) = c := by
  have hb := (rightC_iff c).1 hr
  have e : fieldsN (cL c) = [(1, nOf c.r), (2, nOf c.e), (3, nOf c.n), (4, nOf c.s), (5, bA c.d)] := rfl
  have e5 : fdG 5 (fieldsN (cL c)) = c.d := by
    have e6 : fdD 5 (fieldsN (cL c)) = bA c.d := rfl
    unfold fdG
    rw [e6, bA_list, bA_size, hd, List.take_of_length_le (by omega)]
    simp
  unfold takeC
  rw [e5]
  show (⟨vOf (nOf c.r).data.toList, vOf (nOf c.e).data.toList, vOf (nOf c.n).data.toList, vOf (nOf c.s).data.toList, c.d⟩ : ClT) = c
  rw [vOf_nOf c.r (by omega), vOf_nOf c.e (by omega), vOf_nOf c.n (by omega), vOf_nOf c.s (by omega)]
theorem getC_take (bs : List UInt8) : getC bs = if rightC (takeC (readF bs)) = true ∧ claimB (takeC (readF bs)) = bs then some (takeC (readF bs)) else none := by
  by_cases h : rightC (takeC (readF bs)) = true ∧ claimB (takeC (readF bs)) = bs
  · rw [if_pos h]
    have := getC_claim (takeC (readF bs)) h.1 (fdG_length 5 _)
    rw [h.2] at this
    exact this
  · rw [if_neg h]
    cases hg : getC bs with
    | none => rfl
    | some c =>
      exfalso
      obtain ⟨hr, hd, hb⟩ := getC_some hg
      have hf : readF bs = fieldsN (cL c) := by rw [← hb]; exact (read_row (layE_cL c hd)).2
      apply h
      rw [hf, takeC_cL c hr hd]
      exact ⟨hr, hb⟩
/-- An entry that is taken of a row. -/
def takeE (fs : List (Int × ByteArray)) : EnT := ⟨fdN 1 fs, fdN 2 fs, fdN 3 fs, fdD 4 fs, getSO (fdD 5 fs).data.toList, getCO (fdD 6 fs).data.toList⟩
theorem takeE_ok (fs : List (Int × ByteArray)) : OkE (takeE fs) := ⟨(getSO_ok _).1, (getSO_ok _).2, getCO_ok _⟩
theorem getSO_none : getSO (⟨#[]⟩ : ByteArray).data.toList = zeroS := by
  have h : (Go.Proofs.YtgkfodmccfnaoaaGreatDoor.getS []).isSome = false := by decide +kernel
  unfold getSO
  cases hq : Go.Proofs.YtgkfodmccfnaoaaGreatDoor.getS (⟨#[]⟩ : ByteArray).data.toList with
  | none => rfl
  | some x =>
    have hq' : Go.Proofs.YtgkfodmccfnaoaaGreatDoor.getS [] = some x := hq
    rw [hq'] at h; cases h
theorem getCO_none : getCO (⟨#[]⟩ : ByteArray).data.toList = zeroC := by
  have h : (getC []).isSome = false := by decide +kernel
  unfold getCO
  cases hq : getC (⟨#[]⟩ : ByteArray).data.toList with
  | none => rfl
  | some x =>
    have hq' : getC [] = some x := hq
    rw [hq'] at h; cases h
theorem takeE_fields {x : EnT} (h : rightE x = true) (ok : OkE x) : takeE (fieldsE x) = x := by
  have v0 : vOf (⟨#[]⟩ : ByteArray).data.toList = 0 := rfl
  rcases right_kinds h with ⟨hk, c1, c2, s1, s2, ht, hh, hm⟩ | ⟨hk, hc, hs, ht, hh, hm⟩ | ⟨hk, hc, hs, ht, hh, hm⟩
  · rw [fields_user hk]
    show (⟨vOf (nOf 1).data.toList, vOf (nOf x.c).data.toList, vOf (nOf x.s).data.toList, x.t, getSO (⟨#[]⟩ : ByteArray).data.toList, getCO (⟨#[]⟩ : ByteArray).data.toList⟩ : EnT) = x
    rw [vOf_nOf 1 (by omega), vOf_nOf x.c (by omega), vOf_nOf x.s (by omega), getSO_none, getCO_none]
    exact enT_ext ⟨hk.symm, rfl, rfl, rfl, hh.symm, hm.symm⟩
  · rw [fields_anchor hk]
    show (⟨vOf (nOf 2).data.toList, vOf (⟨#[]⟩ : ByteArray).data.toList, vOf (⟨#[]⟩ : ByteArray).data.toList, ⟨#[]⟩, getSO (signB x.h), getCO (⟨#[]⟩ : ByteArray).data.toList⟩ : EnT) = x
    have e : getSO (signB x.h) = x.h := by unfold getSO; rw [getS_sign x.h hh ok.h ok.g]; rfl
    rw [vOf_nOf 2 (by omega), e, getCO_none, v0]
    exact enT_ext ⟨hk.symm, hc.symm, hs.symm, by rw [empty_of ht]; rfl, rfl, hm.symm⟩
  · rw [fields_claim hk]
    show (⟨vOf (nOf 3).data.toList, vOf (⟨#[]⟩ : ByteArray).data.toList, vOf (⟨#[]⟩ : ByteArray).data.toList, ⟨#[]⟩, getSO (⟨#[]⟩ : ByteArray).data.toList, getCO (claimB x.m)⟩ : EnT) = x
    have e : getCO (claimB x.m) = x.m := by unfold getCO; rw [getC_claim x.m hm ok.m]; rfl
    rw [vOf_nOf 3 (by omega), e, getSO_none, v0]
    exact enT_ext ⟨hk.symm, hc.symm, hs.symm, by rw [empty_of ht]; rfl, hh.symm, rfl⟩
theorem getE_take (bs : List UInt8) : getE bs = if rightE (takeE (readF bs)) = true ∧ entryB (takeE (readF bs)) = bs then some (takeE (readF bs)) else none := by
  by_cases h : rightE (takeE (readF bs)) = true ∧ entryB (takeE (readF bs)) = bs
  · rw [if_pos h]
    have := getE_entry h.1 (takeE_ok _)
    rw [h.2] at this
    exact this
  · rw [if_neg h]
    cases hg : getE bs with
    | none => rfl
    | some c =>
      exfalso
      obtain ⟨hr, ok, hb⟩ := getE_some hg
      have hf : readF bs = fieldsE c := by rw [← hb]; exact (read_row (layE_entry hr ok)).2
      apply h
      rw [hf, takeE_fields hr ok]
      exact ⟨hr, hb⟩
/-- An item that is taken of a row. -/
def takeI (fs : List (Int × ByteArray)) : ItT := ⟨fdN 1 fs, getEO (fdD 2 fs).data.toList⟩
theorem getEO_okT (bs : List UInt8) : OkE (getEO bs) := by
  unfold getEO
  cases h : getE bs with
  | none => exact zeroE_ok
  | some x => exact (getE_some h).2.1
theorem takeI_ok (fs : List (Int × ByteArray)) : OkE (takeI fs).e := getEO_okT _
theorem takeI_iL {x : ItT} (h : rightI x = true) (ok : OkE x.e) : takeI (fieldsN (iL x)) = x := by
  obtain ⟨h1, h2, h3⟩ := (rightI_iff x).1 h
  show (⟨vOf (nOf x.p).data.toList, getEO (entryB x.e)⟩ : ItT) = x
  have e : getEO (entryB x.e) = x.e := by unfold getEO; rw [getE_entry h3 ok]; rfl
  rw [vOf_nOf x.p (by omega), e]
theorem getI_take (bs : List UInt8) : getI bs = if rightI (takeI (readF bs)) = true ∧ itemB (takeI (readF bs)) = bs then some (takeI (readF bs)) else none := by
  by_cases h : rightI (takeI (readF bs)) = true ∧ itemB (takeI (readF bs)) = bs
  · rw [if_pos h]
    have := getI_item h.1 (takeI_ok _)
    rw [h.2] at this
    exact this
  · rw [if_neg h]
    cases hg : getI bs with
    | none => rfl
    | some c =>
      exfalso
      obtain ⟨hr, ok, hb⟩ := getI_some hg
      have hf : readF bs = fieldsN (iL c) := by rw [← hb]; exact (read_row (layE_iL hr ok)).2
      apply h
      rw [hf, takeI_iL hr ok]
      exact ⟨hr, hb⟩
/-! What a thing that is read answers: the thing, and the error. -/
theorem getCO_yes {bs : List UInt8} (h : rightC (takeC (readF bs)) = true ∧ claimB (takeC (readF bs)) = bs) : getCO bs = takeC (readF bs) ∧ getCE bs = 0 := by
  unfold getCO getCE
  rw [getC_take, if_pos h]
  exact ⟨rfl, rfl⟩
theorem getCO_no {bs : List UInt8} (h : ¬ (rightC (takeC (readF bs)) = true ∧ claimB (takeC (readF bs)) = bs)) : getCO bs = zeroC ∧ getCE bs = 60 := by
  unfold getCO getCE
  rw [getC_take, if_neg h]
  exact ⟨rfl, rfl⟩
theorem getEO_yes {bs : List UInt8} (h : rightE (takeE (readF bs)) = true ∧ entryB (takeE (readF bs)) = bs) : getEO bs = takeE (readF bs) ∧ getEE bs = 0 := by
  unfold getEO getEE
  rw [getE_take, if_pos h]
  exact ⟨rfl, rfl⟩
theorem getEO_no {bs : List UInt8} (h : ¬ (rightE (takeE (readF bs)) = true ∧ entryB (takeE (readF bs)) = bs)) : getEO bs = zeroE ∧ getEE bs = 60 := by
  unfold getEO getEE
  rw [getE_take, if_neg h]
  exact ⟨rfl, rfl⟩
theorem getIO_yes {bs : List UInt8} (h : rightI (takeI (readF bs)) = true ∧ itemB (takeI (readF bs)) = bs) : getIO bs = takeI (readF bs) ∧ getIE bs = 0 := by
  unfold getIO getIE
  rw [getI_take, if_pos h]
  exact ⟨rfl, rfl⟩
theorem getIO_no {bs : List UInt8} (h : ¬ (rightI (takeI (readF bs)) = true ∧ itemB (takeI (readF bs)) = bs)) : getIO bs = zeroI ∧ getIE bs = 60 := by
  unfold getIO getIE
  rw [getI_take, if_neg h]
  exact ⟨rfl, rfl⟩
/-! What is taken can lie in a variable. -/
theorem In64.of_v (l : List UInt8) : In64 (vOf l) := by
  unfold vOf In64
  split
  · rename_i h
    unfold isNum at h
    simp only [decide_eq_true_eq] at h
    omega
  · omega
theorem takeC_in (fs : List (Int × ByteArray)) : InC (takeC fs) := ⟨fdG_length 5 fs, In64.of_v _, In64.of_v _, In64.of_v _, In64.of_v _⟩
theorem takeE_in (fs : List (Int × ByteArray)) (hs : ∀ f ∈ fs, f.2.size ≤ 65536) : InE (takeE fs) :=
  ⟨In64.of_v _, In64.of_v _, In64.of_v _, Nat.le_trans (fdD_le 4 65536 fs hs) (by omega), getSO_in _, getCO_in _⟩
theorem takeI_in (fs : List (Int × ByteArray)) : InI (takeI fs) := ⟨In64.of_v _, getEO_in _⟩
end Go.Proofs.YtgkfodmccfnaoaaGreatDoor
