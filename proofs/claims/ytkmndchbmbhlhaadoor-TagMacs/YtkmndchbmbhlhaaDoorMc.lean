/- What tag.Mac answers. -/
import Derived.Test.YtkmndchbmbhlhaaDoorBlk
namespace Go.Proofs.YtkmndchbmbhlhaaDoor
open Go.RowKit Sums
set_option linter.unusedVariables false
set_option linter.unusedSimpArgs false

set_option maxHeartbeats 8000000 in
theorem mac_any (key : List UInt8) (s : ByteArray) (w : World) (Ky D : Array Value) (HK : Hid (Ky = (cellsOf key).toArray)) (hk : key.length = 32) (hs : s.size ≤ 100000) (hT : TabT w) (HD : Hid (D = (cellsOf (macD key s.data.toList)).toArray)) :
    Calls Tryd.prog 9 #[.agg Ky, .string s] w fun e w' => e = .returned (.agg D) ∧ Below w.heap.size w w' := by
  obtain ⟨Z, HZ, HA, HS, H1, H32⟩ := noughts27
  have HSK : Hid ((Tryd.prog.info? 23).map (·.size) = some Ky.size) := by show _ = _; rw [sizeY, HK.out]; simp [cellsOf_length, hk]
  have HSD : Hid ((Tryd.prog.info? 24).map (·.size) = some D.size) := by show _ = _; rw [size23, HD.out]; simp [cellsOf_length, macD, sumD_length]
  have H1D : Hid (D.all (·.oneCell') = true) := by show _ = _; rw [HD.out]; exact cellsOf_all _
  have HZD : Hid (Z.size = D.size) := by show _ = _; rw [H32.out, HD.out]; simp [cellsOf_length, macD, sumD_length]
  obtain ⟨b1, HB1⟩ : ∃ b : ByteArray, Hid (b = ⟨(blockD key 54).toArray⟩) := ⟨_, (rfl : _ = _)⟩
  obtain ⟨b2, HB2⟩ : ∃ b : ByteArray, Hid (b = ⟨(blockD key 92).toArray⟩) := ⟨_, (rfl : _ = _)⟩
  have hz1 : b1.size = 64 := by rw [HB1.out]; show (blockD key 54).toArray.size = 64; simpa using blockD_length key 54 hk
  have hz2 : b2.size = 64 := by rw [HB2.out]; show (blockD key 92).toArray.size = 64; simpa using blockD_length key 92 hk
  obtain ⟨m, Hm⟩ : ∃ m, Hid (m = sumD (blockD key 54 ++ s.data.toList)) := ⟨_, (rfl : _ = _)⟩
  have hm32 : m.length = 32 := by rw [Hm.out]; exact sumD_length _
  obtain ⟨M, HM, HSM, H1M, H32M⟩ := dig_row' m hm32
  have HZM : Hid (Z.size = M.size) := by show _ = _; rw [H32.out, H32M.out]
  obtain ⟨x, HX⟩ : ∃ x : ByteArray, Hid (x = ⟨m.toArray⟩) := ⟨_, (rfl : _ = _)⟩
  have hzx : x.size = 32 := by rw [HX.out]; show m.toArray.size = 32; simpa using hm32
  have C1 : Hid (∀ W, Calls Tryd.prog 19 #[.agg Ky, .int .u8 54] W fun e w' => e = .returned (.string b1) ∧ Below W.heap.size W w') := fun W => blk_any key 54 W Ky HK hk b1 HB1
  have C2 : Hid (∀ W, Calls Tryd.prog 19 #[.agg Ky, .int .u8 92] W fun e w' => e = .returned (.string b2) ∧ Below W.heap.size W w') := fun W => blk_any key 92 W Ky HK hk b2 HB2
  have O1 : Hid (∀ W g, g = W.heap.size → Below w.heap.size w W → Calls Tryd.prog 17 #[.slice (some ⟨g, 0, none⟩) 2 2] (W.alloc (.cells #[.string b1, .string s] 9)) fun e w' => e = .returned (.agg M) ∧ Below W.heap.size W w') := fun W g hg hb =>
    of_new [b1, s] 9 W (by show b1.size + (s.size + 0) ≤ 1000000; omega) (by show 2 ≤ _; decide) (hT.keep hb).sha M (by show _ = _; rw [HM.out, Hm.out, HB1.out]; simp [joinL]) 2 2 g rfl hg _ rfl
  have O2 : Hid (∀ W g, Texts W (some ⟨g, 0, none⟩) 2 [b2, x] → Below w.heap.size w W → Calls Tryd.prog 17 #[.slice (some ⟨g, 0, none⟩) 2 2] W fun e w' => e = .returned (.agg D) ∧ Below W.heap.size W w') := fun W g hx hb =>
    of_lies [b2, x] (by show b2.size + (x.size + 0) ≤ 1000000; omega) (by show 2 ≤ _; decide) D (by show _ = _; rw [HD.out, HB2.out, HX.out, Hm.out]; simp [joinL, macD]) W _ 2 2 hx (hT.keep hb).sha
  have HCX : Hid (∀ (W : World) (g : Nat), W.rangeAt g 0 (cellsOf m) → Sem.run Tryd.prog (convert 38 9 (.slice (some ⟨g, 0, none⟩) 32 32)) W = .ok (.string x) W) := fun W g h => by rw [HX.out]; exact conv_at W g 0 m hm32 h
  have HMR : Hid (M.toList = cellsOf m) := by show _ = _; rw [HM.out]
  clear hT HD HX HM Hm HB1 HB2 HK
  go_enter Tryd.func9, Tryd.ntmps9
  go_wp2_with (first
    | (show wpList _ _ _ ({ dst := some 4, op := _, type := _, pos := _, after := _, guard := _ } :: _) _ _; refine wpList_new_var rfl 24 rfl Z HA.out ?_; intro g4 w1 HM4; have HBW1 : Hid (Below w.heap.size w w1) := ((Below.refl _ _).alloc (Nat.le_refl _) _).trans (HM4.out.below.mono (by simp)); have HK1 := hidk ((HM4.out.below.block _ (by simp)).trans (heap_alloc_new w (.cells Ky 23))); try simp only [Act.put, List.setIfInBounds_toArray, List.set_cons_zero, List.set_cons_succ])
    | (show wpList _ _ _ ({ dst := some 6, op := _, type := _, pos := _, after := _, guard := _ } :: _) _ _; refine wpList_load_row rfl 23 (.tmp 2) rfl w.heap.size rfl 23 Ky (0, 0) _ HK1.out Tryd.underlying23 rfl HSK.out ?_; try simp only [Act.put, List.setIfInBounds_toArray, List.set_cons_zero, List.set_cons_succ])
    | fail)
  have h4 : w.heap.size < g4 := by have e := HM4.out.new; simp at e; omega
  have HR4 := hidk HM4.out.row
  clear HM4
  refine (C1.out _).mono ?_
  rintro e w2 ⟨rfl, hb2⟩
  have HB2w := hidk (HBW1.out.trans (hb2.mono HBW1.out.size))
  have HK2 := hidk ((hb2.block _ (heap_lt HK1.out)).trans HK1.out)
  have HR42 := hidk ((hb2.block _ (heap_lt HR4.out)).trans HR4.out)
  clear hb2 HBW1 HK1 HR4 C1
  go_wp2_with fail
  refine (O1.out _ _ rfl HB2w.out).mono ?_
  rintro e w3 ⟨rfl, hb3⟩
  have HB3w := hidk (HB2w.out.trans (hb3.mono HB2w.out.size))
  have HK3 := hidk ((hb3.block _ (heap_lt HK2.out)).trans HK2.out)
  have HR43 := hidk ((hb3.block _ (heap_lt HR42.out)).trans HR42.out)
  clear hb3 HB2w HK2 HR42 O1
  go_wp2_with (first
    | (show wpList _ _ _ ({ dst := some 5, op := _, type := _, pos := _, after := _, guard := _ } :: _) _ _; refine wpList_new_var rfl 24 rfl Z HA.out ?_; intro g5 w4 HM5; try simp only [Act.put, List.setIfInBounds_toArray, List.set_cons_zero, List.set_cons_succ])
    | (refine wpList_set_var rfl 24 (.tmp 5) (.tmp 10) rfl g5 M rfl rfl 24 Z HM5.out.row HSM.out HZM.out H1M.out ?_; intro w5 HW5; try simp only [Act.put, List.setIfInBounds_toArray, List.set_cons_zero, List.set_cons_succ])
    | fail)
  have h5 : g4 < g5 := by rw [HM5.out.new]; exact heap_lt HR43.out
  have HB5 := hidk (HW5.out.below w3.heap.size w3 HM5.out.below (Nat.le_of_eq HM5.out.new.symm))
  have HB5w := hidk (HB3w.out.trans (HB5.out.mono HB3w.out.size))
  have HK5 := hidk ((HB5.out.block _ (heap_lt HK3.out)).trans HK3.out)
  have HR45 := hidk ((HB5.out.block _ (heap_lt HR43.out)).trans HR43.out)
  have HR5 := hidk HW5.out.row
  clear HM5 HW5 HB5 HB3w HK3 HR43
  have HBc : Hid (Below w.heap.size w w5.drew) := HB5w.out.drew
  have HR4c : Hid (w5.drew.heap[g4]? = some (.cells Z 24 (0, 0))) := HR45.out
  have HS5 := fun W => slice_at W g5 0
  clear HB5w HR45
  refine wp_region_held_drew (S := (fun W => W.heap[w.heap.size]? = some (.cells Ky 23 (0, 0)) ∧ W.heap[g5]? = some (.cells M 24 (0, 0)))) (by kernel_rfl) ⟨HK5.out, HR5.out⟩ (fun hHeld => ?_)
  refine wpAnyH_take (i := 0) (oi := { dst := some 11, op := Op.load 23 (Operand.tmp 2), type := 23, pos := "tag.go:20", after := #[], guard := none }) (v := .agg Ky) rfl (by kernel_rfl) (by kernel_rfl) (by kernel_rfl) (fun _ _ _ h => h) (yieldsIf_row (by rfl) 23 (.tmp 2) rfl w.heap.size rfl 23 Ky (0, 0) _ (fun _ h => h.1) Tryd.underlying23 rfl HSK.out) hHeld ?_
  try simp only [Act.put, List.setIfInBounds_toArray, List.set_cons_zero, List.set_cons_succ]
  refine wpAnyH_take (i := 2) (oi := { dst := some 13, op := Op.slice 24 (Operand.tmp 5) none none none, type := 38, pos := "tag.go:20", after := #[], guard := none }) (v := .slice (some ⟨g5, 0, none⟩) 32 32) rfl (by kernel_rfl) (by kernel_rfl) (by kernel_rfl) (fun _ _ _ h => h) (Or.inl ⟨by rfl, by intro W hSw; have := HS5 W; go_simp⟩) hHeld ?_
  try simp only [Act.put, List.setIfInBounds_toArray, List.set_cons_zero, List.set_cons_succ]
  refine wpAnyH_take (i := 3) (oi := { dst := some 14, op := Op.convert 38 9 (Operand.tmp 13), type := 9, pos := "tag.go:20", after := #[{ on := 2, ground := Ground.data }], guard := none }) (v := .string x) rfl (by kernel_rfl) (by kernel_rfl) (by kernel_rfl) (fun _ _ _ h => h) (Or.inl ⟨by rfl, by intro W hSw; have := HCX.out W g5 (by rw [← HMR.out]; exact range_row (by simpa using hSw.2)); go_simp⟩) hHeld ?_
  try simp only [Act.put, List.setIfInBounds_toArray, List.set_cons_zero, List.set_cons_succ]
  refine wpAnyH_ready (rs := [1]) (by kernel_rfl) (by simp) ?_
  refine (AllReadyH.cons (o := { dst := some 12, op := Op.call { callee := Callee.value (Operand.func 19), args := #[Operand.tmp 11, Operand.const (Value.int IntKind.u8 92)], argTypes := #[23, 5] }, type := 9, pos := "tag.go:20", after := #[{ on := 0, ground := Ground.data }], guard := none }) rfl (fun K hK => ?_) AllReadyH.nil)
  go_simp
  refine (C2.out _).mono ?_
  rintro e w1 ⟨rfl, hbx⟩
  replace HBc := hidk (HBc.out.trans (hbx.mono HBc.out.size))
  replace HR4c := hidk ((hbx.block _ (heap_lt HR4c.out)).trans HR4c.out)
  go_wp2_with fail
  refine hK.out _ _ ⟨(hbx.block _ (heap_lt hHeld.1)).trans hHeld.1, (hbx.block _ (heap_lt hHeld.2)).trans hHeld.2⟩ (fun hHeld => ?_)
  clear hK K
  try simp only [Act.put, List.setIfInBounds_toArray, List.set_cons_zero, List.set_cons_succ]
  refine wpAnyH_ready (rs := [4]) (by kernel_rfl) (by simp) ?_
  refine (AllReadyH.cons (o := { dst := some 15, op := Op.buildSlice 45 2 #[(0, Operand.tmp 12), (1, Operand.tmp 14)], type := 45, pos := "tag.go:20", after := #[{ on := 1, ground := Ground.data }, { on := 3, ground := Ground.data }], guard := none }) rfl (fun K hK => ?_) AllReadyH.nil)
  go_simp
  have HTX := hidk (texts_new w1 [b2, x] 9)
  replace HBc := hidk (HBc.out.alloc HBc.out.size (.cells #[.string b2, .string x] 9))
  replace HR4c := hidk (heap_keep (o' := .cells #[.string b2, .string x] 9) HR4c.out)
  refine hK.out _ _ ⟨heap_keep hHeld.1, heap_keep hHeld.2⟩ (fun hHeld => ?_)
  clear hK K
  try simp only [Act.put, List.setIfInBounds_toArray, List.set_cons_zero, List.set_cons_succ]
  refine wpAnyH_ready (rs := [5]) (by kernel_rfl) (by simp) ?_
  refine (AllReadyH.cons (o := { dst := some 16, op := Op.call { callee := Callee.value (Operand.func 17), args := #[Operand.tmp 15], argTypes := #[45] }, type := 24, pos := "tag.go:20", after := #[{ on := 4, ground := Ground.data }, { on := 1, ground := Ground.chain }], guard := none }) rfl (fun K hK => ?_) AllReadyH.nil)
  go_simp
  refine (O2.out _ _ HTX.out HBc.out).mono ?_
  rintro e w5 ⟨rfl, hbz⟩
  replace HBc := hidk (HBc.out.trans (hbz.mono HBc.out.size))
  replace HR4c := hidk ((hbz.block _ (heap_lt HR4c.out)).trans HR4c.out)
  go_wp2_with fail
  refine hK.out _ _ ⟨(hbz.block _ (heap_lt hHeld.1)).trans hHeld.1, (hbz.block _ (heap_lt hHeld.2)).trans hHeld.2⟩ (fun hHeld => ?_)
  clear hK K
  try simp only [Act.put, List.setIfInBounds_toArray, List.set_cons_zero, List.set_cons_succ]
  refine wpAnyH_ready (rs := [6]) (by kernel_rfl) (by simp) ?_
  refine (AllReadyH.cons (o := { dst := none, op := Op.store 24 (Operand.tmp 4) (Operand.tmp 16), type := 0, pos := "tag.go:20", after := #[{ on := 5, ground := Ground.data }, { on := 5, ground := Ground.chain }, { on := 0, ground := Ground.phase }, { on := 1, ground := Ground.phase }, { on := 2, ground := Ground.phase }, { on := 3, ground := Ground.phase }, { on := 4, ground := Ground.phase }, { on := 5, ground := Ground.phase }], guard := none }) rfl (fun K hK => ?_) AllReadyH.nil)
  refine step_set_var (by rfl) 24 (.tmp 4) (.tmp 16) rfl g4 D rfl rfl 24 Z HR4c.out HSD.out HZD.out H1D.out ?_
  intro wz HW4
  refine hK.out _ _ ⟨(HW4.out.other w.heap.size (by omega)).trans hHeld.1, (HW4.out.other g5 (by omega)).trans hHeld.2⟩ (fun hHeld => ?_)
  clear hK K
  try simp only [Act.put, List.setIfInBounds_toArray, List.set_cons_zero, List.set_cons_succ]
  refine wpAnyH_done (by kernel_rfl) ?_ _
  go_wp2
  refine bodyPost_ret (v := .agg D) ?_ rfl ⟨rfl, HW4.out.below w.heap.size w HBc.out (by omega)⟩
  exact results_cell_row (p := 4) (ty := 24) rfl _ _ g4 24 D (0, 0) _ rfl HW4.out.row Tryd.underlying24 rfl HSD.out
end Go.Proofs.YtkmndchbmbhlhaaDoor
