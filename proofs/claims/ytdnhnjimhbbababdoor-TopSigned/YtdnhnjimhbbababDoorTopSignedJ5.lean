/- Texts of our own that the row of TopSigned leans on, part 5. -/
import Derived.Test.YtdnhnjimhbbababDoorTopSignedJ4
import Derived.OneCell
import Derived.Laws.MakeOwn
import Derived.Laws.CopyRow

/- What tag.Holds answers; what the calls of package tag answer, all together. -/
namespace Go.Proofs.YtdnhnjimhbbababDoor.P7
open Go.RowKit Sums
set_option maxRecDepth 100000
set_option linter.unusedVariables false
set_option linter.unusedSimpArgs false
set_option maxHeartbeats 8000000 in
theorem holds_any (master : List UInt8) (r n : Int) (s : ByteArray) (t : List UInt8) (w : World) (M U : Array Value) (HM : Hid (M = (cellsOf master).toArray)) (HU : Hid (U = (cellsOf t).toArray)) (hm : master.length = 32) (ht : t.length = 32) (hs : s.size ≤ 100000) (hT : TabT w) :
    Calls Tryd.prog 39 #[.agg M, .int .i64 r, .int .i64 n, .string s, .agg U] w fun e w' => e = .returned (.int .i64 (holdE master r n s.data.toList t)) ∧ Below w.heap.size w w' := by
  obtain ⟨Z, HZ, HA, H32⟩ := noughtsY
  have hko := keyO_length sumD_length master r n
  obtain ⟨Ky, HK, HSK, H1K, H32K⟩ := key_row (keyO master r n) hko
  have HZK : Hid (Z.size = Ky.size) := by show _ = _; rw [H32.out, H32K.out]
  have HSM : Hid ((Tryd.prog.info? 24).map (·.size) = some M.size) := by show _ = _; rw [sizeY, HM.out]; simp [cellsOf_length, hm]
  have HSU : Hid ((Tryd.prog.info? 30).map (·.size) = some U.size) := by show _ = _; rw [size23, HU.out]; simp [cellsOf_length, ht]
  obtain ⟨k, Hk⟩ : ∃ k, Hid (k = keyE r n) := ⟨_, (rfl : _ = _)⟩
  have C1 : Hid (∀ W, Below w.heap.size w W → Calls Tryd.prog 24 #[.agg M, .int .i64 r, .int .i64 n] W fun e w' => e = .returned (.tuple #[.agg Ky, .int .i64 k]) ∧ Below W.heap.size W w') := fun W hb => by rw [Hk.out]; exact key_any master r n W M Ky HM hm (hT.keep hb) HK
  obtain ⟨D, HD, HSD, H1D, H32D⟩ := dig_row' (macD (keyO master r n) s.data.toList) (sumD_length _)
  obtain ⟨b, Hb⟩ : ∃ b, Hid (b = decide (t = macD (keyO master r n) s.data.toList)) := ⟨_, (rfl : _ = _)⟩
  have C2 : Hid (∀ W, Below w.heap.size w W → Calls Tryd.prog 25 #[.agg Ky, .string s] W fun e w' => e = .returned (.agg D) ∧ Below W.heap.size W w') := fun W hb => mac_any _ s W Ky D HK hko hs (hT.keep hb) HD
  have C3 : Hid (∀ W, Calls Tryd.prog 67 #[.agg U, .agg D] W fun e w' => e = .returned (.bool b) ∧ Below W.heap.size W w') := fun W => by rw [Hb.out]; exact same_any t _ W U D HU HD ht (sumD_length _)
  have HW0 : Hid (Below w.heap.size w ((w.alloc (.cells M 24)).alloc (.cells U 30)) ∧ ((w.alloc (.cells M 24)).alloc (.cells U 30)).heap[w.heap.size]? = some (.cells M 24 (0, 0)) ∧ ((w.alloc (.cells M 24)).alloc (.cells U 30)).heap[w.heap.size + 1]? = some (.cells U 30 (0, 0))) :=
    ⟨((Below.refl _ _).alloc (Nat.le_refl _) _).alloc (by simp) _, heap_keep (heap_alloc_new w _), by have := heap_alloc_new (w.alloc (.cells M 24)) (.cells U 30); rwa [alloc_size] at this⟩
  have hk0 : (k = 0 ∧ owner r n = true) ∨ (k = 50 ∧ ¬ owner r n = true) := by
    rw [Hk.out]; unfold keyE
    by_cases ho : owner r n = true
    · rw [if_pos ho]; exact .inl ⟨rfl, ho⟩
    · rw [if_neg ho]; exact .inr ⟨rfl, ho⟩
  obtain ⟨z, Hz⟩ : ∃ z, Hid (z = holdE master r n s.data.toList t) := ⟨_, (rfl : _ = _)⟩
  rw [← Hz.out]
  clear hT HD HK HM HU Hk
  go_enter Tryd.func39, Tryd.ntmps39
  go_wp2_with (first
    | (show wpList _ _ _ ({ dst := some 14, op := _, type := _, pos := _, after := _, guard := _ } :: _) _ _; refine wpList_load_row rfl 24 (.tmp 5) rfl w.heap.size rfl 24 M (0, 0) _ HW0.out.2.1 Tryd.underlying24 rfl HSM.out ?_; try simp only [Act.put, List.setIfInBounds_toArray, List.set_cons_zero, List.set_cons_succ])
    | fail)
  refine (C1.out _ HW0.out.1).mono ?_
  rintro e w1 ⟨rfl, hb1⟩
  have HB1 := hidk (HW0.out.1.trans (hb1.mono HW0.out.1.size))
  have HU1 := hidk ((hb1.block _ (heap_lt HW0.out.2.2)).trans HW0.out.2.2)
  clear hb1 HW0 C1
  rcases hk0 with ⟨rfl, ho⟩ | ⟨rfl, ho⟩
  · have HE : Hid (z = if b = true then 0 else 72) := by
      show _ = _
      rw [Hz.out, holdE_in _ _ _ _ _ ho, ← keyO_in _ _ _ ho, Hb.out]
      by_cases h : t = macD (keyO master r n) s.data.toList
      · rw [if_pos h.symm, if_pos (by simpa using h)]
      · rw [if_neg (fun q => h q.symm), if_neg (by simpa using h)]
    clear Hb Hz ho
    go_wp2_with (first
      | (show wpList _ _ _ ({ dst := some 11, op := _, type := _, pos := _, after := _, guard := _ } :: _) _ _; refine wpList_new_var rfl 24 rfl Z HA.out ?_; intro g11 w2 HM11; try simp only [Act.put, List.setIfInBounds_toArray, List.set_cons_zero, List.set_cons_succ])
      | (refine wpList_set_var rfl 24 (.tmp 11) (.tmp 18) rfl g11 Ky rfl rfl 24 Z HM11.out.row HSK.out HZK.out H1K.out ?_; intro w3 HW11; try simp only [Act.put, List.setIfInBounds_toArray, List.set_cons_zero, List.set_cons_succ])
      | fail)
    have HX3 := hidk (HW11.out.below w1.heap.size w1 HM11.out.below (Nat.le_of_eq HM11.out.new.symm))
    have HBc : Hid (Below w.heap.size w w3.drew) := (HB1.out.trans (HX3.out.mono HB1.out.size)).drew
    have HU3 := hidk ((HX3.out.block _ (heap_lt HU1.out)).trans HU1.out)
    have HK3 := hidk HW11.out.row
    clear HM11 HW11 HX3 HB1 HU1
    refine wp_region_held_drew (S := (fun W => W.heap[w.heap.size + 1]? = some (.cells U 30 (0, 0)) ∧ W.heap[g11]? = some (.cells Ky 24 (0, 0)))) (by kernel_rfl) ⟨HU3.out, HK3.out⟩ (fun hHeld => ?_)
    refine wpAnyH_take (i := 0) (oi := { dst := some 23, op := Op.load 30 (Operand.tmp 9), type := 30, pos := "tag.go:48", after := #[], guard := none }) (v := .agg U) rfl (by kernel_rfl) (by kernel_rfl) (by kernel_rfl) (fun _ _ _ h => h) (yieldsIf_row (by rfl) 30 (.tmp 9) rfl (w.heap.size + 1) rfl 30 U (0, 0) _ (fun _ h => h.1) Tryd.underlying30 rfl HSU.out) hHeld ?_
    try simp only [Act.put, List.setIfInBounds_toArray, List.set_cons_zero, List.set_cons_succ]
    refine wpAnyH_take (i := 1) (oi := { dst := some 24, op := Op.load 24 (Operand.tmp 11), type := 24, pos := "tag.go:48", after := #[], guard := none }) (v := .agg Ky) rfl (by kernel_rfl) (by kernel_rfl) (by kernel_rfl) (fun _ _ _ h => h) (yieldsIf_row (by rfl) 24 (.tmp 11) rfl g11 rfl 24 Ky (0, 0) _ (fun _ h => h.2) Tryd.underlying24 rfl HSK.out) hHeld ?_
    try simp only [Act.put, List.setIfInBounds_toArray, List.set_cons_zero, List.set_cons_succ]
    refine wpAnyH_take (i := 2) (oi := { dst := some 25, op := Op.move (Operand.tmp 3), type := 9, pos := "tag.go:48", after := #[], guard := none }) (v := .string s) rfl (by kernel_rfl) (by kernel_rfl) (by kernel_rfl) (fun _ _ _ h => h) (Or.inl ⟨by rfl, by intro W hSw; go_simp⟩) hHeld ?_
    try simp only [Act.put, List.setIfInBounds_toArray, List.set_cons_zero, List.set_cons_succ]
    refine wpAnyH_ready (rs := [3]) (by kernel_rfl) (by simp) ?_
    refine (AllReadyH.cons (o := { dst := some 26, op := Op.call { callee := Callee.value (Operand.func 25), args := #[Operand.tmp 24, Operand.tmp 25], argTypes := #[24, 9] }, type := 30, pos := "tag.go:48", after := #[{ on := 1, ground := Ground.data }, { on := 2, ground := Ground.data }], guard := none }) rfl (fun K hK => ?_) AllReadyH.nil)
    go_simp
    refine (C2.out _ HBc.out).mono ?_
    rintro e w4 ⟨rfl, hb4⟩
    replace HBc := hidk (HBc.out.trans (hb4.mono HBc.out.size))
    go_wp2_with fail
    refine hK.out _ _ ⟨(hb4.block _ (heap_lt hHeld.1)).trans hHeld.1, (hb4.block _ (heap_lt hHeld.2)).trans hHeld.2⟩ (fun hHeld => ?_)
    clear hK K
    try simp only [Act.put, List.setIfInBounds_toArray, List.set_cons_zero, List.set_cons_succ]
    refine wpAnyH_ready (rs := [4]) (by kernel_rfl) (by simp) ?_
    refine (AllReadyH.cons (o := { dst := some 27, op := Op.call { callee := Callee.value (Operand.func 67), args := #[Operand.tmp 23, Operand.tmp 26], argTypes := #[30, 30] }, type := 4, pos := "tag.go:48", after := #[{ on := 0, ground := Ground.data }, { on := 3, ground := Ground.data }, { on := 3, ground := Ground.chain }], guard := none }) rfl (fun K hK => ?_) AllReadyH.nil)
    go_simp
    refine (C3.out _).mono ?_
    rintro e w5 ⟨rfl, hb5⟩
    replace HBc := hidk (HBc.out.trans (hb5.mono HBc.out.size))
    go_wp2_with fail
    refine hK.out _ _ ⟨(hb5.block _ (heap_lt hHeld.1)).trans hHeld.1, (hb5.block _ (heap_lt hHeld.2)).trans hHeld.2⟩ (fun hHeld => ?_)
    clear hK K
    try simp only [Act.put, List.setIfInBounds_toArray, List.set_cons_zero, List.set_cons_succ]
    refine wpAnyH_take (i := 5) (oi := { dst := some 28, op := Op.unOp UnOp.not 4 (Operand.tmp 27), type := 4, pos := "tag.go:48", after := #[{ on := 4, ground := Ground.data }], guard := none }) (v := .bool (!b)) rfl (by kernel_rfl) (by kernel_rfl) (by kernel_rfl) (fun _ _ _ h => h) (Or.inl ⟨by rfl, by intro W hSw; go_simp⟩) hHeld ?_
    try simp only [Act.put, List.setIfInBounds_toArray, List.set_cons_zero, List.set_cons_succ]
    refine wpAnyH_done (by kernel_rfl) ?_ _
    cases b
    · go_wp2
      go_ret
      exact ⟨by rw [HE.out]; rfl, HBc.out⟩
    · go_wp2
      go_ret
      exact ⟨by rw [HE.out]; rfl, HBc.out⟩
  · have HE : Hid (z = 50) := by show _ = _; rw [Hz.out, holdE_out _ _ _ _ _ ho]
    clear Hb Hz ho
    go_wp2_with (first
      | (show wpList _ _ _ ({ dst := some 11, op := _, type := _, pos := _, after := _, guard := _ } :: _) _ _; refine wpList_new_var rfl 24 rfl Z HA.out ?_; intro g11 w2 HM11; try simp only [Act.put, List.setIfInBounds_toArray, List.set_cons_zero, List.set_cons_succ])
      | (refine wpList_set_var rfl 24 (.tmp 11) (.tmp 18) rfl g11 Ky rfl rfl 24 Z HM11.out.row HSK.out HZK.out H1K.out ?_; intro w3 HW11; try simp only [Act.put, List.setIfInBounds_toArray, List.set_cons_zero, List.set_cons_succ])
      | fail)
    have HX3 := hidk (HW11.out.below w1.heap.size w1 HM11.out.below (Nat.le_of_eq HM11.out.new.symm))
    go_ret
    exact ⟨by rw [HE.out]; rfl, HB1.out.trans (HX3.out.mono HB1.out.size)⟩
end Go.Proofs.YtdnhnjimhbbababDoor.P7

/- What head.Verify and head.PutSigned answer. -/
namespace Go.Proofs.YtdnhnjimhbbababDoor.P7
open Go.RowKit Sums Nums
set_option linter.unusedVariables false
set_option linter.unusedSimpArgs false
set_option maxRecDepth 100000
set_option maxHeartbeats 2000000 in
theorem hPutS_no (s : SgT) (hs : InS s) (hm : mayS s = false) (w : World) (C : Array Value) (HC : Hid (C = (scells s).toArray)) :
    Calls Tryd.prog 9 #[.agg C] w fun e w' => BytesE [] 70 e w' ∧ Below w.heap.size w w' := by
  have hnot : ∀ (x : Bool) (w : World), (Op.unary .not (.bool x)).run Tryd.prog w = .ok (.bool (!x)) w := fun _ _ => rfl
  have HSC : Hid ((Tryd.prog.info? 40).map (·.size) = some C.size) := by show _ = _; rw [sizeS, HC.out]; simp [scells_length s hs.h.d hs.g]
  have HR : Hid ((w.alloc (.cells C 40)).heap[w.heap.size]? = some (.cells C 40 (0, 0))) := heap_alloc_new w _
  have HB : Hid (Below w.heap.size w (w.alloc (.cells C 40))) := (Below.refl _ _).alloc (Nat.le_refl _) _
  have K1 : Hid (∀ W, Calls Tryd.prog 23 #[.agg C] W fun e w' => e = .returned (.bool false) ∧ Below W.heap.size W w') := fun W => by
    have := hMay_any s hs.h.d W C HC
    rwa [hm] at this
  clear HC hm hs
  go_enter Tryd.func9, Tryd.ntmps9
  go_wp2_with (first
    | (show wpList _ _ _ ({ dst := some 4, op := _, type := _, pos := _, after := _, guard := _ } :: _) _ _; refine wpList_load_row rfl 40 (.tmp 1) rfl w.heap.size rfl 40 C (0, 0) _ HR.out Tryd.underlying40 rfl HSC.out ?_; try simp only [Act.put, List.setIfInBounds_toArray, List.set_cons_zero, List.set_cons_succ])
    | fail)
  refine (K1.out _).mono ?_
  rintro e w1 ⟨rfl, hb1⟩
  have HB1 := hidk (HB.out.trans (hb1.mono HB.out.size))
  clear hb1
  go_wp2
  go_ret2
  exact ⟨bytes_no _ _, HB1.out⟩
set_option maxHeartbeats 8000000 in
theorem hPutS_yes (s : SgT) (hs : InS s) (hm : mayS s = true) (w : World) (C : Array Value) (HC : Hid (C = (scells s).toArray)) :
    Calls Tryd.prog 9 #[.agg C] w fun e w' => BytesE (signB s) 0 e w' ∧ Below w.heap.size w w' := by
  have hnot : ∀ (x : Bool) (w : World), (Op.unary .not (.bool x)).run Tryd.prog w = .ok (.bool (!x)) w := fun _ _ => rfl
  have hd := hs.h.d
  have hg := hs.g
  have hrt := ((mayS_iff s).1 hm).1
  have HSC : Hid ((Tryd.prog.info? 40).map (·.size) = some C.size) := by show _ = _; rw [sizeS, HC.out]; simp [scells_length s hd hg]
  have HRW : Hid ((w.alloc (.cells C 40)).heap[w.heap.size]? = some (.cells C 40 (0, 0))) := heap_alloc_new w _
  have K1 : Hid (∀ W, Calls Tryd.prog 23 #[.agg C] W fun e w' => e = .returned (.bool true) ∧ Below W.heap.size W w') := fun W => by
    have := hMay_any s hd W C HC
    rwa [hm] at this
  have HR := hidk (srow_new w s hd C HC 40)
  have HB : Hid (Below w.heap.size w (w.alloc (.cells C 40))) := (Below.refl _ _).alloc (Nat.le_refl _) _
  obtain ⟨HCs, HHC, HSH, H36⟩ := head_row s.h hd
  obtain ⟨D, HD, HSD, H1D, H32D⟩ := dig_row' s.g hg
  obtain ⟨n, Hn⟩ : ∃ n, Hid (n = s.n) := ⟨s.n, hidk rfl⟩
  obtain ⟨n2, Hn2⟩ : ∃ x : ByteArray, Hid (x = nOf n) := ⟨nOf n, hidk rfl⟩
  obtain ⟨x1, HX1⟩ : ∃ x : ByteArray, Hid (x = bA (headB s.h)) := ⟨bA (headB s.h), hidk rfl⟩
  obtain ⟨x3, HX3⟩ : ∃ x : ByteArray, Hid (x = bA s.g) := ⟨bA s.g, hidk rfl⟩
  obtain ⟨l, Hl⟩ : ∃ l, Hid (l = signB s) := ⟨signB s, hidk rfl⟩
  have B1 : Hid (∀ W, Calls Tryd.prog 28 #[.agg HCs] W fun e w' => e = .returned (.string x1) ∧ Below W.heap.size W w') := fun W => by
    have := hLaid_any s.h hd W HCs HHC
    rwa [show putB s.h = headB s.h by unfold putB; rw [if_pos hrt], ← HX1.out] at this
  have N2 : Hid (∀ W, Calls Tryd.prog 29 #[.int .i64 2, .int .i64 n] W fun e w' => e = .returned (.agg #[.int .i64 2, .string n2]) ∧ Below W.heap.size W w') := fun W => by rw [Hn2.out]; exact hNum_any 2 n W
  have X3 : Hid (∀ W, Calls Tryd.prog 30 #[.int .i64 3, .agg D] W fun e w' => e = .returned (.agg #[.int .i64 3, .string x3]) ∧ Below W.heap.size W w') := fun W => by rw [HX3.out]; exact hDig_any 3 s.g hg W D HD
  have hL3 : fieldsN (sL s) = [(1, x1), (2, n2), (3, x3)] := by rw [HX1.out, Hn2.out, HX3.out, Hn.out]; rfl
  have LY : Hid (∀ W, Calls Tryd.prog 27 #[.slice (some ⟨W.heap.size, 0, none⟩) 3 3] (W.alloc (.cells #[.int .i64 1, .string x1, .int .i64 2, .string n2, .int .i64 3, .string x3] 69)) fun e w' => ∃ a c, e = .returned (.tuple #[.slice a l.length c, .int .i64 0]) ∧ Reads w' a l.length c l ∧ Below W.heap.size W w') := fun W => by
    have hk := layE_sL s hd hg
    have hrw := rowOf_ok hk
    rw [hL3] at hk hrw
    have hmm : ∀ f ∈ [((1 : Int), x1), (2, n2), (3, x3)], f.2.size ≤ maxLen := fun y hy => by
      simp only [List.mem_cons, List.not_mem_nil, or_false] at hy
      unfold maxLen
      rcases hy with rfl | rfl | rfl
      · have := bA_size (headB s.h); rw [← HX1.out] at this; have := headB_length s.h hd; show x1.size ≤ _; omega
      · have := nOf_size n; rw [← Hn2.out] at this; show n2.size ≤ _; omega
      · have := bA_size s.g; rw [← HX3.out] at this; show x3.size ≤ _; omega
    have hF := freads_lit W #[.int .i64 1, .string x1, .int .i64 2, .string n2, .int .i64 3, .string x3] (0, 0) [((1 : Int), x1), (2, n2), (3, x3)] rfl (by show 3 ≤ 1048576; decide) hmm
    rw [← alloc_size W (.cells #[.int .i64 1, .string x1, .int .i64 2, .string n2, .int .i64 3, .string x3] 69)] at hF
    refine (lay_reads (some ⟨W.heap.size, 0, none⟩) 3 3 [((1 : Int), x1), (2, n2), (3, x3)] _ hF (by decide) (k := 0) (l := l) hk (by rw [hrw, Hl.out, ← hL3]; rfl)).mono ?_
    rintro e w' ⟨a, c, he, hrd, hb⟩
    exact ⟨a, c, he, hrd, ((Below.refl _ _).alloc (Nat.le_refl _) _).trans (hb.mono (by simp))⟩
  have HDL : Hid (D.toList = cellsOf s.g) := by show _ = _; rw [HD.out]
  have HHL : Hid (HCs.toList = hcells s.h) := by show _ = _; rw [HHC.out]
  rw [← Hl.out]
  clear HC hL3 HX1 HX3 HD Hn2 Hl hm hrt
  go_enter Tryd.func9, Tryd.ntmps9
  go_wp2_with (first
    | (show wpList _ _ _ ({ dst := some 4, op := _, type := _, pos := _, after := _, guard := _ } :: _) _ _; refine wpList_load_row rfl 40 (.tmp 1) rfl w.heap.size rfl 40 C (0, 0) _ HRW.out Tryd.underlying40 rfl HSC.out ?_; try simp only [Act.put, List.setIfInBounds_toArray, List.set_cons_zero, List.set_cons_succ])
    | fail)
  refine (K1.out _).mono ?_
  rintro e w0 ⟨rfl, hb0⟩
  have HB0 := hidk (HB.out.trans (hb0.mono HB.out.size))
  have HR0 := hidk (HR.out.keep hb0)
  clear hb0 HB HR HRW K1
  go_wp2
  refine wp_region_held_drew (S := (fun W => SRow W w.heap.size 0 s)) (by kernel_rfl) (show SRow w0.drew w.heap.size 0 s from HR0.out.keep (Below.refl _ _).drew) (fun hHeld => ?_)
  refine wpAnyH_take (i := 0) (oi := { dst := some 7, op := Op.fieldAddr 40 (Operand.tmp 1) 0, type := 0, pos := "head.go:96", after := #[], guard := none }) (v := .pointer (some ⟨w.heap.size, 0, none⟩)) rfl (by kernel_rfl) (by kernel_rfl) (by kernel_rfl) (fun _ _ _ h => h) (Or.inl ⟨by rfl, by intro W hSw; go_simp⟩) hHeld ?_
  try simp only [Act.put, List.setIfInBounds_toArray, List.set_cons_zero, List.set_cons_succ]
  refine wpAnyH_take (i := 1) (oi := { dst := some 8, op := Op.load 38 (Operand.tmp 7), type := 38, pos := "head.go:96", after := #[{ on := 0, ground := Ground.data }], guard := none }) (v := .agg HCs) rfl (by kernel_rfl) (by kernel_rfl) (by kernel_rfl) (fun _ _ _ h => h) (yieldsIf_mid (by rfl) 38 (.tmp 7) rfl w.heap.size 0 rfl HCs _ (fun _ h => by rw [HHL.out]; exact h.h) Tryd.underlying38 rfl HSH.out) hHeld ?_
  try simp only [Act.put, List.setIfInBounds_toArray, List.set_cons_zero, List.set_cons_succ]
  refine wpAnyH_take (i := 4) (oi := { dst := some 11, op := Op.fieldAddr 40 (Operand.tmp 1) 1, type := 0, pos := "head.go:96", after := #[], guard := none }) (v := .pointer (some ⟨w.heap.size, 36, none⟩)) rfl (by kernel_rfl) (by kernel_rfl) (by kernel_rfl) (fun _ _ _ h => h) (Or.inl ⟨by rfl, by intro W hSw; go_simp⟩) hHeld ?_
  try simp only [Act.put, List.setIfInBounds_toArray, List.set_cons_zero, List.set_cons_succ]
  refine wpAnyH_take (i := 5) (oi := { dst := some 12, op := Op.load 3 (Operand.tmp 11), type := 3, pos := "head.go:96", after := #[{ on := 4, ground := Ground.data }], guard := none }) (v := .int .i64 n) rfl (by kernel_rfl) (by kernel_rfl) (by kernel_rfl) (fun _ _ _ h => h) (Or.inl ⟨by rfl, by intro W hSw; have h1 := hSw.n; rw [← Hn.out, Nat.zero_add] at h1; go_simp⟩) hHeld ?_
  try simp only [Act.put, List.setIfInBounds_toArray, List.set_cons_zero, List.set_cons_succ]
  refine wpAnyH_take (i := 7) (oi := { dst := some 14, op := Op.fieldAddr 40 (Operand.tmp 1) 2, type := 0, pos := "head.go:96", after := #[], guard := none }) (v := .pointer (some ⟨w.heap.size, 37, none⟩)) rfl (by kernel_rfl) (by kernel_rfl) (by kernel_rfl) (fun _ _ _ h => h) (Or.inl ⟨by rfl, by intro W hSw; go_simp⟩) hHeld ?_
  try simp only [Act.put, List.setIfInBounds_toArray, List.set_cons_zero, List.set_cons_succ]
  refine wpAnyH_take (i := 8) (oi := { dst := some 15, op := Op.load 30 (Operand.tmp 14), type := 30, pos := "head.go:96", after := #[{ on := 7, ground := Ground.data }], guard := none }) (v := .agg D) rfl (by kernel_rfl) (by kernel_rfl) (by kernel_rfl) (fun _ _ _ h => h) (yieldsIf_mid (by rfl) 30 (.tmp 14) rfl w.heap.size 37 rfl D _ (fun _ h => by rw [HDL.out]; have := h.g; rwa [Nat.zero_add] at this) Tryd.underlying30 rfl HSD.out) hHeld ?_
  try simp only [Act.put, List.setIfInBounds_toArray, List.set_cons_zero, List.set_cons_succ]
  refine wpAnyH_ready (rs := [2]) (by kernel_rfl) (by simp) ?_
  refine (AllReadyH.cons (o := { dst := some 9, op := Op.call { callee := Callee.value (Operand.func 28), args := #[Operand.tmp 8], argTypes := #[38] }, type := 9, pos := "head.go:97", after := #[{ on := 1, ground := Ground.data }], guard := none }) rfl (fun K hK => ?_) AllReadyH.nil)
  go_simp
  refine (B1.out _).mono ?_
  rintro e w2 ⟨rfl, hb1⟩
  have HBc := hidk (HB0.out.drew.trans (hb1.mono HB0.out.size))
  go_wp2_with fail
  refine hK.out _ _ (hHeld.keep hb1) (fun hHeld => ?_)
  clear hK K
  try simp only [Act.put, List.setIfInBounds_toArray, List.set_cons_zero, List.set_cons_succ]
  refine wpAnyH_take (i := 3) (oi := { dst := some 10, op := Op.build 69 #[(0, Operand.const (Value.int IntKind.i64 1)), (1, Operand.tmp 9)], type := 69, pos := "head.go:96", after := #[{ on := 2, ground := Ground.data }], guard := none }) (v := .agg #[.int .i64 1, .string x1]) rfl (by kernel_rfl) (by kernel_rfl) (by kernel_rfl) (fun _ _ _ h => h) (Or.inl ⟨by rfl, by intro W hSw; go_simp⟩) hHeld ?_
  try simp only [Act.put, List.setIfInBounds_toArray, List.set_cons_zero, List.set_cons_succ]
  refine wpAnyH_ready (rs := [6]) (by kernel_rfl) (by simp) ?_
  refine (AllReadyH.cons (o := { dst := some 13, op := Op.call { callee := Callee.value (Operand.func 29), args := #[Operand.const (Value.int IntKind.i64 2), Operand.tmp 12], argTypes := #[3, 3] }, type := 69, pos := "head.go:98", after := #[{ on := 5, ground := Ground.data }, { on := 2, ground := Ground.chain }], guard := none }) rfl (fun K hK => ?_) AllReadyH.nil)
  go_simp
  refine (N2.out _).mono ?_
  rintro e w6 ⟨rfl, hb2⟩
  replace HBc := hidk (HBc.out.trans (hb2.mono HBc.out.size))
  go_wp2_with fail
  refine hK.out _ _ (hHeld.keep hb2) (fun hHeld => ?_)
  clear hK K
  try simp only [Act.put, List.setIfInBounds_toArray, List.set_cons_zero, List.set_cons_succ]
  refine wpAnyH_ready (rs := [9]) (by kernel_rfl) (by simp) ?_
  refine (AllReadyH.cons (o := { dst := some 16, op := Op.call { callee := Callee.value (Operand.func 30), args := #[Operand.const (Value.int IntKind.i64 3), Operand.tmp 15], argTypes := #[3, 30] }, type := 69, pos := "head.go:99", after := #[{ on := 8, ground := Ground.data }, { on := 6, ground := Ground.chain }], guard := none }) rfl (fun K hK => ?_) AllReadyH.nil)
  go_simp
  refine (X3.out _).mono ?_
  rintro e w9 ⟨rfl, hb3⟩
  replace HBc := hidk (HBc.out.trans (hb3.mono HBc.out.size))
  go_wp2_with fail
  refine hK.out _ _ (hHeld.keep hb3) (fun hHeld => ?_)
  clear hK K
  try simp only [Act.put, List.setIfInBounds_toArray, List.set_cons_zero, List.set_cons_succ]
  refine wpAnyH_ready (rs := [10]) (by kernel_rfl) (by simp) ?_
  refine (AllReadyH.cons (o := { dst := some 17, op := Op.buildSlice 72 3 #[(0, Operand.tmp 10), (1, Operand.tmp 13), (2, Operand.tmp 16)], type := 72, pos := "head.go:96", after := #[{ on := 3, ground := Ground.data }, { on := 6, ground := Ground.data }, { on := 9, ground := Ground.data }], guard := none }) rfl (fun K hK => ?_) AllReadyH.nil)
  have HRc := hidk hHeld
  go_simp
  refine hK.out _ _ (hHeld.keep ((Below.refl _ _).alloc (Nat.le_refl _) _)) (fun hHeld => ?_)
  clear hK K
  try simp only [Act.put, List.setIfInBounds_toArray, List.set_cons_zero, List.set_cons_succ]
  refine wpAnyH_ready (rs := [11]) (by kernel_rfl) (by simp) ?_
  refine (AllReadyH.cons (o := { dst := some 18, op := Op.call { callee := Callee.value (Operand.func 27), args := #[Operand.tmp 17], argTypes := #[72] }, type := 44, pos := "head.go:96", after := #[{ on := 10, ground := Ground.data }, { on := 9, ground := Ground.chain }], guard := none }) rfl (fun K hK => ?_) AllReadyH.nil)
  go_simp
  refine (LY.out _).mono ?_
  rintro e w11 ⟨a11, c11, rfl, hrd, hb6⟩
  have HRD := hidk hrd
  have HBF := hidk (HBc.out.trans (hb6.mono HBc.out.size))
  go_wp2_with fail
  refine hK.out _ _ (HRc.out.keep hb6) (fun hHeld => ?_)
  clear hK K
  try simp only [Act.put, List.setIfInBounds_toArray, List.set_cons_zero, List.set_cons_succ]
  refine wpAnyH_take (i := 12) (oi := { dst := some 19, op := Op.extract (Operand.tmp 18) 0, type := 43, pos := "head.go:96", after := #[{ on := 11, ground := Ground.data }], guard := none }) (v := .slice a11 l.length c11) rfl (by kernel_rfl) (by kernel_rfl) (by kernel_rfl) (fun _ _ _ h => h) (Or.inl ⟨by rfl, by intro W hSw; go_simp⟩) hHeld ?_
  try simp only [Act.put, List.setIfInBounds_toArray, List.set_cons_zero, List.set_cons_succ]
  refine wpAnyH_take (i := 13) (oi := { dst := some 20, op := Op.extract (Operand.tmp 18) 1, type := 32, pos := "head.go:96", after := #[{ on := 11, ground := Ground.data }], guard := none }) (v := .int .i64 0) rfl (by kernel_rfl) (by kernel_rfl) (by kernel_rfl) (fun _ _ _ h => h) (Or.inl ⟨by rfl, by intro W hSw; go_simp⟩) hHeld ?_
  try simp only [Act.put, List.setIfInBounds_toArray, List.set_cons_zero, List.set_cons_succ]
  refine wpAnyH_take (i := 14) (oi := { dst := some 2, op := Op.assign (Operand.tmp 19), type := 43, pos := "head.go:96", after := #[{ on := 12, ground := Ground.data }, { on := 11, ground := Ground.chain }, { on := 0, ground := Ground.phase }, { on := 1, ground := Ground.phase }, { on := 2, ground := Ground.phase }, { on := 3, ground := Ground.phase }, { on := 4, ground := Ground.phase }, { on := 5, ground := Ground.phase }, { on := 6, ground := Ground.phase }, { on := 7, ground := Ground.phase }, { on := 8, ground := Ground.phase }, { on := 9, ground := Ground.phase }, { on := 10, ground := Ground.phase }, { on := 11, ground := Ground.phase }, { on := 12, ground := Ground.phase }, { on := 13, ground := Ground.phase }], guard := none }) (v := .slice a11 l.length c11) rfl (by kernel_rfl) (by kernel_rfl) (by kernel_rfl) (fun _ _ _ h => h) (Or.inl ⟨by rfl, by intro W hSw; go_simp⟩) hHeld ?_
  try simp only [Act.put, List.setIfInBounds_toArray, List.set_cons_zero, List.set_cons_succ]
  refine wpAnyH_take (i := 15) (oi := { dst := some 3, op := Op.assign (Operand.tmp 20), type := 32, pos := "head.go:96", after := #[{ on := 13, ground := Ground.data }, { on := 14, ground := Ground.chain }, { on := 0, ground := Ground.phase }, { on := 1, ground := Ground.phase }, { on := 2, ground := Ground.phase }, { on := 3, ground := Ground.phase }, { on := 4, ground := Ground.phase }, { on := 5, ground := Ground.phase }, { on := 6, ground := Ground.phase }, { on := 7, ground := Ground.phase }, { on := 8, ground := Ground.phase }, { on := 9, ground := Ground.phase }, { on := 10, ground := Ground.phase }, { on := 11, ground := Ground.phase }, { on := 12, ground := Ground.phase }, { on := 13, ground := Ground.phase }, { on := 14, ground := Ground.phase }], guard := none }) (v := .int .i64 0) rfl (by kernel_rfl) (by kernel_rfl) (by kernel_rfl) (fun _ _ _ h => h) (Or.inl ⟨by rfl, by intro W hSw; go_simp⟩) hHeld ?_
  try simp only [Act.put, List.setIfInBounds_toArray, List.set_cons_zero, List.set_cons_succ]
  refine wpAnyH_done (by kernel_rfl) ?_ _
  go_wp2
  go_ret2
  exact ⟨⟨_, _, rfl, HRD.out⟩, HBF.out⟩
theorem hPutS_any (s : SgT) (hs : InS s) (w : World) (C : Array Value) (HC : Hid (C = (scells s).toArray)) :
    Calls Tryd.prog 9 #[.agg C] w fun e w' => BytesE (putSB s) (putSE s) e w' ∧ Below w.heap.size w w' := by
  unfold putSB putSE
  cases hr : mayS s
  · exact hPutS_no s hs hr w C HC
  · exact hPutS_yes s hs hr w C HC
theorem came2 (w : World) (M C : Array Value) (t u : TypeId) : Below w.heap.size w ((w.alloc (.cells M t)).alloc (.cells C u)) ∧ ((w.alloc (.cells M t)).alloc (.cells C u)).heap[w.heap.size]? = some (.cells M t (0, 0)) ∧ ((w.alloc (.cells M t)).alloc (.cells C u)).heap[w.heap.size + 1]? = some (.cells C u (0, 0)) :=
  ⟨((Below.refl _ _).alloc (Nat.le_refl _) _).alloc (by simp) _, heap_keep (heap_alloc_new w _), by have := heap_alloc_new (w.alloc (.cells M t)) (.cells C u); rwa [alloc_size] at this⟩
theorem srow_row {W : World} {g : Nat} {s : SgT} (hd : s.h.d.length = 32) {C : Array Value} (HC : Hid (C = (scells s).toArray)) {t : TypeId} (h : W.heap[g]? = some (.cells C t (0, 0))) : SRow W g 0 s := by
  refine srow_of hd fun j v hj => ?_
  rw [Nat.zero_add, cell_of_row _ _ j _ t (0, 0) h, HC.out]
  simpa using hj
theorem srow_r {W : World} {g : Nat} {s : SgT} (h : SRow W g 0 s) : W.cell? ⟨g, 0, none⟩ = some (.int .i64 s.h.r) := by
  have := h.h 0 (.int .i64 s.h.r) rfl
  simpa using this
set_option maxHeartbeats 8000000 in
theorem hVerify_any (master : List UInt8) (s : SgT) (w : World) (M C : Array Value) (HM : Hid (M = (cellsOf master).toArray)) (HC : Hid (C = (scells s).toArray)) (hm : master.length = 32) (hs : InS s) (hT : TabT w) :
    Calls Tryd.prog 11 #[.agg M, .agg C] w fun e w' => e = .returned (.int .i64 (verE master s)) ∧ Below w.heap.size w w' := by
  have hnot : ∀ (x : Bool) (w : World), (Op.unary .not (.bool x)).run Tryd.prog w = .ok (.bool (!x)) w := fun _ _ => rfl
  have hd := hs.h.d
  have hg := hs.g
  have HSM : Hid ((Tryd.prog.info? 24).map (·.size) = some M.size) := by show _ = _; rw [sizeY, HM.out]; simp [cellsOf_length, hm]
  have HSC : Hid ((Tryd.prog.info? 40).map (·.size) = some C.size) := by show _ = _; rw [sizeS, HC.out]; simp [scells_length s hd hg]
  obtain ⟨b, hb⟩ : ∃ b, b = mayS s := ⟨_, rfl⟩
  have K1 : Hid (∀ W, Calls Tryd.prog 23 #[.agg C] W fun e w' => e = .returned (.bool b) ∧ Below W.heap.size W w') := fun W => by rw [hb]; exact hMay_any s hd W C HC
  obtain ⟨r, Hr⟩ : ∃ r, Hid (r = s.h.r) := ⟨s.h.r, hidk rfl⟩
  obtain ⟨n, Hn⟩ : ∃ n, Hid (n = s.n) := ⟨s.n, hidk rfl⟩
  obtain ⟨HCs, HHC, HSH, H36⟩ := head_row s.h hd
  obtain ⟨D, HD, HSD, H1D, H32D⟩ := dig_row' s.g hg
  obtain ⟨u, HU⟩ : ∃ u, Hid (u = signT s.h) := ⟨_, hidk rfl⟩
  have T1 : Hid (∀ W, Calls Tryd.prog 26 #[.agg HCs] W fun e w' => e = .returned (.string u) ∧ Below W.heap.size W w') := fun W => by rw [HU.out]; exact hText_any s.h hd W HCs HHC
  obtain ⟨k, Hk⟩ : ∃ k, Hid (k = holdE master r n u.data.toList s.g) := ⟨_, hidk rfl⟩
  have Q1 : Hid (∀ W, Below w.heap.size w W → Calls Tryd.prog 39 #[.agg M, .int .i64 r, .int .i64 n, .string u, .agg D] W fun e w' => e = .returned (.int .i64 k) ∧ Below W.heap.size W w') := fun W hbw => by
    rw [Hk.out]
    exact holds_any master r n u s.g W M D HM HD hm hg (by rw [HU.out]; exact signT_size s.h hd) (hT.keep hbw)
  have HV : Hid (verE master s = if b = true then k else 70) := by
    show _ = _
    unfold verE
    rw [hb]
    cases hq : mayS s
    · rfl
    · have ho := mayS_owner s hq
      have hrt := ((mayS_iff s).1 hq).1
      rw [if_pos rfl, if_pos rfl, Hk.out, Hr.out, Hn.out, HU.out, holdE_in _ _ _ _ _ ho, signT_right s.h hrt]
      rfl
  rw [HV.out]
  have HW0 := hidk (came2 w M C 24 40)
  have HS0 := hidk (srow_row hd HC HW0.out.2.2)
  have HDL : Hid (D.toList = cellsOf s.g) := by show _ = _; rw [HD.out]
  have HHL : Hid (HCs.toList = hcells s.h) := by show _ = _; rw [HHC.out]
  clear HC HM hT HD HV Hk HU hb
  cases b
  · go_enter Tryd.func11, Tryd.ntmps11
    go_wp2_with (first
      | (show wpList _ _ _ ({ dst := some 5, op := _, type := _, pos := _, after := _, guard := _ } :: _) _ _; refine wpList_load_row rfl 40 (.tmp 3) rfl (w.heap.size + 1) rfl 40 C (0, 0) _ HW0.out.2.2 Tryd.underlying40 rfl HSC.out ?_; try simp only [Act.put, List.setIfInBounds_toArray, List.set_cons_zero, List.set_cons_succ])
      | fail)
    refine (K1.out _).mono ?_
    rintro e w1 ⟨rfl, hb1⟩
    have HB1 := hidk (HW0.out.1.trans (hb1.mono HW0.out.1.size))
    clear hb1
    go_wp2
    go_ret
    exact ⟨rfl, HB1.out⟩
  · go_enter Tryd.func11, Tryd.ntmps11
    go_wp2_with (first
      | (show wpList _ _ _ ({ dst := some 5, op := _, type := _, pos := _, after := _, guard := _ } :: _) _ _; refine wpList_load_row rfl 40 (.tmp 3) rfl (w.heap.size + 1) rfl 40 C (0, 0) _ HW0.out.2.2 Tryd.underlying40 rfl HSC.out ?_; try simp only [Act.put, List.setIfInBounds_toArray, List.set_cons_zero, List.set_cons_succ])
      | fail)
    refine (K1.out _).mono ?_
    rintro e w1 ⟨rfl, hb1⟩
    have HB1 := hidk (HW0.out.1.trans (hb1.mono HW0.out.1.size))
    have HM1 := hidk ((hb1.block _ (heap_lt HW0.out.2.1)).trans HW0.out.2.1)
    have HS1 := hidk (HS0.out.keep hb1)
    clear hb1 HW0 HS0 K1
    go_wp2
    refine wp_region_held_drew (S := (fun W => W.heap[w.heap.size]? = some (.cells M 24 (0, 0)) ∧ SRow W (w.heap.size + 1) 0 s)) (by kernel_rfl) ⟨HM1.out, HS1.out.keep (Below.refl _ _).drew⟩ (fun hHeld => ?_)
    refine wpAnyH_take (i := 0) (oi := { dst := some 8, op := Op.load 24 (Operand.tmp 2), type := 24, pos := "head.go:88", after := #[], guard := none }) (v := .agg M) rfl (by kernel_rfl) (by kernel_rfl) (by kernel_rfl) (fun _ _ _ h => h) (yieldsIf_row (by rfl) 24 (.tmp 2) rfl w.heap.size rfl 24 M (0, 0) _ (fun _ h => h.1) Tryd.underlying24 rfl HSM.out) hHeld ?_
    try simp only [Act.put, List.setIfInBounds_toArray, List.set_cons_zero, List.set_cons_succ]
    refine wpAnyH_take (i := 1) (oi := { dst := some 9, op := Op.fieldAddr 40 (Operand.tmp 3) 0, type := 0, pos := "head.go:88", after := #[], guard := none }) (v := .pointer (some ⟨w.heap.size + 1, 0, none⟩)) rfl (by kernel_rfl) (by kernel_rfl) (by kernel_rfl) (fun _ _ _ h => h) (Or.inl ⟨by rfl, by intro W hSw; go_simp⟩) hHeld ?_
    try simp only [Act.put, List.setIfInBounds_toArray, List.set_cons_zero, List.set_cons_succ]
    refine wpAnyH_take (i := 2) (oi := { dst := some 10, op := Op.fieldAddr 38 (Operand.tmp 9) 0, type := 0, pos := "head.go:88", after := #[{ on := 1, ground := Ground.data }], guard := none }) (v := .pointer (some ⟨w.heap.size + 1, 0, none⟩)) rfl (by kernel_rfl) (by kernel_rfl) (by kernel_rfl) (fun _ _ _ h => h) (Or.inl ⟨by rfl, by intro W hSw; go_simp⟩) hHeld ?_
    try simp only [Act.put, List.setIfInBounds_toArray, List.set_cons_zero, List.set_cons_succ]
    refine wpAnyH_take (i := 3) (oi := { dst := some 11, op := Op.load 3 (Operand.tmp 10), type := 3, pos := "head.go:88", after := #[{ on := 2, ground := Ground.data }], guard := none }) (v := .int .i64 r) rfl (by kernel_rfl) (by kernel_rfl) (by kernel_rfl) (fun _ _ _ h => h) (Or.inl ⟨by rfl, by intro W hSw; have h1 := srow_r hSw.2; rw [← Hr.out] at h1; go_simp⟩) hHeld ?_
    try simp only [Act.put, List.setIfInBounds_toArray, List.set_cons_zero, List.set_cons_succ]
    refine wpAnyH_take (i := 4) (oi := { dst := some 12, op := Op.fieldAddr 40 (Operand.tmp 3) 1, type := 0, pos := "head.go:88", after := #[], guard := none }) (v := .pointer (some ⟨w.heap.size + 1, 36, none⟩)) rfl (by kernel_rfl) (by kernel_rfl) (by kernel_rfl) (fun _ _ _ h => h) (Or.inl ⟨by rfl, by intro W hSw; go_simp⟩) hHeld ?_
    try simp only [Act.put, List.setIfInBounds_toArray, List.set_cons_zero, List.set_cons_succ]
    refine wpAnyH_take (i := 5) (oi := { dst := some 13, op := Op.load 3 (Operand.tmp 12), type := 3, pos := "head.go:88", after := #[{ on := 4, ground := Ground.data }], guard := none }) (v := .int .i64 n) rfl (by kernel_rfl) (by kernel_rfl) (by kernel_rfl) (fun _ _ _ h => h) (Or.inl ⟨by rfl, by intro W hSw; have h1 := hSw.2.n; rw [← Hn.out, Nat.zero_add] at h1; go_simp⟩) hHeld ?_
    try simp only [Act.put, List.setIfInBounds_toArray, List.set_cons_zero, List.set_cons_succ]
    refine wpAnyH_take (i := 6) (oi := { dst := some 14, op := Op.fieldAddr 40 (Operand.tmp 3) 0, type := 0, pos := "head.go:88", after := #[], guard := none }) (v := .pointer (some ⟨w.heap.size + 1, 0, none⟩)) rfl (by kernel_rfl) (by kernel_rfl) (by kernel_rfl) (fun _ _ _ h => h) (Or.inl ⟨by rfl, by intro W hSw; go_simp⟩) hHeld ?_
    try simp only [Act.put, List.setIfInBounds_toArray, List.set_cons_zero, List.set_cons_succ]
    refine wpAnyH_take (i := 7) (oi := { dst := some 15, op := Op.load 38 (Operand.tmp 14), type := 38, pos := "head.go:88", after := #[{ on := 6, ground := Ground.data }], guard := none }) (v := .agg HCs) rfl (by kernel_rfl) (by kernel_rfl) (by kernel_rfl) (fun _ _ _ h => h) (yieldsIf_mid (by rfl) 38 (.tmp 14) rfl (w.heap.size + 1) 0 rfl HCs _ (fun _ h => by rw [HHL.out]; exact h.2.h) Tryd.underlying38 rfl HSH.out) hHeld ?_
    try simp only [Act.put, List.setIfInBounds_toArray, List.set_cons_zero, List.set_cons_succ]
    refine wpAnyH_take (i := 9) (oi := { dst := some 17, op := Op.fieldAddr 40 (Operand.tmp 3) 2, type := 0, pos := "head.go:88", after := #[], guard := none }) (v := .pointer (some ⟨w.heap.size + 1, 37, none⟩)) rfl (by kernel_rfl) (by kernel_rfl) (by kernel_rfl) (fun _ _ _ h => h) (Or.inl ⟨by rfl, by intro W hSw; go_simp⟩) hHeld ?_
    try simp only [Act.put, List.setIfInBounds_toArray, List.set_cons_zero, List.set_cons_succ]
    refine wpAnyH_take (i := 10) (oi := { dst := some 18, op := Op.load 30 (Operand.tmp 17), type := 30, pos := "head.go:88", after := #[{ on := 9, ground := Ground.data }], guard := none }) (v := .agg D) rfl (by kernel_rfl) (by kernel_rfl) (by kernel_rfl) (fun _ _ _ h => h) (yieldsIf_mid (by rfl) 30 (.tmp 17) rfl (w.heap.size + 1) 37 rfl D _ (fun _ h => by rw [HDL.out]; have := h.2.g; rwa [Nat.zero_add] at this) Tryd.underlying30 rfl HSD.out) hHeld ?_
    try simp only [Act.put, List.setIfInBounds_toArray, List.set_cons_zero, List.set_cons_succ]
    refine wpAnyH_ready (rs := [8]) (by kernel_rfl) (by simp) ?_
    refine (AllReadyH.cons (o := { dst := some 16, op := Op.call { callee := Callee.value (Operand.func 26), args := #[Operand.tmp 15], argTypes := #[38] }, type := 9, pos := "head.go:88", after := #[{ on := 7, ground := Ground.data }], guard := none }) rfl (fun K hK => ?_) AllReadyH.nil)
    go_simp
    refine (T1.out _).mono ?_
    rintro e w8 ⟨rfl, hb8⟩
    have HBc := hidk (HB1.out.drew.trans (hb8.mono HB1.out.size))
    go_wp2_with fail
    refine hK.out _ _ ⟨(hb8.block _ (heap_lt hHeld.1)).trans hHeld.1, hHeld.2.keep hb8⟩ (fun hHeld => ?_)
    clear hK K
    try simp only [Act.put, List.setIfInBounds_toArray, List.set_cons_zero, List.set_cons_succ]
    refine wpAnyH_ready (rs := [11]) (by kernel_rfl) (by simp) ?_
    refine (AllReadyH.cons (o := { dst := some 19, op := Op.call { callee := Callee.value (Operand.func 39), args := #[Operand.tmp 8, Operand.tmp 11, Operand.tmp 13, Operand.tmp 16, Operand.tmp 18], argTypes := #[24, 3, 3, 9, 30] }, type := 32, pos := "head.go:88", after := #[{ on := 0, ground := Ground.data }, { on := 3, ground := Ground.data }, { on := 5, ground := Ground.data }, { on := 8, ground := Ground.data }, { on := 10, ground := Ground.data }, { on := 8, ground := Ground.chain }], guard := none }) rfl (fun K hK => ?_) AllReadyH.nil)
    go_simp
    refine (Q1.out _ HBc.out).mono ?_
    rintro e w11 ⟨rfl, hb9⟩
    have HBF := hidk (HBc.out.trans (hb9.mono HBc.out.size))
    go_wp2_with fail
    refine hK.out _ _ ⟨(hb9.block _ (heap_lt hHeld.1)).trans hHeld.1, hHeld.2.keep hb9⟩ (fun hHeld => ?_)
    clear hK K
    try simp only [Act.put, List.setIfInBounds_toArray, List.set_cons_zero, List.set_cons_succ]
    refine wpAnyH_take (i := 12) (oi := { dst := some 4, op := Op.assign (Operand.tmp 19), type := 32, pos := "head.go:88", after := #[{ on := 11, ground := Ground.data }, { on := 11, ground := Ground.chain }, { on := 0, ground := Ground.phase }, { on := 1, ground := Ground.phase }, { on := 2, ground := Ground.phase }, { on := 3, ground := Ground.phase }, { on := 4, ground := Ground.phase }, { on := 5, ground := Ground.phase }, { on := 6, ground := Ground.phase }, { on := 7, ground := Ground.phase }, { on := 8, ground := Ground.phase }, { on := 9, ground := Ground.phase }, { on := 10, ground := Ground.phase }, { on := 11, ground := Ground.phase }], guard := none }) (v := .int .i64 k) rfl (by kernel_rfl) (by kernel_rfl) (by kernel_rfl) (fun _ _ _ h => h) (Or.inl ⟨by rfl, by intro W hSw; go_simp⟩) hHeld ?_
    try simp only [Act.put, List.setIfInBounds_toArray, List.set_cons_zero, List.set_cons_succ]
    refine wpAnyH_done (by kernel_rfl) ?_ _
    go_wp2
    go_ret
    exact ⟨rfl, HBF.out⟩
end Go.Proofs.YtdnhnjimhbbababDoor.P7

/- What head.Sign answers. -/
namespace Go.Proofs.YtdnhnjimhbbababDoor.P7
open Go.RowKit Sums Nums
set_option linter.unusedVariables false
set_option linter.unusedSimpArgs false
set_option maxRecDepth 100000
theorem builtS2 (h : HdT) (n : Int) (hd : h.d.length = 32) (C R : Array Value) (HC : Hid (C = (hcells h).toArray)) (HR : Hid (R = (scells ⟨h, n, List.replicate 32 0⟩).toArray)) : Tryd.prog.built 40 [(0, .agg C), (1, .int .i64 n)] = some R := by
  have hi := infoS
  have hzl := hcells_length zeroH rfl
  cases hq : Tryd.prog.info? 40 with
  | none => rw [hq] at hi; cases hi
  | some i =>
    rw [hq] at hi
    simp only [Option.map_some, Option.some.injEq, Prod.mk.injEq] at hi
    have hH := sizeH
    have hD := size23
    have h3 : (Tryd.prog.info? 3).map (·.size) = some 1 := by kernel_rfl
    cases hqH : Tryd.prog.info? 38 with
    | none => rw [hqH] at hH; cases hH
    | some iH =>
      cases hqD : Tryd.prog.info? 30 with
      | none => rw [hqD] at hD; cases hD
      | some iD =>
        cases hq3 : Tryd.prog.info? 3 with
        | none => rw [hq3] at h3; cases h3
        | some i3 =>
          rw [hqH] at hH
          rw [hqD] at hD
          rw [hq3] at h3
          simp only [Option.map_some, Option.some.injEq] at hH hD h3
          unfold Program.built
          simp only [hq, Tryd.underlying40, hi.1, List.mapM_cons, List.mapM_nil, hqH, hqD, hq3, hH, hD, h3, Option.map_some, Option.bind_eq_bind, Option.bind_some, Option.pure_def]
          show Instr.fill _ (scells zeroS).toArray _ = some R
          have hc36 : C.size = 36 := by rw [HC.out]; simp [hcells_length h hd]
          refine (fill_val _ 0 0 36 (.agg C) C _ [] (hcells zeroH) ([.int .i64 0] ++ cellsOf (List.replicate 32 0)) _ rfl rfl hc36 (by simp [scells, zeroS]) rfl hzl).trans ?_
          refine (fill_val _ 1 36 1 (.int .i64 n) #[.int .i64 n] _ C.toList [.int .i64 0] (cellsOf (List.replicate 32 0)) _ rfl rfl rfl (by simp) (by simpa using hc36) rfl).trans ?_
          simp only [Instr.fill, List.append_nil, Option.some.injEq]
          rw [HR.out, HC.out]
          rfl
/-- A row stored in the midst of a variable, as one step of a region that draws its order. -/
theorem step_set_mid {P : Program} {ops : Array Oper} {o : Oper} {a : Act} {w : World} {K : Act → World → Prop} {Q : Exit → Act → World → Prop} {E : Prop} (hw : Region.wanted o (yielded ops a.tmps) = true) (ty : TypeId) (x y : Operand) (ho : o.op = .store ty x y)
    (g k : Nat) (D : Array Value) (hx : a.eval x = .pointer (some ⟨g, k, none⟩)) (hy : a.eval y = .agg D) (t' : TypeId) (Z : Array Value) (hg : w.heap[g]? = some (.cells Z t' (0, 0))) (hk : k + D.size ≤ Z.size) (hi : (P.info? ty).map (·.size) = some D.size) (h1 : D.all (·.oneCell') = true)
    (h : ∀ w', Hid (Wrote g (Z.toList.take k ++ D.toList ++ Z.toList.drop (k + D.size)).toArray t' w w') → K (a.put o.dst undef) w') : if Region.wanted o (yielded ops a.tmps) = true then Oper.wp P o a w K Q else E := by
  rw [if_pos hw]
  have hkk := h _ (wrote_row hg)
  have h1' : ∀ v ∈ D.toList, v.oneCell' = true := by
    intro v hv
    rw [Array.all_eq_true'] at h1
    exact h1 v (by simpa using hv)
  have hst := run_storeCells_at P g k t' D.toList 0 Z w hg (by simpa using hk) h1'
  cases hq : P.info? ty with
  | none => simp [hq] at hi
  | some i =>
    have hs : i.size = D.size := by simpa [hq] using hi
    unfold Oper.wp execOp
    simp only [ho, hx, hy, Instr.storeAt, Instr.sureAddr, Sem.run_bind, Sem.run_pure, Result.andThen_ok]
    simp only [Nat.add_zero, Nat.zero_add] at hst
    simp [storeVar, sizeOf, typeInfo, hq, Value.cells, hs, hst]
    simp only [List.append_assoc] at hkk ⊢
    exact hkk
theorem scells_sign (h : HdT) (n : Int) (t d : List UInt8) (hd : h.d.length = 32) (ht : t.length = 32) : ((scells ⟨h, n, t⟩).toArray.toList.take 37 ++ cellsOf d ++ (scells ⟨h, n, t⟩).toArray.toList.drop (37 + 32)).toArray = (scells ⟨h, n, d⟩).toArray := by
  unfold scells
  congr 1
  have e : ∀ l : List Value, l.toArray.toList = l := fun _ => rfl
  simp only [e, List.drop_append, List.take_append, List.length_append, hcells_length h hd, cellsOf_length, ht, List.length_singleton]
  rw [List.take_of_length_le (l := hcells h) (by rw [hcells_length h hd]; omega), List.drop_of_length_le (l := hcells h) (by rw [hcells_length h hd]; omega), List.drop_of_length_le (l := cellsOf t) (by rw [cellsOf_length, ht]; omega)]
  simp
theorem signsO_may (h : HdT) (n : Int) (g : List UInt8) : mayS ⟨h, n, g⟩ = signsO h n := by
  unfold mayS signsO
  rw [Bool.and_assoc]
set_option maxHeartbeats 8000000 in
theorem hSign_any (master : List UInt8) (h : HdT) (n : Int) (w : World) (M C R : Array Value) (HM : Hid (M = (cellsOf master).toArray)) (HC : Hid (C = (hcells h).toArray)) (hm : master.length = 32) (hd : h.d.length = 32) (hT : TabT w) (HR : Hid (R = (scells (signO master h n)).toArray)) :
    Calls Tryd.prog 8 #[.agg M, .agg C, .int .i64 n] w fun e w' => e = .returned (.tuple #[.agg R, .int .i64 (signE h n)]) ∧ Below w.heap.size w w' := by
  have hnot : ∀ (x : Bool) (w : World), (Op.unary .not (.bool x)).run Tryd.prog w = .ok (.bool (!x)) w := fun _ _ => rfl
  obtain ⟨Z, HZ, HA, HBZ, H69⟩ := noughtsS
  obtain ⟨ZY, HZY, HAY, HY32⟩ := noughtsY
  have HSZ : Hid ((Tryd.prog.info? 40).map (·.size) = some Z.size) := by show _ = _; rw [sizeS, H69.out]
  have H1Z : Hid (Z.all (·.oneCell') = true) := by show _ = _; rw [HZ.out]; exact one_cellsS _
  have HSM : Hid ((Tryd.prog.info? 24).map (·.size) = some M.size) := by show _ = _; rw [sizeY, HM.out]; simp [cellsOf_length, hm]
  have HSC : Hid ((Tryd.prog.info? 38).map (·.size) = some C.size) := by show _ = _; rw [sizeH, HC.out]; simp [hcells_length h hd]
  obtain ⟨S0, HS0, HSS, H1S, HS69⟩ := sign_row ⟨h, n, List.replicate 32 0⟩ hd rfl
  have HZS : Hid (Z.size = S0.size) := by show _ = _; rw [H69.out, HS69.out]
  have HBS : Hid (Tryd.prog.built 40 [(0, .agg C), (1, .int .i64 n)] = some S0) := builtS2 h n hd C S0 HC HS0
  obtain ⟨b, hb⟩ : ∃ b, b = signsO h n := ⟨_, rfl⟩
  have K1 : Hid (∀ W, Calls Tryd.prog 23 #[.agg S0] W fun e w' => e = .returned (.bool b) ∧ Below W.heap.size W w') := fun W => by rw [hb, ← signsO_may h n (List.replicate 32 0)]; exact hMay_any ⟨h, n, List.replicate 32 0⟩ hd W S0 HS0
  have HW0 := hidk (came2 w M C 24 38)
  cases b
  · have HRZ : Hid (R = Z) := by
      show _ = _
      rw [HR.out, HZ.out]; unfold signO; rw [← hb]; rfl
    rw [show signE h n = 70 by unfold signE; rw [← hb]; rfl, HRZ.out]
    clear HM HC hm hT HR HS0 hb HRZ HZ H69 HZY HAY HY32
    go_enter Tryd.func8, Tryd.ntmps8
    go_wp2_with (first
      | (show wpList _ _ _ ({ dst := some 6, op := _, type := _, pos := _, after := _, guard := _ } :: _) _ _; refine wpList_new_var rfl 40 rfl Z HA.out ?_; intro g6 w1 HM6; try simp only [Act.put, List.setIfInBounds_toArray, List.set_cons_zero, List.set_cons_succ])
      | (show wpList _ _ _ ({ dst := some 11, op := _, type := _, pos := _, after := _, guard := _ } :: _) _ _; refine wpList_load_row rfl 38 (.tmp 4) rfl (w.heap.size + 1) rfl 38 C (0, 0) _ ((HM6.out.below.block _ (heap_lt HW0.out.2.2)).trans HW0.out.2.2) Tryd.underlying38 rfl HSC.out ?_; try simp only [Act.put, List.setIfInBounds_toArray, List.set_cons_zero, List.set_cons_succ])
      | (show wpList _ _ _ ({ dst := some 13, op := _, type := _, pos := _, after := _, guard := _ } :: _) _ _; refine wpList_build_two rfl 40 0 1 (.tmp 11) (.tmp 12) rfl S0 (.agg C) (.int .i64 n) rfl rfl HBS.out ?_; try simp only [Act.put, List.setIfInBounds_toArray, List.set_cons_zero, List.set_cons_succ])
      | (show wpList _ _ _ ({ dst := some 8, op := _, type := _, pos := _, after := _, guard := _ } :: _) _ _; refine wpList_new_var rfl 40 rfl Z HA.out ?_; intro g8 w2 HM8; try simp only [Act.put, List.setIfInBounds_toArray, List.set_cons_zero, List.set_cons_succ])
      | (refine wpList_set_var rfl 40 (.tmp 8) (.tmp 13) rfl g8 S0 rfl rfl 40 Z HM8.out.row HSS.out HZS.out H1S.out ?_; intro w3 HW8; try simp only [Act.put, List.setIfInBounds_toArray, List.set_cons_zero, List.set_cons_succ])
      | (show wpList _ _ _ ({ dst := some 14, op := _, type := _, pos := _, after := _, guard := _ } :: _) _ _; refine wpList_load_row rfl 40 (.tmp 8) rfl g8 rfl 40 S0 (0, 0) _ HW8.out.row Tryd.underlying40 rfl HSS.out ?_; try simp only [Act.put, List.setIfInBounds_toArray, List.set_cons_zero, List.set_cons_succ])
      | fail)
    have HB1 := hidk (HW0.out.1.trans (HM6.out.below.mono HW0.out.1.size))
    have h6 : w.heap.size ≤ g6 := by rw [HM6.out.new]; exact HW0.out.1.size
    have h8 : g6 < g8 := by rw [HM8.out.new]; exact heap_lt HM6.out.row
    have HB3 := hidk (HW8.out.below _ _ (HB1.out.trans (HM8.out.below.mono HB1.out.size)) (by omega))
    have HR6 := hidk ((HW8.out.other g6 (by omega)).trans ((HM8.out.below.block _ (heap_lt HM6.out.row)).trans HM6.out.row))
    clear HM6 HM8 HW8 HB1 HW0
    refine (K1.out _).mono ?_
    rintro e w4 ⟨rfl, hb4⟩
    have HB4 := hidk (HB3.out.trans (hb4.mono HB3.out.size))
    have HR64 := hidk ((hb4.block _ (heap_lt HR6.out)).trans HR6.out)
    clear hb4 HB3 HR6 K1
    go_wp2_with (first
      | (show wpList _ _ _ ({ dst := some 17, op := _, type := _, pos := _, after := _, guard := _ } :: _) _ _; refine wpList_build_none rfl 40 rfl Z HBZ.out ?_; try simp only [Act.put, List.setIfInBounds_toArray, List.set_cons_zero, List.set_cons_succ])
      | (refine wpList_set_var rfl 40 (.tmp 6) (.tmp 17) rfl g6 Z rfl rfl 40 Z HR64.out HSZ.out rfl H1Z.out ?_; intro w5 HW6; try simp only [Act.put, List.setIfInBounds_toArray, List.set_cons_zero, List.set_cons_succ])
      | fail)
    refine bodyPost_ret (v := .tuple #[.agg Z, .int .i64 70]) ?_ rfl ⟨rfl, HW6.out.below w.heap.size w HB4.out h6⟩
    exact results_row_tmp (p := 6) (q := 7) (ty := 40) rfl _ _ g6 40 Z (0, 0) _ rfl HW6.out.row Tryd.underlying40 rfl HSZ.out
  · have ho := signsO_owner h n hb.symm
    have hrt : rightH h = true := by
      have := hb.symm
      unfold signsO at this
      simp only [Bool.and_eq_true] at this
      exact this.1
    have hR2 : R = (scells ⟨h, n, tagD master h n⟩).toArray := by rw [HR.out]; unfold signO; rw [← hb]; rfl
    rw [show signE h n = 0 by unfold signE; rw [← hb]; rfl]
    obtain ⟨r, Hr⟩ : ∃ r, Hid (r = h.r) := ⟨h.r, hidk rfl⟩
    obtain ⟨Ky, HK, HSK, H1K, H32K⟩ := key_row (keyD master r n) (keyD_length sumD_length _ _ _)
    obtain ⟨u, HU⟩ : ∃ u, Hid (u = signT h) := ⟨_, hidk rfl⟩
    obtain ⟨D, HD, HSD, H1D, H32D⟩ := dig_row' (tagD master h n) (tagD_length sumD_length _ _ _)
    have HZK : Hid (ZY.size = Ky.size) := by show _ = _; rw [HY32.out, H32K.out]
    have C1 : Hid (∀ W, Below w.heap.size w W → Calls Tryd.prog 24 #[.agg M, .int .i64 r, .int .i64 n] W fun e w' => e = .returned (.tuple #[.agg Ky, .int .i64 0]) ∧ Below W.heap.size W w') := fun W hbw => by
      have := key_any master r n W M Ky HM hm (hT.keep hbw) (by show _ = _; rw [HK.out, keyO_in _ _ _ (by rw [Hr.out]; exact ho)])
      rwa [show keyE r n = 0 by unfold keyE; rw [if_pos (by rw [Hr.out]; exact ho)]] at this
    have T1 : Hid (∀ W, Calls Tryd.prog 26 #[.agg C] W fun e w' => e = .returned (.string u) ∧ Below W.heap.size W w') := fun W => by rw [HU.out]; exact hText_any h hd W C HC
    have C2 : Hid (∀ W, Below w.heap.size w W → Calls Tryd.prog 25 #[.agg Ky, .string u] W fun e w' => e = .returned (.agg D) ∧ Below W.heap.size W w') := fun W hbw =>
      mac_any (keyD master r n) u W Ky D HK (keyD_length sumD_length _ _ _) (by rw [HU.out]; exact signT_size h hd) (hT.keep hbw) (by show _ = _; rw [HD.out, HU.out, signT_right h hrt, Hr.out]; rfl)
    have HSR : Hid ((Tryd.prog.info? 40).map (·.size) = some R.size) := by show _ = _; rw [sizeS, hR2, List.size_toArray]; exact congrArg some (scells_length _ hd (tagD_length sumD_length _ _ _)).symm
    have H1R : Hid (R.all (·.oneCell') = true) := by show _ = _; rw [hR2]; exact one_cellsS _
    have HZR : Hid (Z.size = R.size) := by show _ = _; rw [H69.out, hR2, List.size_toArray]; exact (scells_length _ hd (tagD_length sumD_length _ _ _)).symm
    have HRR : Hid ((S0.toList.take 37 ++ D.toList ++ S0.toList.drop (37 + D.size)).toArray = R) := by
      show _ = _
      rw [H32D.out, HS0.out, HD.out, hR2]
      exact scells_sign h n (List.replicate 32 0) (tagD master h n) hd rfl
    have HOO : Hid (37 + D.size ≤ S0.size) := by show _ ≤ _; rw [H32D.out, HS69.out]; omega
    have HCr : Hid (∀ (W : World) (g : Nat), W.heap[g]? = some (.cells C 38 (0, 0)) → W.cell? ⟨g, 0, none⟩ = some (.int .i64 r)) := fun W g hh => by
      rw [cell_of_row W g 0 _ _ (0, 0) hh, HC.out, Hr.out]; rfl
    clear HM HC hm hT HR HS0 hb HZ H69 HZY HY32 HK HU HD hR2 ho hrt H32D HS69 H32K Hr
    go_enter Tryd.func8, Tryd.ntmps8
    go_wp2_with (first
      | (show wpList _ _ _ ({ dst := some 6, op := _, type := _, pos := _, after := _, guard := _ } :: _) _ _; refine wpList_new_var rfl 40 rfl Z HA.out ?_; intro g6 w1 HM6; try simp only [Act.put, List.setIfInBounds_toArray, List.set_cons_zero, List.set_cons_succ])
      | (show wpList _ _ _ ({ dst := some 11, op := _, type := _, pos := _, after := _, guard := _ } :: _) _ _; refine wpList_load_row rfl 38 (.tmp 4) rfl (w.heap.size + 1) rfl 38 C (0, 0) _ ((HM6.out.below.block _ (heap_lt HW0.out.2.2)).trans HW0.out.2.2) Tryd.underlying38 rfl HSC.out ?_; try simp only [Act.put, List.setIfInBounds_toArray, List.set_cons_zero, List.set_cons_succ])
      | (show wpList _ _ _ ({ dst := some 13, op := _, type := _, pos := _, after := _, guard := _ } :: _) _ _; refine wpList_build_two rfl 40 0 1 (.tmp 11) (.tmp 12) rfl S0 (.agg C) (.int .i64 n) rfl rfl HBS.out ?_; try simp only [Act.put, List.setIfInBounds_toArray, List.set_cons_zero, List.set_cons_succ])
      | (show wpList _ _ _ ({ dst := some 8, op := _, type := _, pos := _, after := _, guard := _ } :: _) _ _; refine wpList_new_var rfl 40 rfl Z HA.out ?_; intro g8 w2 HM8; try simp only [Act.put, List.setIfInBounds_toArray, List.set_cons_zero, List.set_cons_succ])
      | (refine wpList_set_var rfl 40 (.tmp 8) (.tmp 13) rfl g8 S0 rfl rfl 40 Z HM8.out.row HSS.out HZS.out H1S.out ?_; intro w3 HW8; try simp only [Act.put, List.setIfInBounds_toArray, List.set_cons_zero, List.set_cons_succ])
      | (show wpList _ _ _ ({ dst := some 14, op := _, type := _, pos := _, after := _, guard := _ } :: _) _ _; refine wpList_load_row rfl 40 (.tmp 8) rfl g8 rfl 40 S0 (0, 0) _ HW8.out.row Tryd.underlying40 rfl HSS.out ?_; try simp only [Act.put, List.setIfInBounds_toArray, List.set_cons_zero, List.set_cons_succ])
      | fail)
    have HB1 := hidk (HW0.out.1.trans (HM6.out.below.mono HW0.out.1.size))
    have h6 : w.heap.size + 1 < g6 := by rw [HM6.out.new]; exact heap_lt HW0.out.2.2
    have h8 : g6 < g8 := by rw [HM8.out.new]; exact heap_lt HM6.out.row
    have HBa := hidk (HM6.out.below.trans (HM8.out.below.mono HM6.out.below.size))
    have HB3 := hidk (HW8.out.below _ _ (HB1.out.trans (HM8.out.below.mono HB1.out.size)) (by omega))
    have HR6 := hidk ((HW8.out.other g6 (by omega)).trans ((HM8.out.below.block _ (heap_lt HM6.out.row)).trans HM6.out.row))
    have HR8 := hidk HW8.out.row
    have HRM := hidk ((HW8.out.other w.heap.size (by omega)).trans ((HBa.out.block _ (heap_lt HW0.out.2.1)).trans HW0.out.2.1))
    have HRC := hidk ((HW8.out.other (w.heap.size + 1) (by omega)).trans ((HBa.out.block _ (heap_lt HW0.out.2.2)).trans HW0.out.2.2))
    clear HM6 HM8 HW8 HB1 HW0 HBa
    refine (K1.out _).mono ?_
    rintro e w4 ⟨rfl, hb4⟩
    replace HB3 := hidk (HB3.out.trans (hb4.mono HB3.out.size))
    replace HR6 := hidk ((hb4.block _ (heap_lt HR6.out)).trans HR6.out)
    replace HR8 := hidk ((hb4.block _ (heap_lt HR8.out)).trans HR8.out)
    replace HRM := hidk ((hb4.block _ (heap_lt HRM.out)).trans HRM.out)
    replace HRC := hidk ((hb4.block _ (heap_lt HRC.out)).trans HRC.out)
    have hcr := HCr.out w4 _ HRC.out
    clear hb4 K1
    go_wp2_with (first
      | (show wpList _ _ _ ({ dst := some 19, op := _, type := _, pos := _, after := _, guard := _ } :: _) _ _; refine wpList_load_row rfl 24 (.tmp 3) rfl w.heap.size rfl 24 M (0, 0) _ HRM.out Tryd.underlying24 rfl HSM.out ?_; try simp only [Act.put, List.setIfInBounds_toArray, List.set_cons_zero, List.set_cons_succ])
      | fail)
    refine (C1.out _ HB3.out).mono ?_
    rintro e w5 ⟨rfl, hb5⟩
    replace HB3 := hidk (HB3.out.trans (hb5.mono HB3.out.size))
    replace HR6 := hidk ((hb5.block _ (heap_lt HR6.out)).trans HR6.out)
    replace HR8 := hidk ((hb5.block _ (heap_lt HR8.out)).trans HR8.out)
    replace HRC := hidk ((hb5.block _ (heap_lt HRC.out)).trans HRC.out)
    clear hb5 C1 hcr HRM HCr
    go_wp2_with (first
      | (show wpList _ _ _ ({ dst := some 9, op := _, type := _, pos := _, after := _, guard := _ } :: _) _ _; refine wpList_new_var rfl 24 rfl ZY HAY.out ?_; intro g9 w6 HM9; try simp only [Act.put, List.setIfInBounds_toArray, List.set_cons_zero, List.set_cons_succ])
      | (refine wpList_set_var rfl 24 (.tmp 9) (.tmp 24) rfl g9 Ky rfl rfl 24 ZY HM9.out.row HSK.out HZK.out H1K.out ?_; intro w7 HW9; try simp only [Act.put, List.setIfInBounds_toArray, List.set_cons_zero, List.set_cons_succ])
      | fail)
    have h9 : g8 < g9 := by rw [HM9.out.new]; exact heap_lt HR8.out
    have HBc : Hid (Below w.heap.size w w7.drew) := (HW9.out.below _ _ (HB3.out.trans (HM9.out.below.mono HB3.out.size)) (by omega)).drew
    replace HR6 := hidk ((HW9.out.other g6 (by omega)).trans ((HM9.out.below.block _ (heap_lt HR6.out)).trans HR6.out))
    replace HR8 := hidk ((HW9.out.other g8 (by omega)).trans ((HM9.out.below.block _ (heap_lt HR8.out)).trans HR8.out))
    replace HRC := hidk ((HW9.out.other (w.heap.size + 1) (by omega)).trans ((HM9.out.below.block _ (heap_lt HRC.out)).trans HRC.out))
    have HR9 := hidk HW9.out.row
    clear HM9 HW9 HB3
    refine wp_region_held_drew (S := (fun W => W.heap[g9]? = some (.cells Ky 24 (0, 0)) ∧ W.heap[w.heap.size + 1]? = some (.cells C 38 (0, 0)))) (by kernel_rfl) ⟨HR9.out, HRC.out⟩ (fun hHeld => ?_)
    refine wpAnyH_take (i := 0) (oi := { dst := some 26, op := Op.load 24 (Operand.tmp 9), type := 24, pos := "head.go:79", after := #[], guard := none }) (v := .agg Ky) rfl (by kernel_rfl) (by kernel_rfl) (by kernel_rfl) (fun _ _ _ h => h) (yieldsIf_row (by rfl) 24 (.tmp 9) rfl g9 rfl 24 Ky (0, 0) _ (fun _ h => h.1) Tryd.underlying24 rfl HSK.out) hHeld ?_
    try simp only [Act.put, List.setIfInBounds_toArray, List.set_cons_zero, List.set_cons_succ]
    refine wpAnyH_take (i := 1) (oi := { dst := some 27, op := Op.load 38 (Operand.tmp 4), type := 38, pos := "head.go:79", after := #[], guard := none }) (v := .agg C) rfl (by kernel_rfl) (by kernel_rfl) (by kernel_rfl) (fun _ _ _ h => h) (yieldsIf_row (by rfl) 38 (.tmp 4) rfl (w.heap.size + 1) rfl 38 C (0, 0) _ (fun _ h => h.2) Tryd.underlying38 rfl HSC.out) hHeld ?_
    try simp only [Act.put, List.setIfInBounds_toArray, List.set_cons_zero, List.set_cons_succ]
    refine wpAnyH_ready (rs := [2]) (by kernel_rfl) (by simp) ?_
    refine (AllReadyH.cons (o := { dst := some 28, op := Op.call { callee := Callee.value (Operand.func 26), args := #[Operand.tmp 27], argTypes := #[38] }, type := 9, pos := "head.go:79", after := #[{ on := 1, ground := Ground.data }], guard := none }) rfl (fun K hK => ?_) AllReadyH.nil)
    go_simp
    refine (T1.out _).mono ?_
    rintro e v2 ⟨rfl, hb2⟩
    replace HBc := hidk (HBc.out.trans (hb2.mono HBc.out.size))
    replace HR6 := hidk ((hb2.block _ (heap_lt HR6.out)).trans HR6.out)
    replace HR8 := hidk ((hb2.block _ (heap_lt HR8.out)).trans HR8.out)
    go_wp2_with fail
    refine hK.out _ _ ⟨(hb2.block _ (heap_lt hHeld.1)).trans hHeld.1, (hb2.block _ (heap_lt hHeld.2)).trans hHeld.2⟩ (fun hHeld => ?_)
    clear hK K
    try simp only [Act.put, List.setIfInBounds_toArray, List.set_cons_zero, List.set_cons_succ]
    refine wpAnyH_ready (rs := [3]) (by kernel_rfl) (by simp) ?_
    refine (AllReadyH.cons (o := { dst := some 29, op := Op.call { callee := Callee.value (Operand.func 25), args := #[Operand.tmp 26, Operand.tmp 28], argTypes := #[24, 9] }, type := 30, pos := "head.go:79", after := #[{ on := 0, ground := Ground.data }, { on := 2, ground := Ground.data }, { on := 2, ground := Ground.chain }], guard := none }) rfl (fun K hK => ?_) AllReadyH.nil)
    go_simp
    refine (C2.out _ HBc.out).mono ?_
    rintro e v3 ⟨rfl, hb3⟩
    replace HBc := hidk (HBc.out.trans (hb3.mono HBc.out.size))
    replace HR6 := hidk ((hb3.block _ (heap_lt HR6.out)).trans HR6.out)
    replace HR8 := hidk ((hb3.block _ (heap_lt HR8.out)).trans HR8.out)
    go_wp2_with fail
    refine hK.out _ _ ⟨(hb3.block _ (heap_lt hHeld.1)).trans hHeld.1, (hb3.block _ (heap_lt hHeld.2)).trans hHeld.2⟩ (fun hHeld => ?_)
    clear hK K
    try simp only [Act.put, List.setIfInBounds_toArray, List.set_cons_zero, List.set_cons_succ]
    refine wpAnyH_take (i := 4) (oi := { dst := some 30, op := Op.fieldAddr 40 (Operand.tmp 8) 2, type := 0, pos := "head.go:79", after := #[{ on := 0, ground := Ground.phase }, { on := 1, ground := Ground.phase }, { on := 2, ground := Ground.phase }, { on := 3, ground := Ground.phase }], guard := none }) (v := .pointer (some ⟨g8, 37, none⟩)) rfl (by kernel_rfl) (by kernel_rfl) (by kernel_rfl) (fun _ _ _ h => h) (Or.inl ⟨by rfl, by intro W hSw; go_simp⟩) hHeld ?_
    try simp only [Act.put, List.setIfInBounds_toArray, List.set_cons_zero, List.set_cons_succ]
    refine wpAnyH_ready (rs := [5]) (by kernel_rfl) (by simp) ?_
    refine (AllReadyH.cons (o := { dst := none, op := Op.store 30 (Operand.tmp 30) (Operand.tmp 29), type := 0, pos := "head.go:79", after := #[{ on := 4, ground := Ground.data }, { on := 3, ground := Ground.data }, { on := 3, ground := Ground.chain }, { on := 0, ground := Ground.phase }, { on := 1, ground := Ground.phase }, { on := 2, ground := Ground.phase }, { on := 3, ground := Ground.phase }], guard := none }) rfl (fun K hK => ?_) AllReadyH.nil)
    refine step_set_mid (by rfl) 30 (.tmp 30) (.tmp 29) rfl g8 37 D rfl rfl 40 S0 HR8.out HOO.out HSD.out H1D.out ?_
    intro v5 HW8
    refine hK.out _ _ ⟨(HW8.out.other g9 (by omega)).trans hHeld.1, (HW8.out.other (w.heap.size + 1) (by omega)).trans hHeld.2⟩ (fun hHeld => ?_)
    clear hK K
    try simp only [Act.put, List.setIfInBounds_toArray, List.set_cons_zero, List.set_cons_succ]
    refine wpAnyH_done (by kernel_rfl) ?_ _
    have HB8 := hidk (HW8.out.below w.heap.size w HBc.out (by omega))
    have HR68 := hidk ((HW8.out.other g6 (by omega)).trans HR6.out)
    have HR88 := hidk HW8.out.row
    rw [HRR.out] at HR88
    clear HW8 HBc HR6 HR8
    go_wp2_with (first
      | (show wpList _ _ _ ({ dst := some 31, op := _, type := _, pos := _, after := _, guard := _ } :: _) _ _; refine wpList_load_row rfl 40 (.tmp 8) rfl g8 rfl 40 R (0, 0) _ HR88.out Tryd.underlying40 rfl HSR.out ?_; try simp only [Act.put, List.setIfInBounds_toArray, List.set_cons_zero, List.set_cons_succ])
      | (refine wpList_set_var rfl 40 (.tmp 6) (.tmp 31) rfl g6 R rfl rfl 40 Z HR68.out HSR.out HZR.out H1R.out ?_; intro w9 HW6; try simp only [Act.put, List.setIfInBounds_toArray, List.set_cons_zero, List.set_cons_succ])
      | fail)
    refine bodyPost_ret (v := .tuple #[.agg R, .int .i64 0]) ?_ rfl ⟨rfl, HW6.out.below w.heap.size w HB8.out (by omega)⟩
    exact results_row_tmp (p := 6) (q := 7) (ty := 40) rfl _ _ g6 40 R (0, 0) _ rfl HW6.out.row Tryd.underlying40 rfl HSR.out
end Go.Proofs.YtdnhnjimhbbababDoor.P7

/- What head.GetSigned answers. -/
namespace Go.Proofs.YtdnhnjimhbbababDoor.P7
open Go.RowKit Sums Nums
set_option linter.unusedVariables false
set_option linter.unusedSimpArgs false
set_option maxRecDepth 100000
def hV (tag : Int) (fs : List (Int × ByteArray)) : HdT := getHO (tkD tag fs).data.toList
def hB (tag : Int) (fs : List (Int × ByteArray)) : Bool := tkB tag fs && (getO (tkD tag fs).data.toList).isSome
theorem hV_digs (tag : Int) (fs : List (Int × ByteArray)) : (hV tag fs).d.length = 32 := getHO_digs _
set_option maxHeartbeats 4000000 in
theorem rhead_any (W : World) (lo g : Nat) (fs : List (Int × ByteArray)) (tag : Int) (h : Rd W lo g fs) (hsz : (tkD tag fs).size ≤ 1000000) (D : Array Value) (HD : Hid (D = (hcells (hV tag fs)).toArray)) :
    Calls Tryd.prog 33 #[.pointer (some ⟨g, 0, none⟩), .int .i64 tag] W fun e w' => e = .returned (.tuple #[.agg D, .bool (hB tag fs)]) ∧ W.grownBy w' (some g) ∧ Rd w' lo g (tkR tag fs) := by
  obtain ⟨Z, HZ, HA, HBZ, H36⟩ := noughtsH
  have HH := hidk h
  have D1 : Hid (∀ V, Rd V lo g fs → Calls Tryd.prog 64 #[.pointer (some ⟨g, 0, none⟩), .int .i64 tag] V fun e w' => e = .returned (.tuple #[.string (tkD tag fs), .bool (tkB tag fs)]) ∧ V.grownBy w' (some g) ∧ Rd w' lo g (tkR tag fs)) := fun V hV => data_any V lo g fs tag hV
  have hlt := h.lt
  have hD36 : D.size = 36 := by rw [HD.out, List.size_toArray]; exact hcells_length _ (hV_digs tag fs)
  have HSD : Hid ((Tryd.prog.info? 38).map (·.size) = some D.size) := by show _ = _; rw [sizeH, hD36]
  have H1D : Hid (D.all (·.oneCell') = true) := by show _ = _; rw [HD.out]; exact one_cells _
  have HZD : Hid (Z.size = D.size) := by show _ = _; rw [H36.out, hD36]
  obtain ⟨E, hE⟩ : ∃ E, E = getHE (tkD tag fs).data.toList := ⟨_, rfl⟩
  have G1 : Hid (∀ V a c, Reads V a (tkD tag fs).size c (tkD tag fs).data.toList → Calls Tryd.prog 65 #[.slice a (tkD tag fs).size c] V fun e w' => e = .returned (.tuple #[.agg D, .int .i64 E]) ∧ Below V.heap.size V w') := fun V a c hr => by rw [hE]; exact hGet_any a _ c _ V hr hsz D HD
  have hE2 : (E = 0 ∧ (getO (tkD tag fs).data.toList).isSome = true) ∨ (E = 70 ∧ (getO (tkD tag fs).data.toList).isSome = false) := by
    rw [hE]; unfold getHE
    cases (getO (tkD tag fs).data.toList).isSome
    · exact .inr ⟨rfl, rfl⟩
    · exact .inl ⟨rfl, rfl⟩
  unfold hB
  obtain ⟨d, hd⟩ : ∃ d, d = tkD tag fs := ⟨_, rfl⟩
  obtain ⟨b, hb⟩ : ∃ b, b = tkB tag fs := ⟨_, rfl⟩
  obtain ⟨r, hr⟩ : ∃ r, r = tkR tag fs := ⟨_, rfl⟩
  simp only [← hd, ← hb, ← hr] at D1 G1 hE2 hsz ⊢
  have hml : d.size ≤ maxLen := by unfold maxLen; omega
  clear hd hb hr h HD HZ hE hD36
  rcases hE2 with ⟨rfl, hq⟩ | ⟨rfl, hq⟩
  all_goals
    rw [hq]
    clear hq
    cases b
    all_goals
      go_enter Tryd.func33, Tryd.ntmps33
      go_wp2_with (first
        | (show wpList _ _ _ ({ dst := some 4, op := _, type := _, pos := _, after := _, guard := _ } :: _) _ _; refine wpList_new_var rfl 38 rfl Z HA.out ?_; intro g4 w1 HM4; try simp only [Act.put, List.setIfInBounds_toArray, List.set_cons_zero, List.set_cons_succ])
        | fail)
      refine (D1.out w1 (HH.out.below HM4.out.below)).mono ?_
      rintro e w2 ⟨rfl, hg2, hr2⟩
      have HG2 := hidk (grown_trans (grown_below HM4.out.below) hg2)
      have HR2 := hidk hr2
      have h4 : W.heap.size ≤ g4 := Nat.le_of_eq HM4.out.new.symm
      have HR4 : Hid (w2.heap[g4]? = some (.cells Z 38 (0, 0))) := (hg2.block _ (heap_lt HM4.out.row) (by intro e; cases e; omega)).trans HM4.out.row
      clear hg2 hr2 HM4 D1 HH
      go_wp2_with (first
        | (show wpList _ _ _ ({ dst := some 18, op := _, type := _, pos := _, after := _, guard := _ } :: _) _ _; refine wpList_conv_text rfl 9 43 5 (.tmp 17) rfl d rfl Tryd.underlying9 Tryd.underlying43 Tryd.underlying5 hml ?_; intro a3 c3 w3 HV; try simp only [Act.put, List.setIfInBounds_toArray, List.set_cons_zero, List.set_cons_succ])
        | fail)
      refine (G1.out _ _ _ HV.out.1).mono ?_
      rintro e w5 ⟨rfl, hb5⟩
      have hbb := HV.out.2.trans (hb5.mono HV.out.2.size)
      have HG5 := hidk (grown_trans HG2.out (grown_below hbb))
      have HR5 := hidk (HR2.out.below hbb)
      have HR45 := hidk ((hbb.block _ (heap_lt HR4.out)).trans HR4.out)
      clear hb5 hbb HV HG2 HR2 HR4
      go_wp2_with (first
        | (show wpList _ _ _ ({ dst := some 8, op := _, type := _, pos := _, after := _, guard := _ } :: _) _ _; refine wpList_new_var rfl 38 rfl Z HA.out ?_; intro g8 w6 HM8; try simp only [Act.put, List.setIfInBounds_toArray, List.set_cons_zero, List.set_cons_succ])
        | (refine wpList_set_var rfl 38 (.tmp 8) (.tmp 20) rfl g8 D rfl rfl 38 Z HM8.out.row HSD.out HZD.out H1D.out ?_; intro w7 HW8; try simp only [Act.put, List.setIfInBounds_toArray, List.set_cons_zero, List.set_cons_succ])
        | (show wpList _ _ _ ({ dst := some 22, op := _, type := _, pos := _, after := _, guard := _ } :: _) _ _; refine wpList_load_row rfl 38 (.tmp 8) rfl g8 rfl 38 D (0, 0) _ HW8.out.row Tryd.underlying38 rfl HSD.out ?_; try simp only [Act.put, List.setIfInBounds_toArray, List.set_cons_zero, List.set_cons_succ])
        | (refine wpList_set_var rfl 38 (.tmp 4) (.tmp 22) rfl g4 D rfl rfl 38 Z ((HW8.out.other _ (by have e1 := HM8.out.new; have := heap_lt HR45.out; omega)).trans ((HM8.out.below.block _ (heap_lt HR45.out)).trans HR45.out)) HSD.out HZD.out H1D.out ?_; intro w8 HW4; try simp only [Act.put, List.setIfInBounds_toArray, List.set_cons_zero, List.set_cons_succ])
        | fail)
      have h8 : w5.heap.size ≤ g8 := Nat.le_of_eq HM8.out.new.symm
      have hg5 := HR5.out.lt
      have hs5 := HG5.out.size
      refine bodyPost_ret (v := .tuple #[.agg D, .bool _]) ?_ rfl ⟨rfl, grown_wrote (grown_wrote (grown_trans HG5.out (grown_below HM8.out.below)) HW8.out (by omega)) HW4.out h4, ((HR5.out.below HM8.out.below).wrote HW8.out (.inr (by omega))).wrote HW4.out (.inr (by omega))⟩
      exact results_row_tmp (p := 4) (q := 5) (ty := 38) rfl _ _ g4 38 D (0, 0) _ rfl HW4.out.row Tryd.underlying38 rfl HSD.out
set_option maxHeartbeats 2000000 in
theorem into_head (W : World) (lo g gh off : Nat) (fs : List (Int × ByteArray)) (tag : Int) (h : Rd W lo g fs) (hsz : (tkD tag fs).size ≤ 1000000) (C C' D : Array Value) (t : TypeId) (hC : W.heap[gh]? = some (.cells C t (0, 0))) (ho : off + 36 ≤ C.size) (hl : gh < lo) (HD : Hid (D = (hcells (hV tag fs)).toArray)) (HC' : Hid (C' = (C.toList.take off ++ D.toList ++ C.toList.drop (off + 36)).toArray)) :
    Calls Tryd.prog 32 #[.pointer (some ⟨gh, off, none⟩), .int .i64 tag, .func (.func 33) #[.pointer (some ⟨g, 0, none⟩)] #[]] W fun e w' =>
      e = .returned (.bool (hB tag fs)) ∧ w'.heap[gh]? = some (.cells C' t (0, 0)) ∧ Rd w' lo g (tkR tag fs) ∧ Went gh g W w' := by
  obtain ⟨Z, HZ, HA, HBZ, H36⟩ := noughtsH
  have N1 := hidk (rhead_any W lo g fs tag h hsz D HD)
  have hlt := h.lt
  have hD36 : D.size = 36 := by rw [HD.out, List.size_toArray]; exact hcells_length _ (hV_digs tag fs)
  have HSD : Hid ((Tryd.prog.info? 38).map (·.size) = some D.size) := by show _ = _; rw [sizeH, hD36]
  have H1D : Hid (D.all (·.oneCell') = true) := by show _ = _; rw [HD.out]; exact one_cells _
  have HZD : Hid (Z.size = D.size) := by show _ = _; rw [H36.out, hD36]
  have hgg : gh ≠ g := by obtain ⟨_, _, _, q, _⟩ := h; omega
  have HCC : Hid (C' = (C.toList.take off ++ D.toList ++ C.toList.drop (off + D.size)).toArray) := by show _ = _; rw [hD36, HC'.out]
  have HOO : Hid (off + D.size ≤ C.size) := by show _ ≤ _; rw [hD36]; exact ho
  have HC := hidk hC
  obtain ⟨b, hb⟩ : ∃ n, n = hB tag fs := ⟨_, rfl⟩
  rw [← hb] at N1
  rw [← hb]
  clear HC' hb hC HD hD36 HZ ho HBZ H36
  go_enter Tryd.func32, Tryd.ntmps32
  go_wp2_with fail
  refine N1.out.mono ?_
  rintro e w1 ⟨rfl, hg1, hr1⟩
  have HG := hidk hg1
  have HR := hidk hr1
  have HC1 := hidk ((hg1.block _ (heap_lt HC.out) (by intro e; cases e; exact hgg rfl)).trans HC.out)
  have hs1 := hg1.size
  clear hg1 hr1 h
  go_wp2_with (first
    | (show wpList _ _ _ ({ dst := some 7, op := _, type := _, pos := _, after := _, guard := _ } :: _) _ _; refine wpList_new_var rfl 38 rfl Z HA.out ?_; intro g7 w2 HM7; try simp only [Act.put, List.setIfInBounds_toArray, List.set_cons_zero, List.set_cons_succ])
    | (refine wpList_set_var rfl 38 (.tmp 7) (.tmp 13) rfl g7 D rfl rfl 38 Z HM7.out.row HSD.out HZD.out H1D.out ?_; intro w3 HW7; try simp only [Act.put, List.setIfInBounds_toArray, List.set_cons_zero, List.set_cons_succ])
    | (show wpList _ _ _ ({ dst := some 16, op := _, type := _, pos := _, after := _, guard := _ } :: _) _ _; refine wpList_load_row rfl 38 (.tmp 7) rfl g7 rfl 38 D (0, 0) _ HW7.out.row Tryd.underlying38 rfl HSD.out ?_; try simp only [Act.put, List.setIfInBounds_toArray, List.set_cons_zero, List.set_cons_succ])
    | (refine wpList_set_mid rfl 38 (.tmp 17) (.tmp 16) rfl gh off D rfl rfl t C ((HW7.out.other _ (by have e1 := HM7.out.new; have := heap_lt HC1.out; omega)).trans ((HM7.out.below.block _ (heap_lt HC1.out)).trans HC1.out)) HOO.out HSD.out H1D.out ?_; intro w4 HW; try simp only [Act.put, List.setIfInBounds_toArray, List.set_cons_zero, List.set_cons_succ])
    | fail)
  have h7 : w1.heap.size ≤ g7 := Nat.le_of_eq HM7.out.new.symm
  have HG2 := hidk (grown_wrote (grown_trans HG.out (grown_below HM7.out.below)) HW7.out (Nat.le_trans HG.out.size h7))
  have hb1 := HR.out.lt
  go_ret
  refine ⟨rfl, ?_, ((HR.out.below HM7.out.below).wrote HW7.out (.inr (by omega))).wrote HW.out (.inl hl), went_of HG2.out HW.out hlt⟩
  rw [HCC.out]
  exact HW.out.row
theorem gt_head {w W : World} {g2 g4 g5 lo : Nat} {Z C C' : Array Value} {T : TypeId} {fs fs' : List (Int × ByteArray)} (tag : Int) (off : Nat) (b : Bool) (h : GtS w W g2 g4 g5 lo Z C T fs) (hsz : (tkD tag fs).size ≤ 1000000) (ho : off + 36 ≤ C.size) (hC : C' = (C.toList.take off ++ hcells (hV tag fs) ++ C.toList.drop (off + 36)).toArray) (hb : b = hB tag fs) (hf : fs' = tkR tag fs) :
    Calls Tryd.prog 32 #[.pointer (some ⟨g4, off, none⟩), .int .i64 tag, .func (.func 33) #[.pointer (some ⟨g5, 0, none⟩)] #[]] W fun e w' => e = .returned (.bool b) ∧ GtS w w' g2 g4 g5 lo Z C' T fs' := by
  subst hb hf
  refine (into_head W lo g5 g4 off fs tag h.rd hsz C C' (hcells (hV tag fs)).toArray T h.r4 ho h.ol (hidk rfl) (by show _ = _; rw [hC])).mono ?_
  rintro e w' ⟨rfl, h1, h2, h3⟩
  exact ⟨rfl, h.went h1 h2 h3⟩
theorem readF_64 (bs : List UInt8) : ∀ f ∈ readF bs, f.2.size ≤ 65536 := by
  intro f hf
  unfold readF at hf
  by_cases h : readE bs = 0
  · rw [if_pos h] at hf
    unfold toF at hf
    obtain ⟨x, hx, rfl⟩ := List.mem_map.1 hf
    have := parse_small _ _ _ x hx
    show x.d.toArray.size ≤ 65536
    simp
    omega
  · rw [if_neg h] at hf; simp at hf
theorem tkD_le (tag : Int) (fs : List (Int × ByteArray)) (n : Nat) (h : ∀ f ∈ fs, f.2.size ≤ n) : (tkD tag fs).size ≤ n := by
  cases fs with
  | nil => exact Nat.zero_le _
  | cons f r =>
    by_cases e : f.1 = tag
    · rw [show tkD tag (f :: r) = f.2 from if_pos e]; exact h f (List.mem_cons_self ..)
    · rw [show tkD tag (f :: r) = ⟨#[]⟩ from if_neg e]; exact Nat.zero_le _
theorem hB_tk {tag : Int} {fs : List (Int × ByteArray)} (h : hB tag fs = true) : tkB tag fs = true ∧ getO (tkD tag fs).data.toList = some (hV tag fs) := by
  unfold hB at h
  simp only [Bool.and_eq_true] at h
  refine ⟨h.1, ?_⟩
  unfold hV getHO
  cases hg : getO (tkD tag fs).data.toList with
  | none => rw [hg] at h; cases h.2
  | some x => rfl
def seqS (f0 : List (Int × ByteArray)) : SgT := ⟨hV 1 f0, nV 2 (tkR 1 f0), dV 3 (tkR 2 (tkR 1 f0))⟩
def allS (f0 : List (Int × ByteArray)) : Bool := hB 1 f0 && (nB 2 (tkR 1 f0) && (dB 3 (tkR 2 (tkR 1 f0)) && (decide ((tkR 3 (tkR 2 (tkR 1 f0))).length = 0) && mayS (seqS f0))))
theorem get_seqS (bs : List UInt8) : Go.Proofs.YtdnhnjimhbbababDoor.P7.getS bs = if allS (readF bs) = true then some (seqS (readF bs)) else none := by
  by_cases h0 : readE bs = 0
  · by_cases ha : allS (readF bs) = true
    · rw [if_pos ha]
      obtain ⟨f0, hf0⟩ : ∃ f, f = readF bs := ⟨_, rfl⟩
      rw [← hf0] at ha ⊢
      unfold allS at ha
      simp only [Bool.and_eq_true, decide_eq_true_eq] at ha
      obtain ⟨a1, a2, a3, a6, a7⟩ := ha
      have s1 := tk_shape (hB_tk a1).1
      have s2 := tk_shape (nB_tk a2).1
      have s3 := tk_shape (dB_tk a3).1
      have s6 := List.eq_nil_of_length_eq_zero a6
      have hh : seqS f0 = ⟨hV 1 f0, valO (tkD 2 (tkR 1 f0)).data.toList, (tkD 3 (tkR 2 (tkR 1 f0))).data.toList⟩ := by
        unfold seqS
        rw [nV_val a2, dV_yes a3]
      have hx := (dB_tk a3).2
      have hg1 := (hB_tk a1).2
      obtain ⟨x1, e1⟩ : ∃ x, x = tkD 1 f0 := ⟨_, rfl⟩
      obtain ⟨x2, e2⟩ : ∃ x, x = tkD 2 (tkR 1 f0) := ⟨_, rfl⟩
      obtain ⟨x3, e3⟩ : ∃ x, x = tkD 3 (tkR 2 (tkR 1 f0)) := ⟨_, rfl⟩
      rw [← e2, ← e3] at hh
      rw [← e3] at hx
      rw [← e1] at hg1
      have hs : readF bs = fieldsN [x1, x2, x3] := by
        rw [s6, ← e3] at s3
        rw [s3, ← e2] at s2
        rw [s2, ← e1] at s1
        rw [← hf0, s1]
        rfl
      have hp : partsO bs 3 = some [x1, x2, x3] := partsO_of h0 hs
      unfold Go.Proofs.YtdnhnjimhbbababDoor.P7.getS
      rw [hp]
      show (match getO x1.data.toList with | some h => if x3.size = 32 ∧ mayS ⟨h, valO x2.data.toList, x3.data.toList⟩ = true then some (⟨h, valO x2.data.toList, x3.data.toList⟩ : SgT) else none | none => none) = _
      rw [hg1]
      show (if x3.size = 32 ∧ mayS ⟨hV 1 f0, valO x2.data.toList, x3.data.toList⟩ = true then some (⟨hV 1 f0, valO x2.data.toList, x3.data.toList⟩ : SgT) else none) = _
      rw [← hh, if_pos ⟨hx, a7⟩]
    · rw [if_neg ha]
      cases hg : Go.Proofs.YtdnhnjimhbbababDoor.P7.getS bs with
      | none => rfl
      | some s =>
        exfalso
        apply ha
        unfold Go.Proofs.YtdnhnjimhbbababDoor.P7.getS at hg
        split at hg
        · rename_i x1 x2 x3 hp
          split at hg
          · rename_i h1 hg1
            split at hg
            · rename_i hh
              have hr := (mayS_iff _).1 hh.2
              simp only at hr
              have hf := (partsO_fields hp).2.1
              rw [hf]
              have n2 := valO_num (l := x2.data.toList) (by omega)
              have hhv : hV 1 [((1 : Int), x1), (2, x2), (3, x3)] = h1 := by
                unfold hV getHO
                rw [tkD_hit, hg1]
                rfl
              have hhb : hB 1 [((1 : Int), x1), (2, x2), (3, x3)] = true := by
                unfold hB
                rw [tkB_hit, tkD_hit, hg1]
                rfl
              have hq : seqS [((1 : Int), x1), (2, x2), (3, x3)] = ⟨h1, valO x2.data.toList, x3.data.toList⟩ := by
                unfold seqS
                rw [hhv]
                simp only [tkR_hit, nV_hit]
                rw [dV_yes (by rw [dB_hit]; simpa using hh.1), tkD_hit]
                unfold vOf valO
                rw [if_pos n2, if_pos n2]
              show allS [((1 : Int), x1), (2, x2), (3, x3)] = true
              unfold allS
              rw [hq, hhb]
              simp only [tkR_hit, nB_hit, dB_hit, n2, hh.2, List.length_nil, Bool.true_and, Bool.and_true, decide_true]
              simpa using hh.1
            · cases hg
          · cases hg
        · cases hg
  · have hf := readF_none h0
    have hg : Go.Proofs.YtdnhnjimhbbababDoor.P7.getS bs = none := by
      cases hg : partsO bs 3 with
      | none => unfold Go.Proofs.YtdnhnjimhbbababDoor.P7.getS; rw [hg]
      | some l => exact absurd (partsO_fields hg).1 h0
    rw [hg, hf, if_neg]
    intro h
    cases h
theorem scells_zero (o : HdT) (h : HdT) (n : Int) (t : List UInt8) (hd : h.d.length = 32) : ((scells ⟨h, n, t⟩).toArray.toList.take 0 ++ hcells o ++ (scells ⟨h, n, t⟩).toArray.toList.drop (0 + 36)).toArray = (scells ⟨o, n, t⟩).toArray := by
  unfold scells
  congr 1
  simp [List.drop_append, hcells_length h hd]
theorem scells_node (h : HdT) (n v : Int) (t : List UInt8) (hd : h.d.length = 32) : (scells ⟨h, n, t⟩).toArray.setIfInBounds 36 (.int .i64 v) = (scells ⟨h, v, t⟩).toArray := by
  unfold scells
  rw [List.setIfInBounds_toArray]
  congr 1
  rw [List.append_assoc, List.append_assoc, List.set_append_right _ _ (by simp [hcells_length h hd])]
  simp [hcells_length h hd]
set_option maxHeartbeats 8000000 in
theorem hGetS_any (a : Option Addr) (len cap : Nat) (bs : List UInt8) (w : World) (hR : Reads w a len cap bs) (hl : len ≤ 1000000) (R : Array Value) (HR : Hid (R = (scells (getSO bs)).toArray)) :
    Calls Tryd.prog 10 #[.slice a len cap] w fun e w' => e = .returned (.tuple #[.agg R, .int .i64 (getSE bs)]) ∧ Below w.heap.size w w' := by
  obtain ⟨Z, HZ, HA, HBZ, H36⟩ := noughtsS
  have HSZ : Hid ((Tryd.prog.info? 40).map (·.size) = some Z.size) := by show _ = _; rw [sizeS, H36.out]
  have H1Z : Hid (Z.all (·.oneCell') = true) := by show _ = _; rw [HZ.out]; exact one_cellsS _
  have hnot : ∀ (x : Bool) (w : World), (Op.unary .not (.bool x)).run Tryd.prog w = .ok (.bool (!x)) w := fun _ _ => rfl
  obtain ⟨f0, hf0⟩ : ∃ f, f = readF bs := ⟨_, rfl⟩
  obtain ⟨f1, hf1⟩ : ∃ f, f = tkR 1 f0 := ⟨_, rfl⟩
  obtain ⟨f2, hf2⟩ : ∃ f, f = tkR 2 f1 := ⟨_, rfl⟩
  obtain ⟨f3, hf3⟩ : ∃ f, f = tkR 3 f2 := ⟨_, rfl⟩
  have hsz : (tkD 1 f0).size ≤ 1000000 := Nat.le_trans (tkD_le 1 f0 65536 (by rw [hf0]; exact readF_64 bs)) (by decide)
  obtain ⟨C1, hC1⟩ : ∃ C, C = (scells ⟨hV 1 f0, 0, List.replicate 32 0⟩).toArray := ⟨_, rfl⟩
  obtain ⟨C2, hC2⟩ : ∃ C, C = (scells ⟨hV 1 f0, nV 2 f1, List.replicate 32 0⟩).toArray := ⟨_, rfl⟩
  obtain ⟨C3, hC3⟩ : ∃ C, C = (scells ⟨hV 1 f0, nV 2 f1, dV 3 f2⟩).toArray := ⟨_, rfl⟩
  have hz1 : C1.size = 69 := by rw [hC1, List.size_toArray]; exact scells_length _ (hV_digs _ _) rfl
  have hz2 : C2.size = 69 := by rw [hC2, List.size_toArray]; exact scells_length _ (hV_digs _ _) rfl
  have hz3 : C3.size = 69 := by rw [hC3, List.size_toArray]; exact scells_length _ (hV_digs _ _) (dV_length _ _)
  obtain ⟨b1, hb1⟩ : ∃ b, b = hB 1 f0 := ⟨_, rfl⟩
  obtain ⟨b2, hb2⟩ : ∃ b, b = nB 2 f1 := ⟨_, rfl⟩
  obtain ⟨b3, hb3⟩ : ∃ b, b = dB 3 f2 := ⟨_, rfl⟩
  obtain ⟨b4, hb4⟩ : ∃ b, b = decide (f3.length = 0) := ⟨_, rfl⟩
  obtain ⟨br, hbr⟩ : ∃ b, b = mayS (seqS f0) := ⟨_, rfl⟩
  have hq : seqS f0 = ⟨hV 1 f0, nV 2 f1, dV 3 f2⟩ := by unfold seqS; rw [hf2, hf1]
  have hall : allS f0 = (b1 && (b2 && (b3 && (b4 && br)))) := by
    unfold allS
    rw [hb1, hb2, hb3, hb4, hbr, hf3, hf2, hf1]
  have hget := get_seqS bs
  rw [← hf0, hall] at hget
  obtain ⟨K, hKK⟩ : ∃ K, K = getSE bs := ⟨_, rfl⟩
  rw [← hKK]
  have HF : Hid ((b1 && (b2 && (b3 && (b4 && br)))) = false → R = Z ∧ K = 70) := fun hh => by
    rw [hh] at hget
    have hget : Go.Proofs.YtdnhnjimhbbababDoor.P7.getS bs = none := hget
    rw [HR.out, HZ.out, hKK]
    unfold getSO getSE
    rw [hget]
    exact ⟨rfl, rfl⟩
  have HT : Hid ((b1 && (b2 && (b3 && (b4 && br)))) = true → R = C3 ∧ K = 0) := fun hh => by
    rw [hh] at hget
    have hget : Go.Proofs.YtdnhnjimhbbababDoor.P7.getS bs = some (seqS f0) := hget
    rw [HR.out, hC3, hKK]
    unfold getSO getSE
    rw [hget, hq]
    exact ⟨rfl, rfl⟩
  have O1 : Hid (∀ W, Below w.heap.size w W → Calls Tryd.prog 31 #[.slice a len cap] W fun e w' => ∃ x c, e = .returned (.slice x f0.length c) ∧ Lie w' W.heap.size x c f0 ∧ Below W.heap.size W w') := fun W hb => by rw [hf0]; exact open_any a len cap bs W (hR.below hb) hl
  have I1 : Hid (∀ W g2 g4 g5 lo, GtS w W g2 g4 g5 lo Z Z 40 f0 → Calls Tryd.prog 32 #[.pointer (some ⟨g4, 0, none⟩), .int .i64 1, .func (.func 33) #[.pointer (some ⟨g5, 0, none⟩)] #[]] W fun e w' => e = .returned (.bool b1) ∧ GtS w w' g2 g4 g5 lo Z C1 40 f1) := fun W g2 g4 g5 lo hs => gt_head 1 0 b1 hs hsz (by rw [H36.out]; omega) (by rw [HZ.out, hC1]; exact (scells_zero (hV 1 f0) zeroH 0 (List.replicate 32 0) rfl).symm) hb1 hf1
  have I2 : Hid (∀ W g2 g4 g5 lo, GtS w W g2 g4 g5 lo Z C1 40 f1 → Calls Tryd.prog 34 #[.pointer (some ⟨g4, 36, none⟩), .int .i64 2, .func (.func 35) #[.pointer (some ⟨g5, 0, none⟩)] #[]] W fun e w' => e = .returned (.bool b2) ∧ GtS w w' g2 g4 g5 lo Z C2 40 f2) := fun W g2 g4 g5 lo hs => gt_int 2 36 b2 hs (by rw [hz1]; omega) (by rw [hC1, hC2]; exact (scells_node (hV 1 f0) 0 (nV 2 f1) (List.replicate 32 0) (hV_digs _ _)).symm) hb2 hf2
  have I3 : Hid (∀ W g2 g4 g5 lo, GtS w W g2 g4 g5 lo Z C2 40 f2 → Calls Tryd.prog 36 #[.pointer (some ⟨g4, 37, none⟩), .int .i64 3, .func (.func 37) #[.pointer (some ⟨g5, 0, none⟩)] #[]] W fun e w' => e = .returned (.bool b3) ∧ GtS w w' g2 g4 g5 lo Z C3 40 f3) := fun W g2 g4 g5 lo hs => gt_dig 3 37 b3 hs (by rw [hz2]; omega) (by rw [hC2, hC3]; exact (scells_sign (hV 1 f0) (nV 2 f1) (List.replicate 32 0) (dV 3 f2) (hV_digs _ _) rfl).symm) hb3 hf3
  have I4 : Hid (∀ W g2 g4 g5 lo, GtS w W g2 g4 g5 lo Z C3 40 f3 → Calls Tryd.prog 38 #[.pointer (some ⟨g5, 0, none⟩)] W fun e w' => e = .returned (.bool b4) ∧ GtS w w' g2 g4 g5 lo Z C3 40 f3) := fun W g2 g4 g5 lo hs => gt_ended b4 hs hb4
  obtain ⟨E, hE⟩ : ∃ E, E = mayS (seqS f0) := ⟨_, rfl⟩
  have hd5 : (seqS f0).h.d.length = 32 := hV_digs _ _
  have K1 : Hid (∀ W, Calls Tryd.prog 23 #[.agg C3] W fun e w' => e = .returned (.bool E) ∧ Below W.heap.size W w') := fun W => by rw [hE]; exact hMay_any (seqS f0) hd5 W C3 (by rw [hC3, hq]; exact hidk rfl)
  have hK : (E = true ∧ br = true) ∨ (E = false ∧ br = false) := by
    rw [hE, hbr]
    cases mayS (seqS f0)
    · exact .inr ⟨rfl, rfl⟩
    · exact .inl ⟨rfl, rfl⟩
  have HSC : Hid ((Tryd.prog.info? 40).map (·.size) = some C3.size) := by show _ = _; rw [sizeS, hz3]
  have H1C : Hid (C3.all (·.oneCell') = true) := by show _ = _; rw [hC3]; exact one_cellsS _
  have HZC : Hid (Z.size = C3.size) := by show _ = _; rw [H36.out, hz3]
  clear hf0 hf1 hf2 hf3 hC1 hC2 hC3 hz1 hz2 hz3 hb1 hb2 hb3 hb4 hbr hq hall hget hKK hE hd5 HR H36 hsz
  clear HZ hR
  go_enter Tryd.func10, Tryd.ntmps10
  go_wp2_with (first
    | (show wpList _ _ _ ({ dst := some 2, op := _, type := _, pos := _, after := _, guard := _ } :: _) _ _; refine wpList_new_var rfl 40 rfl Z HA.out ?_; intro g2 w1 HM2; try simp only [Act.put, List.setIfInBounds_toArray, List.set_cons_zero, List.set_cons_succ])
    | (show wpList _ _ _ ({ dst := some 4, op := _, type := _, pos := _, after := _, guard := _ } :: _) _ _; refine wpList_new_var rfl 40 rfl Z HA.out ?_; intro g4 w2 HM4; try simp only [Act.put, List.setIfInBounds_toArray, List.set_cons_zero, List.set_cons_succ])
    | fail)
  have HB2 : Hid (Below w.heap.size w w2) := HM2.out.below.trans (HM4.out.below.mono HM2.out.below.size)
  refine (O1.out w2 HB2.out).mono ?_
  rintro e w3 ⟨x, c, rfl, hl3, hb3⟩
  have HS0 : Hid (GtS w (w3.alloc (.cells #[.slice x f0.length c] 73)) g2 g4 w3.heap.size w2.heap.size Z Z 40 f0) := by
    have hbb := HB2.out.trans (hb3.mono HB2.out.size)
    have q2 : w2.heap[g2]? = some (.cells Z 40 (0, 0)) := (HM4.out.below.block _ (heap_lt HM2.out.row)).trans HM2.out.row
    refine ⟨hbb.alloc hbb.size _, heap_keep ((hb3.block _ (heap_lt q2)).trans q2), heap_keep ((hb3.block _ (heap_lt HM4.out.row)).trans HM4.out.row), rd_new hl3 hb3.size, Nat.le_of_eq HM2.out.new.symm, ?_, heap_lt HM4.out.row, hb3.size⟩
    rw [HM4.out.new]; exact heap_lt HM2.out.row
  obtain ⟨g5, hg5⟩ : ∃ g, g = w3.heap.size := ⟨_, rfl⟩
  obtain ⟨lo, hlo⟩ : ∃ g, g = w2.heap.size := ⟨_, rfl⟩
  rw [← hg5, ← hlo] at HS0
  clear HM2 HM4 HB2 hb3 hl3 O1 hlo
  go_wp2_with fail
  rw [← hg5]
  clear hg5
  refine (I1.out _ _ _ _ _ HS0.out).mono ?_
  rintro e v1 ⟨rfl, hs1⟩
  have HS1 := hidk hs1
  clear hs1 HS0 I1
  cases b1
  · skip
    go_wp2_with (first
      | (show wpList _ _ _ ({ dst := some 32, op := _, type := _, pos := _, after := _, guard := _ } :: _) _ _; refine wpList_build_none rfl 40 rfl Z HBZ.out ?_; try simp only [Act.put, List.setIfInBounds_toArray, List.set_cons_zero, List.set_cons_succ])
      | (refine wpList_set_var rfl 40 (.tmp 2) (.tmp 32) rfl g2 Z rfl rfl 40 Z HS1.out.r2 HSZ.out rfl H1Z.out ?_; intro wz HWz; try simp only [Act.put, List.setIfInBounds_toArray, List.set_cons_zero, List.set_cons_succ])
      | fail)
    refine bodyPost_ret (v := .tuple #[.agg R, .int .i64 K]) ?_ rfl ⟨rfl, HWz.out.below w.heap.size w HS1.out.below HS1.out.o2⟩
    rw [(HF.out rfl).1, (HF.out rfl).2]
    exact results_row_tmp (p := 2) (q := 3) (ty := 40) rfl _ _ g2 40 Z (0, 0) _ rfl HWz.out.row Tryd.underlying40 rfl HSZ.out
  go_wp2_with fail
  refine (I2.out _ _ _ _ _ HS1.out).mono ?_
  rintro e v2 ⟨rfl, hs2⟩
  have HS2 := hidk hs2
  clear hs2 HS1 I2
  cases b2
  · skip
    go_wp2_with (first
      | (show wpList _ _ _ ({ dst := some 32, op := _, type := _, pos := _, after := _, guard := _ } :: _) _ _; refine wpList_build_none rfl 40 rfl Z HBZ.out ?_; try simp only [Act.put, List.setIfInBounds_toArray, List.set_cons_zero, List.set_cons_succ])
      | (refine wpList_set_var rfl 40 (.tmp 2) (.tmp 32) rfl g2 Z rfl rfl 40 Z HS2.out.r2 HSZ.out rfl H1Z.out ?_; intro wz HWz; try simp only [Act.put, List.setIfInBounds_toArray, List.set_cons_zero, List.set_cons_succ])
      | fail)
    refine bodyPost_ret (v := .tuple #[.agg R, .int .i64 K]) ?_ rfl ⟨rfl, HWz.out.below w.heap.size w HS2.out.below HS2.out.o2⟩
    rw [(HF.out rfl).1, (HF.out rfl).2]
    exact results_row_tmp (p := 2) (q := 3) (ty := 40) rfl _ _ g2 40 Z (0, 0) _ rfl HWz.out.row Tryd.underlying40 rfl HSZ.out
  go_wp2_with fail
  refine (I3.out _ _ _ _ _ HS2.out).mono ?_
  rintro e v3 ⟨rfl, hs3⟩
  have HS3 := hidk hs3
  clear hs3 HS2 I3
  cases b3
  · skip
    go_wp2_with (first
      | (show wpList _ _ _ ({ dst := some 32, op := _, type := _, pos := _, after := _, guard := _ } :: _) _ _; refine wpList_build_none rfl 40 rfl Z HBZ.out ?_; try simp only [Act.put, List.setIfInBounds_toArray, List.set_cons_zero, List.set_cons_succ])
      | (refine wpList_set_var rfl 40 (.tmp 2) (.tmp 32) rfl g2 Z rfl rfl 40 Z HS3.out.r2 HSZ.out rfl H1Z.out ?_; intro wz HWz; try simp only [Act.put, List.setIfInBounds_toArray, List.set_cons_zero, List.set_cons_succ])
      | fail)
    refine bodyPost_ret (v := .tuple #[.agg R, .int .i64 K]) ?_ rfl ⟨rfl, HWz.out.below w.heap.size w HS3.out.below HS3.out.o2⟩
    rw [(HF.out rfl).1, (HF.out rfl).2]
    exact results_row_tmp (p := 2) (q := 3) (ty := 40) rfl _ _ g2 40 Z (0, 0) _ rfl HWz.out.row Tryd.underlying40 rfl HSZ.out
  go_wp2_with fail
  refine (I4.out _ _ _ _ _ HS3.out).mono ?_
  rintro e v4 ⟨rfl, hs4⟩
  have HS4 := hidk hs4
  clear hs4 HS3 I4
  cases b4
  · skip
    go_wp2_with (first
      | (show wpList _ _ _ ({ dst := some 32, op := _, type := _, pos := _, after := _, guard := _ } :: _) _ _; refine wpList_build_none rfl 40 rfl Z HBZ.out ?_; try simp only [Act.put, List.setIfInBounds_toArray, List.set_cons_zero, List.set_cons_succ])
      | (refine wpList_set_var rfl 40 (.tmp 2) (.tmp 32) rfl g2 Z rfl rfl 40 Z HS4.out.r2 HSZ.out rfl H1Z.out ?_; intro wz HWz; try simp only [Act.put, List.setIfInBounds_toArray, List.set_cons_zero, List.set_cons_succ])
      | fail)
    refine bodyPost_ret (v := .tuple #[.agg R, .int .i64 K]) ?_ rfl ⟨rfl, HWz.out.below w.heap.size w HS4.out.below HS4.out.o2⟩
    rw [(HF.out rfl).1, (HF.out rfl).2]
    exact results_row_tmp (p := 2) (q := 3) (ty := 40) rfl _ _ g2 40 Z (0, 0) _ rfl HWz.out.row Tryd.underlying40 rfl HSZ.out
  go_wp2_with (first
    | (show wpList _ _ _ ({ dst := some 28, op := _, type := _, pos := _, after := _, guard := _ } :: _) _ _; refine wpList_load_row_w (by rfl) 40 (.tmp 4) rfl g4 rfl 40 C3 (0, 0) _ HS4.out.r4 Tryd.underlying40 rfl HSC.out ?_; try simp only [Act.put, List.setIfInBounds_toArray, List.set_cons_zero, List.set_cons_succ])
    | fail)
  refine (K1.out _).mono ?_
  rintro e vk ⟨rfl, hbk⟩
  have HSk := hidk (HS4.out.keep hbk)
  clear hbk HS4 K1
  rcases hK with ⟨rfl, rfl⟩ | ⟨rfl, rfl⟩
  · go_wp2_with (first
      | (show wpList _ _ _ ({ dst := some 33, op := _, type := _, pos := _, after := _, guard := _ } :: _) _ _; refine wpList_load_row rfl 40 (.tmp 4) rfl g4 rfl 40 C3 (0, 0) _ HSk.out.r4 Tryd.underlying40 rfl HSC.out ?_; try simp only [Act.put, List.setIfInBounds_toArray, List.set_cons_zero, List.set_cons_succ])
      | (refine wpList_set_var rfl 40 (.tmp 2) (.tmp 33) rfl g2 C3 rfl rfl 40 Z HSk.out.r2 HSC.out HZC.out H1C.out ?_; intro wz HWz; try simp only [Act.put, List.setIfInBounds_toArray, List.set_cons_zero, List.set_cons_succ])
      | fail)
    refine bodyPost_ret (v := .tuple #[.agg R, .int .i64 K]) ?_ rfl ⟨rfl, HWz.out.below w.heap.size w HSk.out.below HSk.out.o2⟩
    rw [(HT.out rfl).1, (HT.out rfl).2]
    exact results_row_tmp (p := 2) (q := 3) (ty := 40) rfl _ _ g2 40 C3 (0, 0) _ rfl HWz.out.row Tryd.underlying40 rfl HSC.out
  · skip
    go_wp2_with (first
      | (show wpList _ _ _ ({ dst := some 32, op := _, type := _, pos := _, after := _, guard := _ } :: _) _ _; refine wpList_build_none rfl 40 rfl Z HBZ.out ?_; try simp only [Act.put, List.setIfInBounds_toArray, List.set_cons_zero, List.set_cons_succ])
      | (refine wpList_set_var rfl 40 (.tmp 2) (.tmp 32) rfl g2 Z rfl rfl 40 Z HSk.out.r2 HSZ.out rfl H1Z.out ?_; intro wz HWz; try simp only [Act.put, List.setIfInBounds_toArray, List.set_cons_zero, List.set_cons_succ])
      | fail)
    refine bodyPost_ret (v := .tuple #[.agg R, .int .i64 K]) ?_ rfl ⟨rfl, HWz.out.below w.heap.size w HSk.out.below HSk.out.o2⟩
    rw [(HF.out rfl).1, (HF.out rfl).2]
    exact results_row_tmp (p := 2) (q := 3) (ty := 40) rfl _ _ g2 40 Z (0, 0) _ rfl HWz.out.row Tryd.underlying40 rfl HSZ.out
end Go.Proofs.YtdnhnjimhbbababDoor.P7

/- What the calls of package head answer, all together. -/
namespace Go.Proofs.YtdnhnjimhbbababDoor.P7
open Go.RowKit Sums Nums
set_option maxRecDepth 100000
set_option linter.unusedVariables false
/-- What the calls of package head answer. -/
theorem headC : HeadC where
  check := fun h hh w C HC => hCheck_any h hh.d w C HC
  put := fun h hh w C HC => hPut_any h hh.d w C HC
  get := fun a len cap bs w hR hl R HR => hGet_any a len cap bs w hR (by omega) R HR
  sign := fun master h n w M C R HM HC hm hh hn hT HR => hSign_any master h n w M C R HM HC hm hh.d hT HR
  verify := fun master s w M C HM HC hm hs hT => hVerify_any master s w M C HM HC hm hs hT
  putS := fun s hs w C HC => hPutS_any s hs w C HC
  getS := fun a len cap bs w hR hl R HR => hGetS_any a len cap bs w hR (by omega) R HR
end Go.Proofs.YtdnhnjimhbbababDoor.P7

/- What front.Check answers. -/
namespace Go.Proofs.YtdnhnjimhbbababDoor
open Go.RowKit Sums
set_option maxRecDepth 100000
set_option linter.unusedVariables false
set_option linter.unusedSimpArgs false
/-- A struct of two cells in its block. -/
def Two (W : World) (g : Nat) (x y : Value) : Prop := W.cell? ⟨g, 0, none⟩ = some x ∧ W.cell? ⟨g, 1, none⟩ = some y
theorem two_new (w : World) (x y : Value) (t : TypeId) : Two (w.alloc (.cells #[x, y] t)) w.heap.size x y :=
  ⟨by rw [cell_of_row _ _ 0 _ t (0, 0) (heap_alloc_new w _)]; rfl, by rw [cell_of_row _ _ 1 _ t (0, 0) (heap_alloc_new w _)]; rfl⟩
theorem Two.keep {W W' : World} {g : Nat} {x y : Value} (h : Two W g x y) (hb : Below W.heap.size W W') : Two W' g x y := by
  have hg : g < W.heap.size := World.block_lt_of_cell? _ _ h.1
  exact ⟨by rw [hb.cell hg]; exact h.1, by rw [hb.cell hg]; exact h.2⟩
set_option maxHeartbeats 1000000 in
theorem check_neg (n : Int) (a : Option Addr) (len cap : Nat) (w : World) (h : n < 0) :
    Calls Tryd.prog 19 #[.agg #[.int .i64 n, .slice a len cap]] w fun e w' => e = .returned (.int .i64 30) ∧ Below w.heap.size w w' := by
  have d0 : decide (n < 0) = true := by rw [decide_eq_true_eq]; exact h
  clear h
  go_enter Tryd.func19, Tryd.ntmps19
  go_wp2
  refine wp_region_held_drew (S := (fun W => Two W w.heap.size (.int .i64 n) (.slice a len cap))) (by kernel_rfl) (show Two (w.alloc (.cells #[.int .i64 n, .slice a len cap] 28)) w.heap.size (.int .i64 n) (.slice a len cap) from two_new w _ _ _) (fun hHeld => ?_)
  refine wpAnyH_take (i := 0) (oi := { dst := some 3, op := Op.fieldAddr 28 (Operand.tmp 1) 0, type := 0, pos := "front.go:47", after := #[], guard := none }) (v := .pointer (some ⟨w.heap.size, 0, none⟩)) rfl (by kernel_rfl) (by kernel_rfl) (by kernel_rfl) (fun _ _ _ h => h) (Or.inl ⟨by rfl, by intro w hSw; go_simp⟩) hHeld ?_
  try simp only [Act.put, List.setIfInBounds_toArray, List.set_cons_zero, List.set_cons_succ]
  refine wpAnyH_take (i := 1) (oi := { dst := some 4, op := Op.load 3 (Operand.tmp 3), type := 3, pos := "front.go:47", after := #[{ on := 0, ground := Ground.data }], guard := none }) (v := .int .i64 n) rfl (by kernel_rfl) (by kernel_rfl) (by kernel_rfl) (fun _ _ _ h => h) (Or.inl ⟨by rfl, by intro W hSw; have h1 := hSw.1; go_simp⟩) hHeld ?_
  try simp only [Act.put, List.setIfInBounds_toArray, List.set_cons_zero, List.set_cons_succ]
  refine wpAnyH_take (i := 2) (oi := { dst := some 5, op := Op.binOp BinOp.lss 3 (Operand.tmp 4) (Operand.const (Value.int IntKind.i64 0)) 3, type := 4, pos := "front.go:47", after := #[{ on := 1, ground := Ground.data }], guard := none }) (v := .bool true) rfl (by kernel_rfl) (by kernel_rfl) (by kernel_rfl) (fun _ _ _ h => h) (Or.inl ⟨by rfl, by intro w hSw; go_simp⟩) hHeld ?_
  try simp only [Act.put, List.setIfInBounds_toArray, List.set_cons_zero, List.set_cons_succ]
  refine wpAnyH_take (i := 3) (oi := { dst := some 6, op := Op.move (Operand.tmp 5), type := 4, pos := "front.go:47", after := #[{ on := 2, ground := Ground.data }], guard := none }) (v := .bool true) rfl (by kernel_rfl) (by kernel_rfl) (by kernel_rfl) (fun _ _ _ h => h) (Or.inl ⟨by rfl, by intro w hSw; go_simp⟩) hHeld ?_
  try simp only [Act.put, List.setIfInBounds_toArray, List.set_cons_zero, List.set_cons_succ]
  refine wpAnyH_take (i := 4) (oi := { dst := some 7, op := Op.fieldAddr 28 (Operand.tmp 1) 0, type := 0, pos := "front.go:47", after := #[{ on := 3, ground := Ground.guard }], guard := some (3, false) }) (v := undef) rfl (by kernel_rfl) (by kernel_rfl) (by kernel_rfl) (fun _ _ _ h => h) (Or.inr ⟨by rfl, rfl⟩) hHeld ?_
  try simp only [Act.put, List.setIfInBounds_toArray, List.set_cons_zero, List.set_cons_succ]
  refine wpAnyH_take (i := 5) (oi := { dst := some 8, op := Op.load 3 (Operand.tmp 7), type := 3, pos := "front.go:47", after := #[{ on := 4, ground := Ground.data }, { on := 3, ground := Ground.guard }], guard := some (3, false) }) (v := undef) rfl (by kernel_rfl) (by kernel_rfl) (by kernel_rfl) (fun _ _ _ h => h) (Or.inr ⟨by rfl, rfl⟩) hHeld ?_
  try simp only [Act.put, List.setIfInBounds_toArray, List.set_cons_zero, List.set_cons_succ]
  refine wpAnyH_take (i := 6) (oi := { dst := some 9, op := Op.binOp BinOp.gtr 3 (Operand.tmp 8) (Operand.const (Value.int IntKind.i64 100000)) 3, type := 4, pos := "front.go:47", after := #[{ on := 5, ground := Ground.data }, { on := 3, ground := Ground.guard }], guard := some (3, false) }) (v := undef) rfl (by kernel_rfl) (by kernel_rfl) (by kernel_rfl) (fun _ _ _ h => h) (Or.inr ⟨by rfl, rfl⟩) hHeld ?_
  try simp only [Act.put, List.setIfInBounds_toArray, List.set_cons_zero, List.set_cons_succ]
  refine wpAnyH_take (i := 7) (oi := { dst := some 10, op := Op.pick (Operand.tmp 6) (Operand.const (Value.bool true)) (Operand.tmp 9), type := 4, pos := "front.go:47", after := #[{ on := 3, ground := Ground.data }, { on := 6, ground := Ground.data }], guard := none }) (v := .bool true) rfl (by kernel_rfl) (by kernel_rfl) (by kernel_rfl) (fun _ _ _ h => h) (Or.inl ⟨by rfl, by intro w hSw; go_simp⟩) hHeld ?_
  try simp only [Act.put, List.setIfInBounds_toArray, List.set_cons_zero, List.set_cons_succ]
  refine wpAnyH_take (i := 8) (oi := { dst := some 11, op := Op.move (Operand.tmp 10), type := 4, pos := "front.go:47", after := #[{ on := 7, ground := Ground.data }, { on := 3, ground := Ground.chain }], guard := none }) (v := .bool true) rfl (by kernel_rfl) (by kernel_rfl) (by kernel_rfl) (fun _ _ _ h => h) (Or.inl ⟨by rfl, by intro w hSw; go_simp⟩) hHeld ?_
  try simp only [Act.put, List.setIfInBounds_toArray, List.set_cons_zero, List.set_cons_succ]
  refine wpAnyH_take (i := 9) (oi := { dst := some 12, op := Op.fieldAddr 28 (Operand.tmp 1) 1, type := 0, pos := "front.go:47", after := #[{ on := 8, ground := Ground.guard }], guard := some (8, false) }) (v := undef) rfl (by kernel_rfl) (by kernel_rfl) (by kernel_rfl) (fun _ _ _ h => h) (Or.inr ⟨by rfl, rfl⟩) hHeld ?_
  try simp only [Act.put, List.setIfInBounds_toArray, List.set_cons_zero, List.set_cons_succ]
  refine wpAnyH_take (i := 10) (oi := { dst := some 13, op := Op.load 26 (Operand.tmp 12), type := 26, pos := "front.go:47", after := #[{ on := 9, ground := Ground.data }, { on := 8, ground := Ground.guard }], guard := some (8, false) }) (v := undef) rfl (by kernel_rfl) (by kernel_rfl) (by kernel_rfl) (fun _ _ _ h => h) (Or.inr ⟨by rfl, rfl⟩) hHeld ?_
  try simp only [Act.put, List.setIfInBounds_toArray, List.set_cons_zero, List.set_cons_succ]
  refine wpAnyH_take (i := 11) (oi := { dst := some 14, op := Op.call { callee := Callee.builtin Builtin.len, args := #[Operand.tmp 13], argTypes := #[26] }, type := 3, pos := "front.go:47", after := #[{ on := 10, ground := Ground.data }, { on := 8, ground := Ground.guard }], guard := some (8, false) }) (v := undef) rfl (by kernel_rfl) (by kernel_rfl) (by kernel_rfl) (fun _ _ _ h => h) (Or.inr ⟨by rfl, rfl⟩) hHeld ?_
  try simp only [Act.put, List.setIfInBounds_toArray, List.set_cons_zero, List.set_cons_succ]
  refine wpAnyH_take (i := 12) (oi := { dst := some 15, op := Op.fieldAddr 28 (Operand.tmp 1) 0, type := 0, pos := "front.go:47", after := #[{ on := 8, ground := Ground.guard }], guard := some (8, false) }) (v := undef) rfl (by kernel_rfl) (by kernel_rfl) (by kernel_rfl) (fun _ _ _ h => h) (Or.inr ⟨by rfl, rfl⟩) hHeld ?_
  try simp only [Act.put, List.setIfInBounds_toArray, List.set_cons_zero, List.set_cons_succ]
  refine wpAnyH_take (i := 13) (oi := { dst := some 16, op := Op.load 3 (Operand.tmp 15), type := 3, pos := "front.go:47", after := #[{ on := 12, ground := Ground.data }, { on := 8, ground := Ground.guard }], guard := some (8, false) }) (v := undef) rfl (by kernel_rfl) (by kernel_rfl) (by kernel_rfl) (fun _ _ _ h => h) (Or.inr ⟨by rfl, rfl⟩) hHeld ?_
  try simp only [Act.put, List.setIfInBounds_toArray, List.set_cons_zero, List.set_cons_succ]
  refine wpAnyH_take (i := 14) (oi := { dst := some 17, op := Op.convert 3 103 (Operand.tmp 16), type := 103, pos := "front.go:47", after := #[{ on := 13, ground := Ground.data }, { on := 8, ground := Ground.guard }], guard := some (8, false) }) (v := undef) rfl (by kernel_rfl) (by kernel_rfl) (by kernel_rfl) (fun _ _ _ h => h) (Or.inr ⟨by rfl, rfl⟩) hHeld ?_
  try simp only [Act.put, List.setIfInBounds_toArray, List.set_cons_zero, List.set_cons_succ]
  refine wpAnyH_take (i := 15) (oi := { dst := some 18, op := Op.call { callee := Callee.value (Operand.func 53), args := #[Operand.tmp 17], argTypes := #[103] }, type := 3, pos := "front.go:47", after := #[{ on := 14, ground := Ground.data }, { on := 8, ground := Ground.chain }, { on := 8, ground := Ground.guard }], guard := some (8, false) }) (v := undef) rfl (by kernel_rfl) (by kernel_rfl) (by kernel_rfl) (fun _ _ _ h => h) (Or.inr ⟨by rfl, rfl⟩) hHeld ?_
  try simp only [Act.put, List.setIfInBounds_toArray, List.set_cons_zero, List.set_cons_succ]
  refine wpAnyH_take (i := 16) (oi := { dst := some 19, op := Op.binOp BinOp.neq 3 (Operand.tmp 14) (Operand.tmp 18) 3, type := 4, pos := "front.go:47", after := #[{ on := 11, ground := Ground.data }, { on := 15, ground := Ground.data }, { on := 8, ground := Ground.guard }], guard := some (8, false) }) (v := undef) rfl (by kernel_rfl) (by kernel_rfl) (by kernel_rfl) (fun _ _ _ h => h) (Or.inr ⟨by rfl, rfl⟩) hHeld ?_
  try simp only [Act.put, List.setIfInBounds_toArray, List.set_cons_zero, List.set_cons_succ]
  refine wpAnyH_take (i := 17) (oi := { dst := some 20, op := Op.pick (Operand.tmp 11) (Operand.const (Value.bool true)) (Operand.tmp 19), type := 4, pos := "front.go:47", after := #[{ on := 8, ground := Ground.data }, { on := 16, ground := Ground.data }], guard := none }) (v := .bool true) rfl (by kernel_rfl) (by kernel_rfl) (by kernel_rfl) (fun _ _ _ h => h) (Or.inl ⟨by rfl, by intro w hSw; go_simp⟩) hHeld ?_
  try simp only [Act.put, List.setIfInBounds_toArray, List.set_cons_zero, List.set_cons_succ]
  refine wpAnyH_done (by kernel_rfl) ?_ _
  go_wp2
  go_ret
  exact ⟨rfl, ((Below.refl _ _).alloc (Nat.le_refl _) _).drew⟩
set_option maxHeartbeats 1000000 in
theorem check_big (n : Int) (a : Option Addr) (len cap : Nat) (w : World) (h : 100000 < n) :
    Calls Tryd.prog 19 #[.agg #[.int .i64 n, .slice a len cap]] w fun e w' => e = .returned (.int .i64 30) ∧ Below w.heap.size w w' := by
  have d0 : decide (n < 0) = false := by rw [decide_eq_false_iff_not]; omega
  have d1 : decide (100000 < n) = true := by rw [decide_eq_true_eq]; exact h
  clear h
  go_enter Tryd.func19, Tryd.ntmps19
  go_wp2
  refine wp_region_held_drew (S := (fun W => Two W w.heap.size (.int .i64 n) (.slice a len cap))) (by kernel_rfl) (show Two (w.alloc (.cells #[.int .i64 n, .slice a len cap] 28)) w.heap.size (.int .i64 n) (.slice a len cap) from two_new w _ _ _) (fun hHeld => ?_)
  refine wpAnyH_take (i := 0) (oi := { dst := some 3, op := Op.fieldAddr 28 (Operand.tmp 1) 0, type := 0, pos := "front.go:47", after := #[], guard := none }) (v := .pointer (some ⟨w.heap.size, 0, none⟩)) rfl (by kernel_rfl) (by kernel_rfl) (by kernel_rfl) (fun _ _ _ h => h) (Or.inl ⟨by rfl, by intro w hSw; go_simp⟩) hHeld ?_
  try simp only [Act.put, List.setIfInBounds_toArray, List.set_cons_zero, List.set_cons_succ]
  refine wpAnyH_take (i := 1) (oi := { dst := some 4, op := Op.load 3 (Operand.tmp 3), type := 3, pos := "front.go:47", after := #[{ on := 0, ground := Ground.data }], guard := none }) (v := .int .i64 n) rfl (by kernel_rfl) (by kernel_rfl) (by kernel_rfl) (fun _ _ _ h => h) (Or.inl ⟨by rfl, by intro W hSw; have h1 := hSw.1; go_simp⟩) hHeld ?_
  try simp only [Act.put, List.setIfInBounds_toArray, List.set_cons_zero, List.set_cons_succ]
  refine wpAnyH_take (i := 2) (oi := { dst := some 5, op := Op.binOp BinOp.lss 3 (Operand.tmp 4) (Operand.const (Value.int IntKind.i64 0)) 3, type := 4, pos := "front.go:47", after := #[{ on := 1, ground := Ground.data }], guard := none }) (v := .bool false) rfl (by kernel_rfl) (by kernel_rfl) (by kernel_rfl) (fun _ _ _ h => h) (Or.inl ⟨by rfl, by intro w hSw; go_simp⟩) hHeld ?_
  try simp only [Act.put, List.setIfInBounds_toArray, List.set_cons_zero, List.set_cons_succ]
  refine wpAnyH_take (i := 3) (oi := { dst := some 6, op := Op.move (Operand.tmp 5), type := 4, pos := "front.go:47", after := #[{ on := 2, ground := Ground.data }], guard := none }) (v := .bool false) rfl (by kernel_rfl) (by kernel_rfl) (by kernel_rfl) (fun _ _ _ h => h) (Or.inl ⟨by rfl, by intro w hSw; go_simp⟩) hHeld ?_
  try simp only [Act.put, List.setIfInBounds_toArray, List.set_cons_zero, List.set_cons_succ]
  refine wpAnyH_take (i := 4) (oi := { dst := some 7, op := Op.fieldAddr 28 (Operand.tmp 1) 0, type := 0, pos := "front.go:47", after := #[{ on := 3, ground := Ground.guard }], guard := some (3, false) }) (v := .pointer (some ⟨w.heap.size, 0, none⟩)) rfl (by kernel_rfl) (by kernel_rfl) (by kernel_rfl) (fun _ _ _ h => h) (Or.inl ⟨by rfl, by intro w hSw; go_simp⟩) hHeld ?_
  try simp only [Act.put, List.setIfInBounds_toArray, List.set_cons_zero, List.set_cons_succ]
  refine wpAnyH_take (i := 5) (oi := { dst := some 8, op := Op.load 3 (Operand.tmp 7), type := 3, pos := "front.go:47", after := #[{ on := 4, ground := Ground.data }, { on := 3, ground := Ground.guard }], guard := some (3, false) }) (v := .int .i64 n) rfl (by kernel_rfl) (by kernel_rfl) (by kernel_rfl) (fun _ _ _ h => h) (Or.inl ⟨by rfl, by intro W hSw; have h1 := hSw.1; go_simp⟩) hHeld ?_
  try simp only [Act.put, List.setIfInBounds_toArray, List.set_cons_zero, List.set_cons_succ]
  refine wpAnyH_take (i := 6) (oi := { dst := some 9, op := Op.binOp BinOp.gtr 3 (Operand.tmp 8) (Operand.const (Value.int IntKind.i64 100000)) 3, type := 4, pos := "front.go:47", after := #[{ on := 5, ground := Ground.data }, { on := 3, ground := Ground.guard }], guard := some (3, false) }) (v := .bool true) rfl (by kernel_rfl) (by kernel_rfl) (by kernel_rfl) (fun _ _ _ h => h) (Or.inl ⟨by rfl, by intro w hSw; go_simp⟩) hHeld ?_
  try simp only [Act.put, List.setIfInBounds_toArray, List.set_cons_zero, List.set_cons_succ]
  refine wpAnyH_take (i := 7) (oi := { dst := some 10, op := Op.pick (Operand.tmp 6) (Operand.const (Value.bool true)) (Operand.tmp 9), type := 4, pos := "front.go:47", after := #[{ on := 3, ground := Ground.data }, { on := 6, ground := Ground.data }], guard := none }) (v := .bool true) rfl (by kernel_rfl) (by kernel_rfl) (by kernel_rfl) (fun _ _ _ h => h) (Or.inl ⟨by rfl, by intro w hSw; go_simp⟩) hHeld ?_
  try simp only [Act.put, List.setIfInBounds_toArray, List.set_cons_zero, List.set_cons_succ]
  refine wpAnyH_take (i := 8) (oi := { dst := some 11, op := Op.move (Operand.tmp 10), type := 4, pos := "front.go:47", after := #[{ on := 7, ground := Ground.data }, { on := 3, ground := Ground.chain }], guard := none }) (v := .bool true) rfl (by kernel_rfl) (by kernel_rfl) (by kernel_rfl) (fun _ _ _ h => h) (Or.inl ⟨by rfl, by intro w hSw; go_simp⟩) hHeld ?_
  try simp only [Act.put, List.setIfInBounds_toArray, List.set_cons_zero, List.set_cons_succ]
  refine wpAnyH_take (i := 9) (oi := { dst := some 12, op := Op.fieldAddr 28 (Operand.tmp 1) 1, type := 0, pos := "front.go:47", after := #[{ on := 8, ground := Ground.guard }], guard := some (8, false) }) (v := undef) rfl (by kernel_rfl) (by kernel_rfl) (by kernel_rfl) (fun _ _ _ h => h) (Or.inr ⟨by rfl, rfl⟩) hHeld ?_
  try simp only [Act.put, List.setIfInBounds_toArray, List.set_cons_zero, List.set_cons_succ]
  refine wpAnyH_take (i := 10) (oi := { dst := some 13, op := Op.load 26 (Operand.tmp 12), type := 26, pos := "front.go:47", after := #[{ on := 9, ground := Ground.data }, { on := 8, ground := Ground.guard }], guard := some (8, false) }) (v := undef) rfl (by kernel_rfl) (by kernel_rfl) (by kernel_rfl) (fun _ _ _ h => h) (Or.inr ⟨by rfl, rfl⟩) hHeld ?_
  try simp only [Act.put, List.setIfInBounds_toArray, List.set_cons_zero, List.set_cons_succ]
  refine wpAnyH_take (i := 11) (oi := { dst := some 14, op := Op.call { callee := Callee.builtin Builtin.len, args := #[Operand.tmp 13], argTypes := #[26] }, type := 3, pos := "front.go:47", after := #[{ on := 10, ground := Ground.data }, { on := 8, ground := Ground.guard }], guard := some (8, false) }) (v := undef) rfl (by kernel_rfl) (by kernel_rfl) (by kernel_rfl) (fun _ _ _ h => h) (Or.inr ⟨by rfl, rfl⟩) hHeld ?_
  try simp only [Act.put, List.setIfInBounds_toArray, List.set_cons_zero, List.set_cons_succ]
  refine wpAnyH_take (i := 12) (oi := { dst := some 15, op := Op.fieldAddr 28 (Operand.tmp 1) 0, type := 0, pos := "front.go:47", after := #[{ on := 8, ground := Ground.guard }], guard := some (8, false) }) (v := undef) rfl (by kernel_rfl) (by kernel_rfl) (by kernel_rfl) (fun _ _ _ h => h) (Or.inr ⟨by rfl, rfl⟩) hHeld ?_
  try simp only [Act.put, List.setIfInBounds_toArray, List.set_cons_zero, List.set_cons_succ]
  refine wpAnyH_take (i := 13) (oi := { dst := some 16, op := Op.load 3 (Operand.tmp 15), type := 3, pos := "front.go:47", after := #[{ on := 12, ground := Ground.data }, { on := 8, ground := Ground.guard }], guard := some (8, false) }) (v := undef) rfl (by kernel_rfl) (by kernel_rfl) (by kernel_rfl) (fun _ _ _ h => h) (Or.inr ⟨by rfl, rfl⟩) hHeld ?_
  try simp only [Act.put, List.setIfInBounds_toArray, List.set_cons_zero, List.set_cons_succ]
  refine wpAnyH_take (i := 14) (oi := { dst := some 17, op := Op.convert 3 103 (Operand.tmp 16), type := 103, pos := "front.go:47", after := #[{ on := 13, ground := Ground.data }, { on := 8, ground := Ground.guard }], guard := some (8, false) }) (v := undef) rfl (by kernel_rfl) (by kernel_rfl) (by kernel_rfl) (fun _ _ _ h => h) (Or.inr ⟨by rfl, rfl⟩) hHeld ?_
  try simp only [Act.put, List.setIfInBounds_toArray, List.set_cons_zero, List.set_cons_succ]
  refine wpAnyH_take (i := 15) (oi := { dst := some 18, op := Op.call { callee := Callee.value (Operand.func 53), args := #[Operand.tmp 17], argTypes := #[103] }, type := 3, pos := "front.go:47", after := #[{ on := 14, ground := Ground.data }, { on := 8, ground := Ground.chain }, { on := 8, ground := Ground.guard }], guard := some (8, false) }) (v := undef) rfl (by kernel_rfl) (by kernel_rfl) (by kernel_rfl) (fun _ _ _ h => h) (Or.inr ⟨by rfl, rfl⟩) hHeld ?_
  try simp only [Act.put, List.setIfInBounds_toArray, List.set_cons_zero, List.set_cons_succ]
  refine wpAnyH_take (i := 16) (oi := { dst := some 19, op := Op.binOp BinOp.neq 3 (Operand.tmp 14) (Operand.tmp 18) 3, type := 4, pos := "front.go:47", after := #[{ on := 11, ground := Ground.data }, { on := 15, ground := Ground.data }, { on := 8, ground := Ground.guard }], guard := some (8, false) }) (v := undef) rfl (by kernel_rfl) (by kernel_rfl) (by kernel_rfl) (fun _ _ _ h => h) (Or.inr ⟨by rfl, rfl⟩) hHeld ?_
  try simp only [Act.put, List.setIfInBounds_toArray, List.set_cons_zero, List.set_cons_succ]
  refine wpAnyH_take (i := 17) (oi := { dst := some 20, op := Op.pick (Operand.tmp 11) (Operand.const (Value.bool true)) (Operand.tmp 19), type := 4, pos := "front.go:47", after := #[{ on := 8, ground := Ground.data }, { on := 16, ground := Ground.data }], guard := none }) (v := .bool true) rfl (by kernel_rfl) (by kernel_rfl) (by kernel_rfl) (fun _ _ _ h => h) (Or.inl ⟨by rfl, by intro w hSw; go_simp⟩) hHeld ?_
  try simp only [Act.put, List.setIfInBounds_toArray, List.set_cons_zero, List.set_cons_succ]
  refine wpAnyH_done (by kernel_rfl) ?_ _
  go_wp2
  go_ret
  exact ⟨rfl, ((Below.refl _ _).alloc (Nat.le_refl _) _).drew⟩
set_option maxHeartbeats 1000000 in
theorem check_yes (N : Nat) (a : Option Addr) (len cap : Nat) (w : World) (h : N ≤ 100000) (hm : len = many N) :
    Calls Tryd.prog 19 #[.agg #[.int .i64 N, .slice a len cap]] w fun e w' => e = .returned (.int .i64 0) ∧ Below w.heap.size w w' := by
  obtain ⟨M, HM⟩ : ∃ M, Hid (M = many N) := ⟨_, (rfl : many N = _)⟩
  have MC : Hid (∀ W, Calls Tryd.prog 53 #[.int .u64 N] W fun e w' => e = .returned (.int .i64 M) ∧ W = w') := fun W => by
    rw [HM.out]
    exact ones_any N W h
  rw [← HM.out] at hm
  have d0 : decide ((N : Int) < 0) = false := by rw [decide_eq_false_iff_not]; omega
  have d1 : decide (100000 < (N : Int)) = false := by rw [decide_eq_false_iff_not]; omega
  have hM : M ≤ 100000 := by rw [HM.out]; have := many_le N; omega
  subst hm
  have e1 : (!((len : Int) == (len : Int))) = false := by simp
  go_enter Tryd.func19, Tryd.ntmps19
  go_wp2
  refine wp_region_held_drew (S := (fun W => Two W w.heap.size (.int .i64 N) (.slice a len cap))) (by kernel_rfl) (show Two (w.alloc (.cells #[.int .i64 N, .slice a len cap] 28)) w.heap.size (.int .i64 N) (.slice a len cap) from two_new w _ _ _) (fun hHeld => ?_)
  refine wpAnyH_take (i := 0) (oi := { dst := some 3, op := Op.fieldAddr 28 (Operand.tmp 1) 0, type := 0, pos := "front.go:47", after := #[], guard := none }) (v := .pointer (some ⟨w.heap.size, 0, none⟩)) rfl (by kernel_rfl) (by kernel_rfl) (by kernel_rfl) (fun _ _ _ h => h) (Or.inl ⟨by rfl, by intro w hSw; go_simp⟩) hHeld ?_
  try simp only [Act.put, List.setIfInBounds_toArray, List.set_cons_zero, List.set_cons_succ]
  refine wpAnyH_take (i := 1) (oi := { dst := some 4, op := Op.load 3 (Operand.tmp 3), type := 3, pos := "front.go:47", after := #[{ on := 0, ground := Ground.data }], guard := none }) (v := .int .i64 N) rfl (by kernel_rfl) (by kernel_rfl) (by kernel_rfl) (fun _ _ _ h => h) (Or.inl ⟨by rfl, by intro W hSw; have h1 := hSw.1; go_simp⟩) hHeld ?_
  try simp only [Act.put, List.setIfInBounds_toArray, List.set_cons_zero, List.set_cons_succ]
  refine wpAnyH_take (i := 2) (oi := { dst := some 5, op := Op.binOp BinOp.lss 3 (Operand.tmp 4) (Operand.const (Value.int IntKind.i64 0)) 3, type := 4, pos := "front.go:47", after := #[{ on := 1, ground := Ground.data }], guard := none }) (v := .bool false) rfl (by kernel_rfl) (by kernel_rfl) (by kernel_rfl) (fun _ _ _ h => h) (Or.inl ⟨by rfl, by intro w hSw; go_simp⟩) hHeld ?_
  try simp only [Act.put, List.setIfInBounds_toArray, List.set_cons_zero, List.set_cons_succ]
  refine wpAnyH_take (i := 3) (oi := { dst := some 6, op := Op.move (Operand.tmp 5), type := 4, pos := "front.go:47", after := #[{ on := 2, ground := Ground.data }], guard := none }) (v := .bool false) rfl (by kernel_rfl) (by kernel_rfl) (by kernel_rfl) (fun _ _ _ h => h) (Or.inl ⟨by rfl, by intro w hSw; go_simp⟩) hHeld ?_
  try simp only [Act.put, List.setIfInBounds_toArray, List.set_cons_zero, List.set_cons_succ]
  refine wpAnyH_take (i := 4) (oi := { dst := some 7, op := Op.fieldAddr 28 (Operand.tmp 1) 0, type := 0, pos := "front.go:47", after := #[{ on := 3, ground := Ground.guard }], guard := some (3, false) }) (v := .pointer (some ⟨w.heap.size, 0, none⟩)) rfl (by kernel_rfl) (by kernel_rfl) (by kernel_rfl) (fun _ _ _ h => h) (Or.inl ⟨by rfl, by intro w hSw; go_simp⟩) hHeld ?_
  try simp only [Act.put, List.setIfInBounds_toArray, List.set_cons_zero, List.set_cons_succ]
  refine wpAnyH_take (i := 5) (oi := { dst := some 8, op := Op.load 3 (Operand.tmp 7), type := 3, pos := "front.go:47", after := #[{ on := 4, ground := Ground.data }, { on := 3, ground := Ground.guard }], guard := some (3, false) }) (v := .int .i64 N) rfl (by kernel_rfl) (by kernel_rfl) (by kernel_rfl) (fun _ _ _ h => h) (Or.inl ⟨by rfl, by intro W hSw; have h1 := hSw.1; go_simp⟩) hHeld ?_
  try simp only [Act.put, List.setIfInBounds_toArray, List.set_cons_zero, List.set_cons_succ]
  refine wpAnyH_take (i := 6) (oi := { dst := some 9, op := Op.binOp BinOp.gtr 3 (Operand.tmp 8) (Operand.const (Value.int IntKind.i64 100000)) 3, type := 4, pos := "front.go:47", after := #[{ on := 5, ground := Ground.data }, { on := 3, ground := Ground.guard }], guard := some (3, false) }) (v := .bool false) rfl (by kernel_rfl) (by kernel_rfl) (by kernel_rfl) (fun _ _ _ h => h) (Or.inl ⟨by rfl, by intro w hSw; go_simp⟩) hHeld ?_
  try simp only [Act.put, List.setIfInBounds_toArray, List.set_cons_zero, List.set_cons_succ]
  refine wpAnyH_take (i := 7) (oi := { dst := some 10, op := Op.pick (Operand.tmp 6) (Operand.const (Value.bool true)) (Operand.tmp 9), type := 4, pos := "front.go:47", after := #[{ on := 3, ground := Ground.data }, { on := 6, ground := Ground.data }], guard := none }) (v := .bool false) rfl (by kernel_rfl) (by kernel_rfl) (by kernel_rfl) (fun _ _ _ h => h) (Or.inl ⟨by rfl, by intro w hSw; go_simp⟩) hHeld ?_
  try simp only [Act.put, List.setIfInBounds_toArray, List.set_cons_zero, List.set_cons_succ]
  refine wpAnyH_take (i := 8) (oi := { dst := some 11, op := Op.move (Operand.tmp 10), type := 4, pos := "front.go:47", after := #[{ on := 7, ground := Ground.data }, { on := 3, ground := Ground.chain }], guard := none }) (v := .bool false) rfl (by kernel_rfl) (by kernel_rfl) (by kernel_rfl) (fun _ _ _ h => h) (Or.inl ⟨by rfl, by intro w hSw; go_simp⟩) hHeld ?_
  try simp only [Act.put, List.setIfInBounds_toArray, List.set_cons_zero, List.set_cons_succ]
  refine wpAnyH_take (i := 9) (oi := { dst := some 12, op := Op.fieldAddr 28 (Operand.tmp 1) 1, type := 0, pos := "front.go:47", after := #[{ on := 8, ground := Ground.guard }], guard := some (8, false) }) (v := .pointer (some ⟨w.heap.size, 1, none⟩)) rfl (by kernel_rfl) (by kernel_rfl) (by kernel_rfl) (fun _ _ _ h => h) (Or.inl ⟨by rfl, by intro w hSw; go_simp⟩) hHeld ?_
  try simp only [Act.put, List.setIfInBounds_toArray, List.set_cons_zero, List.set_cons_succ]
  refine wpAnyH_take (i := 10) (oi := { dst := some 13, op := Op.load 26 (Operand.tmp 12), type := 26, pos := "front.go:47", after := #[{ on := 9, ground := Ground.data }, { on := 8, ground := Ground.guard }], guard := some (8, false) }) (v := .slice a len cap) rfl (by kernel_rfl) (by kernel_rfl) (by kernel_rfl) (fun _ _ _ h => h) (Or.inl ⟨by rfl, by intro W hSw; have h1 := hSw.2; go_simp⟩) hHeld ?_
  try simp only [Act.put, List.setIfInBounds_toArray, List.set_cons_zero, List.set_cons_succ]
  refine wpAnyH_take (i := 11) (oi := { dst := some 14, op := Op.call { callee := Callee.builtin Builtin.len, args := #[Operand.tmp 13], argTypes := #[26] }, type := 3, pos := "front.go:47", after := #[{ on := 10, ground := Ground.data }, { on := 8, ground := Ground.guard }], guard := some (8, false) }) (v := .int .i64 len) rfl (by kernel_rfl) (by kernel_rfl) (by kernel_rfl) (fun _ _ _ h => h) (Or.inl ⟨by rfl, by intro w hSw; go_simp⟩) hHeld ?_
  try simp only [Act.put, List.setIfInBounds_toArray, List.set_cons_zero, List.set_cons_succ]
  refine wpAnyH_take (i := 12) (oi := { dst := some 15, op := Op.fieldAddr 28 (Operand.tmp 1) 0, type := 0, pos := "front.go:47", after := #[{ on := 8, ground := Ground.guard }], guard := some (8, false) }) (v := .pointer (some ⟨w.heap.size, 0, none⟩)) rfl (by kernel_rfl) (by kernel_rfl) (by kernel_rfl) (fun _ _ _ h => h) (Or.inl ⟨by rfl, by intro w hSw; go_simp⟩) hHeld ?_
  try simp only [Act.put, List.setIfInBounds_toArray, List.set_cons_zero, List.set_cons_succ]
  refine wpAnyH_take (i := 13) (oi := { dst := some 16, op := Op.load 3 (Operand.tmp 15), type := 3, pos := "front.go:47", after := #[{ on := 12, ground := Ground.data }, { on := 8, ground := Ground.guard }], guard := some (8, false) }) (v := .int .i64 N) rfl (by kernel_rfl) (by kernel_rfl) (by kernel_rfl) (fun _ _ _ h => h) (Or.inl ⟨by rfl, by intro W hSw; have h1 := hSw.1; go_simp⟩) hHeld ?_
  try simp only [Act.put, List.setIfInBounds_toArray, List.set_cons_zero, List.set_cons_succ]
  refine wpAnyH_take (i := 14) (oi := { dst := some 17, op := Op.convert 3 103 (Operand.tmp 16), type := 103, pos := "front.go:47", after := #[{ on := 13, ground := Ground.data }, { on := 8, ground := Ground.guard }], guard := some (8, false) }) (v := .int .u64 N) rfl (by kernel_rfl) (by kernel_rfl) (by kernel_rfl) (fun _ _ _ h => h) (Or.inl ⟨by rfl, by intro W hSw; go_simp; rw [IntKind.wrap_u64]; omega⟩) hHeld ?_
  try simp only [Act.put, List.setIfInBounds_toArray, List.set_cons_zero, List.set_cons_succ]
  refine wpAnyH_ready (rs := [15]) (by kernel_rfl) (by simp) ?_
  refine AllReadyH.cons (o := { dst := some 18, op := Op.call { callee := Callee.value (Operand.func 53), args := #[Operand.tmp 17], argTypes := #[103] }, type := 3, pos := "front.go:47", after := #[{ on := 14, ground := Ground.data }, { on := 8, ground := Ground.chain }, { on := 8, ground := Ground.guard }], guard := some (8, false) }) rfl (fun K hK => ?_) AllReadyH.nil
  go_simp
  refine (MC.out _).mono ?_
  rintro e w15 ⟨rfl, rfl⟩
  go_wp2_with fail
  refine hK.out _ _ hHeld (fun hHeld => ?_)
  clear hK K
  try simp only [Act.put, List.setIfInBounds_toArray, List.set_cons_zero, List.set_cons_succ]
  refine wpAnyH_take (i := 16) (oi := { dst := some 19, op := Op.binOp BinOp.neq 3 (Operand.tmp 14) (Operand.tmp 18) 3, type := 4, pos := "front.go:47", after := #[{ on := 11, ground := Ground.data }, { on := 15, ground := Ground.data }, { on := 8, ground := Ground.guard }], guard := some (8, false) }) (v := .bool false) rfl (by kernel_rfl) (by kernel_rfl) (by kernel_rfl) (fun _ _ _ h => h) (Or.inl ⟨by rfl, by intro w hSw; go_simp⟩) hHeld ?_
  try simp only [Act.put, List.setIfInBounds_toArray, List.set_cons_zero, List.set_cons_succ]
  refine wpAnyH_take (i := 17) (oi := { dst := some 20, op := Op.pick (Operand.tmp 11) (Operand.const (Value.bool true)) (Operand.tmp 19), type := 4, pos := "front.go:47", after := #[{ on := 8, ground := Ground.data }, { on := 16, ground := Ground.data }], guard := none }) (v := .bool false) rfl (by kernel_rfl) (by kernel_rfl) (by kernel_rfl) (fun _ _ _ h => h) (Or.inl ⟨by rfl, by intro w hSw; go_simp⟩) hHeld ?_
  try simp only [Act.put, List.setIfInBounds_toArray, List.set_cons_zero, List.set_cons_succ]
  refine wpAnyH_done (by kernel_rfl) ?_ _
  go_wp2
  go_ret
  exact ⟨rfl, ((Below.refl _ _).alloc (Nat.le_refl _) _).drew⟩
set_option maxHeartbeats 1000000 in
theorem check_other (N : Nat) (a : Option Addr) (len cap : Nat) (w : World) (h : N ≤ 100000) (hl : len ≤ maxLen) (hm : len ≠ many N) :
    Calls Tryd.prog 19 #[.agg #[.int .i64 N, .slice a len cap]] w fun e w' => e = .returned (.int .i64 30) ∧ Below w.heap.size w w' := by
  obtain ⟨M, HM⟩ : ∃ M, Hid (M = many N) := ⟨_, (rfl : many N = _)⟩
  have MC : Hid (∀ W, Calls Tryd.prog 53 #[.int .u64 N] W fun e w' => e = .returned (.int .i64 M) ∧ W = w') := fun W => by
    rw [HM.out]
    exact ones_any N W h
  rw [← HM.out] at hm
  have d0 : decide ((N : Int) < 0) = false := by rw [decide_eq_false_iff_not]; omega
  have d1 : decide (100000 < (N : Int)) = false := by rw [decide_eq_false_iff_not]; omega
  have hM : M ≤ 100000 := by rw [HM.out]; have := many_le N; omega
  have hlx : len ≤ 9223372036854775807 := by unfold maxLen at hl; omega
  clear hl
  have e1 : (!((len : Int) == (M : Int))) = true := by
    rw [Bool.not_eq_true', beq_eq_false_iff_ne]; omega
  go_enter Tryd.func19, Tryd.ntmps19
  go_wp2
  refine wp_region_held_drew (S := (fun W => Two W w.heap.size (.int .i64 N) (.slice a len cap))) (by kernel_rfl) (show Two (w.alloc (.cells #[.int .i64 N, .slice a len cap] 28)) w.heap.size (.int .i64 N) (.slice a len cap) from two_new w _ _ _) (fun hHeld => ?_)
  refine wpAnyH_take (i := 0) (oi := { dst := some 3, op := Op.fieldAddr 28 (Operand.tmp 1) 0, type := 0, pos := "front.go:47", after := #[], guard := none }) (v := .pointer (some ⟨w.heap.size, 0, none⟩)) rfl (by kernel_rfl) (by kernel_rfl) (by kernel_rfl) (fun _ _ _ h => h) (Or.inl ⟨by rfl, by intro w hSw; go_simp⟩) hHeld ?_
  try simp only [Act.put, List.setIfInBounds_toArray, List.set_cons_zero, List.set_cons_succ]
  refine wpAnyH_take (i := 1) (oi := { dst := some 4, op := Op.load 3 (Operand.tmp 3), type := 3, pos := "front.go:47", after := #[{ on := 0, ground := Ground.data }], guard := none }) (v := .int .i64 N) rfl (by kernel_rfl) (by kernel_rfl) (by kernel_rfl) (fun _ _ _ h => h) (Or.inl ⟨by rfl, by intro W hSw; have h1 := hSw.1; go_simp⟩) hHeld ?_
  try simp only [Act.put, List.setIfInBounds_toArray, List.set_cons_zero, List.set_cons_succ]
  refine wpAnyH_take (i := 2) (oi := { dst := some 5, op := Op.binOp BinOp.lss 3 (Operand.tmp 4) (Operand.const (Value.int IntKind.i64 0)) 3, type := 4, pos := "front.go:47", after := #[{ on := 1, ground := Ground.data }], guard := none }) (v := .bool false) rfl (by kernel_rfl) (by kernel_rfl) (by kernel_rfl) (fun _ _ _ h => h) (Or.inl ⟨by rfl, by intro w hSw; go_simp⟩) hHeld ?_
  try simp only [Act.put, List.setIfInBounds_toArray, List.set_cons_zero, List.set_cons_succ]
  refine wpAnyH_take (i := 3) (oi := { dst := some 6, op := Op.move (Operand.tmp 5), type := 4, pos := "front.go:47", after := #[{ on := 2, ground := Ground.data }], guard := none }) (v := .bool false) rfl (by kernel_rfl) (by kernel_rfl) (by kernel_rfl) (fun _ _ _ h => h) (Or.inl ⟨by rfl, by intro w hSw; go_simp⟩) hHeld ?_
  try simp only [Act.put, List.setIfInBounds_toArray, List.set_cons_zero, List.set_cons_succ]
  refine wpAnyH_take (i := 4) (oi := { dst := some 7, op := Op.fieldAddr 28 (Operand.tmp 1) 0, type := 0, pos := "front.go:47", after := #[{ on := 3, ground := Ground.guard }], guard := some (3, false) }) (v := .pointer (some ⟨w.heap.size, 0, none⟩)) rfl (by kernel_rfl) (by kernel_rfl) (by kernel_rfl) (fun _ _ _ h => h) (Or.inl ⟨by rfl, by intro w hSw; go_simp⟩) hHeld ?_
  try simp only [Act.put, List.setIfInBounds_toArray, List.set_cons_zero, List.set_cons_succ]
  refine wpAnyH_take (i := 5) (oi := { dst := some 8, op := Op.load 3 (Operand.tmp 7), type := 3, pos := "front.go:47", after := #[{ on := 4, ground := Ground.data }, { on := 3, ground := Ground.guard }], guard := some (3, false) }) (v := .int .i64 N) rfl (by kernel_rfl) (by kernel_rfl) (by kernel_rfl) (fun _ _ _ h => h) (Or.inl ⟨by rfl, by intro W hSw; have h1 := hSw.1; go_simp⟩) hHeld ?_
  try simp only [Act.put, List.setIfInBounds_toArray, List.set_cons_zero, List.set_cons_succ]
  refine wpAnyH_take (i := 6) (oi := { dst := some 9, op := Op.binOp BinOp.gtr 3 (Operand.tmp 8) (Operand.const (Value.int IntKind.i64 100000)) 3, type := 4, pos := "front.go:47", after := #[{ on := 5, ground := Ground.data }, { on := 3, ground := Ground.guard }], guard := some (3, false) }) (v := .bool false) rfl (by kernel_rfl) (by kernel_rfl) (by kernel_rfl) (fun _ _ _ h => h) (Or.inl ⟨by rfl, by intro w hSw; go_simp⟩) hHeld ?_
  try simp only [Act.put, List.setIfInBounds_toArray, List.set_cons_zero, List.set_cons_succ]
  refine wpAnyH_take (i := 7) (oi := { dst := some 10, op := Op.pick (Operand.tmp 6) (Operand.const (Value.bool true)) (Operand.tmp 9), type := 4, pos := "front.go:47", after := #[{ on := 3, ground := Ground.data }, { on := 6, ground := Ground.data }], guard := none }) (v := .bool false) rfl (by kernel_rfl) (by kernel_rfl) (by kernel_rfl) (fun _ _ _ h => h) (Or.inl ⟨by rfl, by intro w hSw; go_simp⟩) hHeld ?_
  try simp only [Act.put, List.setIfInBounds_toArray, List.set_cons_zero, List.set_cons_succ]
  refine wpAnyH_take (i := 8) (oi := { dst := some 11, op := Op.move (Operand.tmp 10), type := 4, pos := "front.go:47", after := #[{ on := 7, ground := Ground.data }, { on := 3, ground := Ground.chain }], guard := none }) (v := .bool false) rfl (by kernel_rfl) (by kernel_rfl) (by kernel_rfl) (fun _ _ _ h => h) (Or.inl ⟨by rfl, by intro w hSw; go_simp⟩) hHeld ?_
  try simp only [Act.put, List.setIfInBounds_toArray, List.set_cons_zero, List.set_cons_succ]
  refine wpAnyH_take (i := 9) (oi := { dst := some 12, op := Op.fieldAddr 28 (Operand.tmp 1) 1, type := 0, pos := "front.go:47", after := #[{ on := 8, ground := Ground.guard }], guard := some (8, false) }) (v := .pointer (some ⟨w.heap.size, 1, none⟩)) rfl (by kernel_rfl) (by kernel_rfl) (by kernel_rfl) (fun _ _ _ h => h) (Or.inl ⟨by rfl, by intro w hSw; go_simp⟩) hHeld ?_
  try simp only [Act.put, List.setIfInBounds_toArray, List.set_cons_zero, List.set_cons_succ]
  refine wpAnyH_take (i := 10) (oi := { dst := some 13, op := Op.load 26 (Operand.tmp 12), type := 26, pos := "front.go:47", after := #[{ on := 9, ground := Ground.data }, { on := 8, ground := Ground.guard }], guard := some (8, false) }) (v := .slice a len cap) rfl (by kernel_rfl) (by kernel_rfl) (by kernel_rfl) (fun _ _ _ h => h) (Or.inl ⟨by rfl, by intro W hSw; have h1 := hSw.2; go_simp⟩) hHeld ?_
  try simp only [Act.put, List.setIfInBounds_toArray, List.set_cons_zero, List.set_cons_succ]
  refine wpAnyH_take (i := 11) (oi := { dst := some 14, op := Op.call { callee := Callee.builtin Builtin.len, args := #[Operand.tmp 13], argTypes := #[26] }, type := 3, pos := "front.go:47", after := #[{ on := 10, ground := Ground.data }, { on := 8, ground := Ground.guard }], guard := some (8, false) }) (v := .int .i64 len) rfl (by kernel_rfl) (by kernel_rfl) (by kernel_rfl) (fun _ _ _ h => h) (Or.inl ⟨by rfl, by intro w hSw; go_simp⟩) hHeld ?_
  try simp only [Act.put, List.setIfInBounds_toArray, List.set_cons_zero, List.set_cons_succ]
  refine wpAnyH_take (i := 12) (oi := { dst := some 15, op := Op.fieldAddr 28 (Operand.tmp 1) 0, type := 0, pos := "front.go:47", after := #[{ on := 8, ground := Ground.guard }], guard := some (8, false) }) (v := .pointer (some ⟨w.heap.size, 0, none⟩)) rfl (by kernel_rfl) (by kernel_rfl) (by kernel_rfl) (fun _ _ _ h => h) (Or.inl ⟨by rfl, by intro w hSw; go_simp⟩) hHeld ?_
  try simp only [Act.put, List.setIfInBounds_toArray, List.set_cons_zero, List.set_cons_succ]
  refine wpAnyH_take (i := 13) (oi := { dst := some 16, op := Op.load 3 (Operand.tmp 15), type := 3, pos := "front.go:47", after := #[{ on := 12, ground := Ground.data }, { on := 8, ground := Ground.guard }], guard := some (8, false) }) (v := .int .i64 N) rfl (by kernel_rfl) (by kernel_rfl) (by kernel_rfl) (fun _ _ _ h => h) (Or.inl ⟨by rfl, by intro W hSw; have h1 := hSw.1; go_simp⟩) hHeld ?_
  try simp only [Act.put, List.setIfInBounds_toArray, List.set_cons_zero, List.set_cons_succ]
  refine wpAnyH_take (i := 14) (oi := { dst := some 17, op := Op.convert 3 103 (Operand.tmp 16), type := 103, pos := "front.go:47", after := #[{ on := 13, ground := Ground.data }, { on := 8, ground := Ground.guard }], guard := some (8, false) }) (v := .int .u64 N) rfl (by kernel_rfl) (by kernel_rfl) (by kernel_rfl) (fun _ _ _ h => h) (Or.inl ⟨by rfl, by intro W hSw; go_simp; rw [IntKind.wrap_u64]; omega⟩) hHeld ?_
  try simp only [Act.put, List.setIfInBounds_toArray, List.set_cons_zero, List.set_cons_succ]
  refine wpAnyH_ready (rs := [15]) (by kernel_rfl) (by simp) ?_
  refine AllReadyH.cons (o := { dst := some 18, op := Op.call { callee := Callee.value (Operand.func 53), args := #[Operand.tmp 17], argTypes := #[103] }, type := 3, pos := "front.go:47", after := #[{ on := 14, ground := Ground.data }, { on := 8, ground := Ground.chain }, { on := 8, ground := Ground.guard }], guard := some (8, false) }) rfl (fun K hK => ?_) AllReadyH.nil
  go_simp
  refine (MC.out _).mono ?_
  rintro e w15 ⟨rfl, rfl⟩
  go_wp2_with fail
  refine hK.out _ _ hHeld (fun hHeld => ?_)
  clear hK K
  try simp only [Act.put, List.setIfInBounds_toArray, List.set_cons_zero, List.set_cons_succ]
  refine wpAnyH_take (i := 16) (oi := { dst := some 19, op := Op.binOp BinOp.neq 3 (Operand.tmp 14) (Operand.tmp 18) 3, type := 4, pos := "front.go:47", after := #[{ on := 11, ground := Ground.data }, { on := 15, ground := Ground.data }, { on := 8, ground := Ground.guard }], guard := some (8, false) }) (v := .bool true) rfl (by kernel_rfl) (by kernel_rfl) (by kernel_rfl) (fun _ _ _ h => h) (Or.inl ⟨by rfl, by intro W hSw; go_simp; omega⟩) hHeld ?_
  try simp only [Act.put, List.setIfInBounds_toArray, List.set_cons_zero, List.set_cons_succ]
  refine wpAnyH_take (i := 17) (oi := { dst := some 20, op := Op.pick (Operand.tmp 11) (Operand.const (Value.bool true)) (Operand.tmp 19), type := 4, pos := "front.go:47", after := #[{ on := 8, ground := Ground.data }, { on := 16, ground := Ground.data }], guard := none }) (v := .bool true) rfl (by kernel_rfl) (by kernel_rfl) (by kernel_rfl) (fun _ _ _ h => h) (Or.inl ⟨by rfl, by intro w hSw; go_simp⟩) hHeld ?_
  try simp only [Act.put, List.setIfInBounds_toArray, List.set_cons_zero, List.set_cons_succ]
  refine wpAnyH_done (by kernel_rfl) ?_ _
  go_wp2
  go_ret
  exact ⟨rfl, ((Below.refl _ _).alloc (Nat.le_refl _) _).drew⟩
theorem check_ok (n : Int) (a : Option Addr) (len cap : Nat) (w : World) (h : isRight n len) : Calls Tryd.prog 19 #[.agg #[.int .i64 n, .slice a len cap]] w fun e w' => e = .returned (.int .i64 0) ∧ Below w.heap.size w w' := by
  obtain ⟨h0, h1, h2⟩ := h
  obtain ⟨N, hN⟩ : ∃ N : Nat, n = N := ⟨n.toNat, by omega⟩
  subst hN
  rw [Int.toNat_natCast] at h2
  exact check_yes N a len cap w (by omega) h2
theorem check_no (n : Int) (a : Option Addr) (len cap : Nat) (w : World) (hl : len ≤ maxLen) (h : ¬ isRight n len) : Calls Tryd.prog 19 #[.agg #[.int .i64 n, .slice a len cap]] w fun e w' => e = .returned (.int .i64 30) ∧ Below w.heap.size w w' := by
  by_cases h0 : n < 0
  · exact check_neg n a len cap w h0
  by_cases h1 : 100000 < n
  · exact check_big n a len cap w h1
  obtain ⟨N, hN⟩ : ∃ N : Nat, n = N := ⟨n.toNat, by omega⟩
  subst hN
  refine check_other N a len cap w (by omega) hl fun e => h ⟨by omega, by omega, ?_⟩
  rw [Int.toNat_natCast]
  exact e
end Go.Proofs.YtdnhnjimhbbababDoor

/- What front.Root answers. -/
namespace Go.Proofs.YtdnhnjimhbbababDoor
open Go.RowKit Sums
set_option maxRecDepth 100000
set_option linter.unusedVariables false
set_option linter.unusedSimpArgs false
theorem Two.other {W : World} {g g' : Nat} {x y : Value} {cs : Array Value} (h : Two W g x y) (hne : g ≠ g') : Two (W.setRow g' cs) g x y :=
  ⟨by rw [cell_setRow_other W g' cs _ hne]; exact h.1, by rw [cell_setRow_other W g' cs _ hne]; exact h.2⟩
theorem builtD : Tryd.prog.built 30 [] = some (cellsOf (List.replicate 32 0)).toArray := by kernel_rfl
set_option maxHeartbeats 2000000 in
theorem froot_no (n : Int) (a : Option Addr) (len cap : Nat) (w : World) (hl : len ≤ maxLen) (h : ¬ isRight n len) (Z : Array Value) (HZ : Hid (Z = (cellsOf (List.replicate 32 0)).toArray)) :
    Calls Tryd.prog 7 #[.agg #[.int .i64 n, .slice a len cap]] w fun e w' => e = .returned (.tuple #[.agg Z, .int .i64 30]) ∧ Below w.heap.size w w' := by
  obtain ⟨Z0, HZ0, HA, HS, H1, H32⟩ := noughts27
  obtain rfl : Z = Z0 := HZ.out.trans HZ0.out.symm
  have HB : Hid (Tryd.prog.built 30 [] = some Z) := by show _ = _; rw [HZ.out]; exact builtD
  have CK : Hid (∀ W, Calls Tryd.prog 19 #[.agg #[.int .i64 n, .slice a len cap]] W fun e w' => e = .returned (.int .i64 30) ∧ Below W.heap.size W w') := fun W => check_no n a len cap W hl h
  clear h hl HZ HZ0
  go_enter Tryd.func7, Tryd.ntmps7
  go_wp2_with (first
    | (refine wpList_alloc_row rfl 30 rfl Z HA.out ?_; try simp only [Act.put, List.setIfInBounds_toArray, List.set_cons_zero, List.set_cons_succ])
    | fail)
  refine (CK.out _).mono ?_
  rintro e w1 ⟨rfl, hb1⟩
  have HG : Hid (w1.heap[w.heap.size + 1]? = some (.cells Z 30 (0, 0))) := (hb1.block _ (by simp)).trans (by have := heap_alloc_new (w.alloc (.cells #[.int .i64 n, .slice a len cap] 28)) (.cells Z 30); simpa using this)
  have HBW : Hid (Below w.heap.size w w1) := (((Below.refl _ _).alloc (Nat.le_refl _) _).alloc (by simp) _).trans (hb1.mono (by simp; omega))
  clear hb1 CK
  go_wp2_with (first
    | (refine wpList_build_none rfl 30 rfl Z HB.out ?_; try simp only [Act.put, List.setIfInBounds_toArray, List.set_cons_zero, List.set_cons_succ])
    | (refine wpList_store_row rfl 30 (.tmp 2) (.tmp 12) rfl (w.heap.size + 1) Z rfl rfl 30 Z HG.out HS.out rfl H1.out ?_; try simp only [Act.put, List.setIfInBounds_toArray, List.set_cons_zero, List.set_cons_succ])
    | fail)
  refine bodyPost_ret (v := .tuple #[.agg Z, .int .i64 30]) ?_ rfl ⟨rfl, below_setRow HBW.out (by omega) _⟩
  exact results_row_tmp (p := 2) (q := 3) (ty := 30) rfl _ _ (w.heap.size + 1) 30 Z (0, 0) _ rfl (setRow_heap _ _ _ _ 30 _ HG.out) Tryd.underlying30 rfl HS.out
set_option maxHeartbeats 4000000 in
theorem froot_ok (n : Int) (a : Option Addr) (len cap : Nat) (ps : List (List UInt8)) (w : World) (h : isRight n len) (hR : LReads w a len cap ps) (hK : TabF w) (D : Array Value) (HD : Hid (D = (cellsOf (rootP ps)).toArray)) :
    Calls Tryd.prog 7 #[.agg #[.int .i64 n, .slice a len cap]] w fun e w' => e = .returned (.tuple #[.agg D, .int .i64 0]) ∧ Below w.heap.size w w' := by
  obtain ⟨Z, HZ, HA, HS, H1, H32⟩ := noughts27
  have h32 : (rootP ps).length = 32 := rootP_digs sumD_length ps hR.2.1
  have HSD : Hid ((Tryd.prog.info? 30).map (·.size) = some D.size) := by show _ = _; rw [size23, HD.out]; simp [cellsOf_length, h32]
  have H1D : Hid (D.all (·.oneCell') = true) := by show _ = _; rw [HD.out]; exact cellsOf_all _
  have HZD : Hid (Z.size = D.size) := by show _ = _; rw [H32.out, HD.out]; simp [cellsOf_length, h32]
  have hlen := hR.1
  have hmx : len ≤ 9223372036854775807 := by have := hR.2.2.2.1; unfold maxLen at this; omega
  have CK : Hid (∀ W, Calls Tryd.prog 19 #[.agg #[.int .i64 n, .slice a len cap]] W fun e w' => e = .returned (.int .i64 0) ∧ Below W.heap.size W w') := fun W => check_ok n a len cap W h
  clear h
  by_cases h0 : len = 0
  · have KE : Hid (∀ W, Below w.heap.size w W → Calls Tryd.prog 17 #[] W fun e w' => e = .returned (.agg D) ∧ Below W.heap.size W w') := fun W hb => empty_any W (hK.keep hb).1 D (by
      show _ = _
      rw [HD.out, show ps = [] from List.eq_nil_of_length_eq_zero (by omega)]
      rfl)
    subst h0
    clear hK hR HD
    go_enter Tryd.func7, Tryd.ntmps7
    go_wp2_with (first
      | (refine wpList_alloc_row rfl 30 rfl Z HA.out ?_; try simp only [Act.put, List.setIfInBounds_toArray, List.set_cons_zero, List.set_cons_succ])
      | fail)
    refine (CK.out _).mono ?_
    rintro e w1 ⟨rfl, hb1⟩
    have HG : Hid (w1.heap[w.heap.size + 1]? = some (.cells Z 30 (0, 0))) := (hb1.block _ (by simp)).trans (by have := heap_alloc_new (w.alloc (.cells #[.int .i64 n, .slice a 0 cap] 28)) (.cells Z 30); simpa using this)
    have HT : Hid (Two w1 w.heap.size (.int .i64 n) (.slice a 0 cap)) := ((two_new w _ _ 28).keep ((Below.refl _ _).alloc (Nat.le_refl _) _)).keep hb1
    have HBW : Hid (Below w.heap.size w w1) := (((Below.refl _ _).alloc (Nat.le_refl _) _).alloc (by simp) _).trans (hb1.mono (by simp; omega))
    clear hb1 CK
    have hc1 := HT.out.2
    go_wp2_with fail
    refine (KE.out _ HBW.out).mono ?_
    rintro e w2 ⟨rfl, hb2⟩
    have HG2 : Hid (w2.heap[w.heap.size + 1]? = some (.cells Z 30 (0, 0))) := (hb2.block _ (heap_lt HG.out)).trans HG.out
    have HB2 : Hid (Below w.heap.size w w2) := HBW.out.trans (hb2.mono HBW.out.size)
    clear hb2 KE hc1
    go_wp2_with (first
      | (refine wpList_store_row rfl 30 (.tmp 2) (.tmp 18) rfl (w.heap.size + 1) D rfl rfl 30 Z HG2.out HSD.out HZD.out H1D.out ?_; try simp only [Act.put, List.setIfInBounds_toArray, List.set_cons_zero, List.set_cons_succ])
      | fail)
    refine bodyPost_ret (v := .tuple #[.agg D, .int .i64 0]) ?_ rfl ⟨rfl, below_setRow HB2.out (by omega) _⟩
    exact results_row_tmp (p := 2) (q := 3) (ty := 30) rfl _ _ (w.heap.size + 1) 30 D (0, 0) _ rfl (setRow_heap _ _ _ _ 30 _ HG2.out) Tryd.underlying30 rfl HSD.out
  · obtain ⟨g, o, rfl, hg⟩ := hR.at (by omega)
    obtain ⟨m, rfl⟩ : ∃ m, len = m + 1 := ⟨len - 1, by omega⟩
    have HR : Hid (LReads w (some ⟨g, o, none⟩) (m + 1) cap ps) := hR
    have HT : Hid (∀ W, Below w.heap.size w W → TabF W) := fun W hb => hK.keep hb
    have row : ∀ t, t ≤ m → ∃ B : Array Value, Hid (B = (cellsOf (rootP (ps.drop t))).toArray) ∧ Hid ((Tryd.prog.info? 30).map (·.size) = some B.size) ∧ Hid (B.all (·.oneCell') = true) ∧ Hid (B.size = 32) := fun t _ => dig_row' _ (rootP_digs sumD_length _ (hR.2.1.drop t))
    obtain ⟨B0, HB0, HSB0, H1B0, H32B0⟩ := row m (Nat.le_refl _)
    obtain ⟨L0, hL0⟩ : ∃ L0 : List Value, B0 = L0.toArray := ⟨B0.toList, by simp⟩
    have EL0 : Hid (L0 = cellsOf (ps[m]'(by omega))) := by
      have := HB0.out
      rw [rootP_last ps m (by omega), hL0] at this
      exact List.toArray_inj this
    have hm32 : (ps[m]'(by omega)).length = 32 := hR.2.1 _ (List.getElem_mem _)
    have z0 : Hid ((Tryd.prog.info? 30).map (·.size) = some L0.length) := by show _ = _; rw [size23, EL0.out, cellsOf_length, hm32]
    have HRG : Hid (∀ W, Below w.heap.size w W → W.rangeAt g (o + 32 * m) L0) := fun W hb => by
      rw [EL0.out]
      exact range_keep hb (hR.range m (by omega))
    have HZB0 : Hid (Z.size = L0.toArray.size) := by show _ = _; rw [← hL0, H32.out, H32B0.out]
    rw [hL0] at HSB0 H1B0 HB0
    have ix := fun W => index_list W g o (m + 1) cap m .i64 (by omega)
    have e1 := wrap_int ((m : Int) + 1 - 1) (by omega) (by omega)
    have e2 := wrap_int ((m : Int) - 1) (by omega) (by omega)
    have c7 : ((m : Int) + 1 == 0) = false := by rw [beq_eq_false_iff_ne]; omega
    clear hK hR hL0 H32B0 hm32 EL0
    go_enter Tryd.func7, Tryd.ntmps7
    go_wp2_with (first
      | (refine wpList_alloc_row rfl 30 rfl Z HA.out ?_; try simp only [Act.put, List.setIfInBounds_toArray, List.set_cons_zero, List.set_cons_succ])
      | fail)
    refine (CK.out _).mono ?_
    rintro e w1 ⟨rfl, hb1⟩
    have HG : Hid (w1.heap[w.heap.size + 1]? = some (.cells Z 30 (0, 0))) := (hb1.block _ (by simp)).trans (by have := heap_alloc_new (w.alloc (.cells #[.int .i64 n, .slice (some ⟨g, o, none⟩) (m + 1) cap] 28)) (.cells Z 30); simpa using this)
    have HTw : Hid (Two w1 w.heap.size (.int .i64 n) (.slice (some ⟨g, o, none⟩) (m + 1) cap)) := ((two_new w _ _ 28).keep ((Below.refl _ _).alloc (Nat.le_refl _) _)).keep hb1
    have HBW : Hid (Below w.heap.size w w1) := (((Below.refl _ _).alloc (Nat.le_refl _) _).alloc (by simp) _).trans (hb1.mono (by simp; omega))
    clear hb1 CK
    have hc1 := HTw.out.2
    have hr1 := hidk (HRG.out w1 HBW.out)
    go_wp2_with (first
      | (refine wpList_load_mid rfl 30 (.tmp 26) rfl g (o + 32 * m) rfl L0 _ hr1.out Tryd.underlying30 rfl z0.out ?_; try simp only [Act.put, List.setIfInBounds_toArray, List.set_cons_zero, List.set_cons_succ])
      | (refine wpList_new_row rfl rfl 30 rfl (.tmp 6) (.tmp 27) rfl Z L0.toArray HA.out (fun _ => rfl) (fun _ => rfl) HSB0.out HZB0.out H1B0.out ?_; intro gd w2 F1; try simp only [Act.put, List.setIfInBounds_toArray, List.set_cons_zero, List.set_cons_succ])
      | fail)
    have HG1 : Hid (w2.heap[gd]? = some (.cells (cellsOf (rootP (ps.drop m))).toArray 30 (0, 0)) ∧ w2.heap[w.heap.size + 1]? = some (.cells Z 30 (0, 0)) ∧ Two w2 w.heap.size (.int .i64 n) (.slice (some ⟨g, o, none⟩) (m + 1) cap) ∧ Below w.heap.size w w2) :=
      ⟨by rw [← HB0.out]; exact F1.out.2.1, (F1.out.2.2.block _ (heap_lt HG.out)).trans HG.out, HTw.out.keep F1.out.2.2, HBW.out.trans (F1.out.2.2.mono HBW.out.size)⟩
    have HGD : Hid (w.heap.size + 1 < gd) := by show _ < _; rw [F1.out.1]; exact heap_lt HG.out
    clear F1 HRG z0 HB0 hr1 hc1 HG HTw HBW
    go_loopw [7] (fun v wr => ∃ t : Nat, t ≤ m ∧ v = .int .i64 ((t : Int) - 1) ∧ Hid (wr.heap[gd]? = some (.cells (cellsOf (rootP (ps.drop t))).toArray 30 (0, 0)) ∧ wr.heap[w.heap.size + 1]? = some (.cells Z 30 (0, 0)) ∧ Two wr w.heap.size (.int .i64 n) (.slice (some ⟨g, o, none⟩) (m + 1) cap) ∧ Below w.heap.size w wr)) (fun v _ => (intOf v + 1).toNat)
    case atStart => exact ⟨m, Nat.le_refl _, by go_num, HG1⟩
    case round =>
      clear HG1
      obtain ⟨t, ht, rfl, HW⟩ := hrel
      cases t with
      | zero =>
        have HDs : Hid (wr.heap[gd]? = some (.cells D 30 (0, 0))) := by show _ = _; rw [HD.out]; exact HW.out.1
        go_wp2_with (first
          | (refine wpList_load_row rfl 30 (.tmp 6) rfl gd rfl 30 D (0, 0) _ HDs.out Tryd.underlying30 rfl HSD.out ?_; try simp only [Act.put, List.setIfInBounds_toArray, List.set_cons_zero, List.set_cons_succ])
          | (refine wpList_store_row rfl 30 (.tmp 2) (.tmp 41) rfl (w.heap.size + 1) D rfl rfl 30 Z HW.out.2.1 HSD.out HZD.out H1D.out ?_; try simp only [Act.put, List.setIfInBounds_toArray, List.set_cons_zero, List.set_cons_succ])
          | fail)
        refine bodyPost_ret (v := .tuple #[.agg D, .int .i64 0]) ?_ rfl ⟨rfl, below_setRow HW.out.2.2.2 (by omega) _⟩
        exact results_row_tmp (p := 2) (q := 3) (ty := 30) rfl _ _ (w.heap.size + 1) 30 D (0, 0) _ rfl (setRow_heap _ _ _ _ 30 _ HW.out.2.1) Tryd.underlying30 rfl HSD.out
      | succ t =>
        have htl : t < ps.length := by omega
        obtain ⟨P, HP⟩ : ∃ P, Hid (P = cellsOf ps[t]) := ⟨_, (rfl : cellsOf ps[t] = _)⟩
        have hp32 : ps[t].length = 32 := HR.out.2.1 _ (List.getElem_mem htl)
        have zP : (Tryd.prog.info? 30).map (·.size) = some P.length := by rw [size23, HP.out, cellsOf_length, hp32]
        obtain ⟨B, HB, HSB, H1B, H32B⟩ := row (t + 1) ht
        obtain ⟨C, HC, HSC, H1C, H32C⟩ := row t (by omega)
        have HBC : Hid (B.size = C.size) := by show _ = _; rw [H32B.out, H32C.out]
        have HGB : Hid (wr.heap[gd]? = some (.cells B 30 (0, 0))) := by show _ = _; rw [HB.out]; exact HW.out.1
        have hS : Two wr w.heap.size (.int .i64 n) (.slice (some ⟨g, o, none⟩) (m + 1) cap) ∧ wr.rangeAt g (o + 32 * t) P := ⟨HW.out.2.2.1, by rw [HP.out]; exact (HR.out.keep HW.out.2.2.2).range t htl⟩
        have KN : Hid (∀ W, Below w.heap.size w W → Calls Tryd.prog 22 #[.agg P.toArray, .agg B] W fun e w' => e = .returned (.agg C) ∧ Below W.heap.size W w') := fun W hb => by
          rw [HP.out, HB.out]
          exact knot_any _ _ hp32 (rootP_digs sumD_length _ (HR.out.2.1.drop (t + 1))) W (HT.out W hb).1 C (by show _ = _; rw [HC.out, rootP_drop ps t (by omega)]; rfl)
        have hgl : g ≠ gd := by have := HGD.out; omega
        have hwl : w.heap.size ≠ gd := by have := HGD.out; omega
        have ix2 := fun W => index_list W g o (m + 1) cap t .i64 (by omega)
        have e4 := wrap_int ((t : Int) - 1) (by omega) (by omega)
        rw [show (((t + 1 : Nat) : Int) - 1) = (t : Int) by omega]
        clear HP HB
        go_wp2
        refine wp_region_held_drew (S := (fun W => Two W w.heap.size (.int .i64 n) (.slice (some ⟨g, o, none⟩) (m + 1) cap) ∧ W.rangeAt g (o + 32 * t) P)) (by kernel_rfl) hS (fun hHeld => ?_)
        refine wpAnyH_take (i := 0) (oi := { dst := some 34, op := Op.fieldAddr 28 (Operand.tmp 1) 1, type := 0, pos := "front.go:77", after := #[], guard := none }) (v := .pointer (some ⟨w.heap.size, 1, none⟩)) rfl (by kernel_rfl) (by kernel_rfl) (by kernel_rfl) (fun _ _ _ h => h) (Or.inl ⟨by rfl, by intro w hSw; go_simp⟩) hHeld ?_
        try simp only [Act.put, List.setIfInBounds_toArray, List.set_cons_zero, List.set_cons_succ]
        refine wpAnyH_take (i := 1) (oi := { dst := some 35, op := Op.load 26 (Operand.tmp 34), type := 26, pos := "front.go:77", after := #[{ on := 0, ground := Ground.data }], guard := none }) (v := .slice (some ⟨g, o, none⟩) (m + 1) cap) rfl (by kernel_rfl) (by kernel_rfl) (by kernel_rfl) (fun _ _ _ h => h) (Or.inl ⟨by rfl, by intro W hSw; have h1 := hSw.1.2; go_simp⟩) hHeld ?_
        try simp only [Act.put, List.setIfInBounds_toArray, List.set_cons_zero, List.set_cons_succ]
        refine wpAnyH_take (i := 2) (oi := { dst := some 36, op := Op.move (Operand.tmp 7), type := 3, pos := "front.go:77", after := #[], guard := none }) (v := .int .i64 t) rfl (by kernel_rfl) (by kernel_rfl) (by kernel_rfl) (fun _ _ _ h => h) (Or.inl ⟨by rfl, by intro w hSw; go_simp⟩) hHeld ?_
        try simp only [Act.put, List.setIfInBounds_toArray, List.set_cons_zero, List.set_cons_succ]
        refine wpAnyH_take (i := 3) (oi := { dst := some 37, op := Op.indexAddr 26 (Operand.tmp 35) (Operand.tmp 36), type := 0, pos := "front.go:77", after := #[{ on := 1, ground := Ground.data }, { on := 2, ground := Ground.data }], guard := none }) (v := .pointer (some ⟨g, o + 32 * t, none⟩)) rfl (by kernel_rfl) (by kernel_rfl) (by kernel_rfl) (fun _ _ _ h => h) (Or.inl ⟨by rfl, by intro W hSw; have := ix2 W; go_simp⟩) hHeld ?_
        try simp only [Act.put, List.setIfInBounds_toArray, List.set_cons_zero, List.set_cons_succ]
        refine wpAnyH_take (i := 4) (oi := { dst := some 38, op := Op.load 30 (Operand.tmp 37), type := 30, pos := "front.go:77", after := #[{ on := 3, ground := Ground.data }], guard := none }) (v := .agg P.toArray) rfl (by kernel_rfl) (by kernel_rfl) (by kernel_rfl) (fun _ _ _ h => h) (yieldsIf_load_mid (by rfl) 30 (.tmp 37) rfl _ _ rfl P _ (fun _ h => h.2) Tryd.underlying30 rfl zP) hHeld ?_
        try simp only [Act.put, List.setIfInBounds_toArray, List.set_cons_zero, List.set_cons_succ]
        refine wpAnyH_ready (rs := [5]) (by kernel_rfl) (by simp) ?_
        refine AllReadyH.cons (o := { dst := some 39, op := Op.load 30 (Operand.tmp 6), type := 30, pos := "front.go:77", after := #[], guard := none }) rfl (fun K hK => ?_) AllReadyH.nil
        refine step_load_row (by rfl) 30 (.tmp 6) rfl gd rfl 30 B (0, 0) _ HGB.out Tryd.underlying30 rfl HSB.out ?_
        refine hK.out _ _ hHeld (fun hHeld => ?_)
        clear hK K
        try simp only [Act.put, List.setIfInBounds_toArray, List.set_cons_zero, List.set_cons_succ]
        refine wpAnyH_ready (rs := [6]) (by kernel_rfl) (by simp) ?_
        refine AllReadyH.cons (o := { dst := some 40, op := Op.call { callee := Callee.value (Operand.func 22), args := #[Operand.tmp 38, Operand.tmp 39], argTypes := #[30, 30] }, type := 30, pos := "front.go:77", after := #[{ on := 4, ground := Ground.data }, { on := 5, ground := Ground.data }], guard := none }) rfl (fun K hK => ?_) AllReadyH.nil
        go_simp
        refine (KN.out _ HW.out.2.2.2.drew).mono ?_
        rintro e w5 ⟨rfl, hb5⟩
        have HG5 : Hid (w5.heap[gd]? = some (.cells B 30 (0, 0))) := (hb5.block _ (heap_lt HGB.out)).trans HGB.out
        go_wp2_with fail
        refine hK.out _ _ ⟨hHeld.1.keep hb5, range_keep hb5 hHeld.2⟩ (fun hHeld => ?_)
        clear hK K
        try simp only [Act.put, List.setIfInBounds_toArray, List.set_cons_zero, List.set_cons_succ]
        refine wpAnyH_ready (rs := [7]) (by kernel_rfl) (by simp) ?_
        refine AllReadyH.cons (o := { dst := none, op := Op.store 30 (Operand.tmp 6) (Operand.tmp 40), type := 0, pos := "front.go:77", after := #[{ on := 6, ground := Ground.data }, { on := 6, ground := Ground.chain }, { on := 0, ground := Ground.phase }, { on := 1, ground := Ground.phase }, { on := 2, ground := Ground.phase }, { on := 3, ground := Ground.phase }, { on := 4, ground := Ground.phase }, { on := 5, ground := Ground.phase }, { on := 6, ground := Ground.phase }], guard := none }) rfl (fun K hK => ?_) AllReadyH.nil
        refine step_store_row (by rfl) 30 (.tmp 6) (.tmp 40) rfl gd C rfl rfl 30 B HG5.out HSC.out HBC.out H1C.out ?_
        refine hK.out _ _ ⟨hHeld.1.other hwl, range_other hHeld.2 hgl⟩ (fun hHeld => ?_)
        clear hK K
        try simp only [Act.put, List.setIfInBounds_toArray, List.set_cons_zero, List.set_cons_succ]
        refine wpAnyH_done (by kernel_rfl) ?_ _
        go_wp2
        go_roundw
        case rel =>
          refine ⟨t, by omega, by go_num, ?_, ?_, ?_, ?_⟩
          · rw [← HC.out]; exact setRow_heap _ _ _ _ 30 _ HG5.out
          · rw [setRow_other _ _ _ _ (by have := HGD.out; omega), hb5.block _ (heap_lt HW.out.2.1)]; exact HW.out.2.1
          · exact hHeld.1
          · exact below_setRow (HW.out.2.2.2.drew.trans (hb5.mono HW.out.2.2.2.size)) (by have := HGD.out; omega) _
        case measure => simp [intOf]
end Go.Proofs.YtdnhnjimhbbababDoor

/- A front to which leaves come: its variable, and how two peaks give way to their knot. -/
namespace Go.Proofs.YtdnhnjimhbbababDoor
open Go.RowKit Sums
set_option maxRecDepth 100000
set_option linter.unusedVariables false
set_option linter.unusedSimpArgs false
/-- What the variable holds: a size, and peaks of the call's own. -/
structure Grow (B gp : Nat) (x v : Value) (l : List (List UInt8)) (w : World) : Prop where
  var : w.heap[gp]? = some (.cells #[x, v] 58 (0, 0))
  own : w.ownsRow B 30 32 v l.length (cellsOf l.flatten)
theorem Grow.keep {B gp : Nat} {x v : Value} {l : List (List UInt8)} {w w' : World} (h : Grow B gp x v l w) (hb : Below w.heap.size w w') : Grow B gp x v l w' :=
  ⟨(hb.block _ (heap_lt h.var)).trans h.var, own_below h.own hb⟩
theorem Grow.drew {B gp : Nat} {x v : Value} {l : List (List UInt8)} {w : World} (h : Grow B gp x v l w) : Grow B gp x v l w.drew := ⟨h.var, h.own⟩
theorem Grow.two {B gp : Nat} {x v : Value} {l : List (List UInt8)} {w : World} (h : Grow B gp x v l w) : Two w gp x v :=
  ⟨by rw [cell_of_row _ _ 0 _ 58 (0, 0) h.var]; rfl, by rw [cell_of_row _ _ 1 _ 58 (0, 0) h.var]; rfl⟩
theorem Grow.free {B gp : Nat} {x v : Value} {l : List (List UInt8)} {w : World} (h : Grow B gp x v l w) (j : Nat) : w.frozen? ⟨gp, j, none⟩ = false := frozen_of_row w gp j _ 58 h.var
theorem Grow.size {B gp : Nat} {x v : Value} {l : List (List UInt8)} {w : World} (h : Grow B gp x v l w) (x' : Value) : Grow B gp x' v l (w.setCell ⟨gp, 0, none⟩ x') :=
  ⟨by rw [heap_setCell_same w gp 0 _ 58 x' h.var]; rfl, ownsRow_setCell_other h.own (own_other h.own h.var (by decide)).symm x'⟩
theorem grow_put {B gp : Nat} {x v v' : Value} {l : List (List UInt8)} {w : World} (h1 : w.heap[gp]? = some (.cells #[x, v] 58 (0, 0))) (h2 : w.ownsRow B 30 32 v' l.length (cellsOf l.flatten)) : Grow B gp x v' l (w.setCell ⟨gp, 1, none⟩ v') :=
  ⟨by rw [heap_setCell_same w gp 1 _ 58 v' h1]; rfl, ownsRow_setCell_other h2 (own_other h2 h1 (by decide)).symm v'⟩
/-- One digest put behind a list that grows: the literal's block is made, the append runs. -/
theorem Grow.append {B gp : Nat} {x v : Value} {l : List (List UInt8)} {w : World} (h : Grow B gp x v l w) (hB : B ≤ w.heap.size) (hlen : l.length + 1 ≤ 1000000) (d : List UInt8) (hd : d.length = 32) (D : Array Value) (HD : Hid (D = (cellsOf d).toArray)) :
    ∃ v' w', (Builtin.append_ #[26, 26] 26 #[v, .slice (some ⟨w.heap.size, 0, none⟩) 1 1]).run Tryd.prog (w.alloc (.cells D 30)) = .ok v' w' ∧
      w'.heap[gp]? = some (.cells #[x, v] 58 (0, 0)) ∧ w'.ownsRow B 30 32 v' (l ++ [d]).length (cellsOf (l ++ [d]).flatten) ∧ Below B w w' := by
  have hb0 : Below w.heap.size w (w.alloc (.cells D 30)) := (Below.refl _ _).alloc (Nat.le_refl _) _
  have h' := h.keep hb0
  obtain ⟨v', w', hr, ho, hg⟩ := run_append_digs (w.alloc (.cells D 30)) B v l [d] h'.own ⟨w.heap.size, 0, none⟩ 1 1 rfl (.one hd) (by
    intro j u hj
    rw [add_plain, Nat.zero_add, cell_of_row _ _ j _ 30 (0, 0) (heap_alloc_new w _), HD.out]
    simpa using hj) (Nat.le_trans hB (by simp)) hlen
  refine ⟨v', w', hr, ?_, by rw [List.length_append]; exact ho, ?_⟩
  · exact (hg.block _ (heap_lt h'.var) (own_other h'.own h'.var (by decide))).trans h'.var
  · exact (hb0.mono hB).grown hg (Nat.le_trans hB (by simp)) (fun k hk => (h'.own.lt k hk).1)
/-! A digest written into the midst of a list. -/
theorem cells_set (g : Nat) (t : TypeId) : ∀ (vs : List Value) (o : Nat) (w : World) (cur : Array Value), w.heap[g]? = some (.cells cur t (0, 0)) → o + vs.length ≤ cur.size →
    ∃ cur', (w.setCells g o vs).heap[g]? = some (.cells cur' t (0, 0)) ∧ cur'.toList = cur.toList.take o ++ vs ++ cur.toList.drop (o + vs.length)
  | [], o, w, cur, h, _ => ⟨cur, h, by simp⟩
  | v :: r, o, w, cur, h, hs => by
    simp only [List.length_cons] at hs
    obtain ⟨cur', h1, h2⟩ := cells_set g t r (o + 1) (w.setCell ⟨g, o, none⟩ v) (cur.setIfInBounds o v) (heap_setCell_same w g o cur t v h) (by simp; omega)
    refine ⟨cur', h1, ?_⟩
    have ho : o < cur.toList.length := by simp; omega
    rw [h2, Array.toList_setIfInBounds, List.take_set, List.drop_set_of_lt (by omega)]
    rw [List.take_add_one, List.getElem?_eq_getElem ho]
    simp only [Option.toList_some, List.length_cons]
    rw [List.set_append_right _ _ (by simp; omega)]
    have e : o - (cur.toList.take o).length = 0 := by simp; omega
    rw [e, List.set_cons_zero, show o + 1 + r.length = o + (r.length + 1) by omega]
    simp
theorem flat_set {l : List (List UInt8)} (h : Digs32 l) (i : Nat) (hi : i < l.length) (c : List UInt8) : (l.set i c).flatten = l.flatten.take (32 * i) ++ c ++ l.flatten.drop (32 * i + 32) := by
  rw [← flat_take h, show 32 * i + 32 = 32 * (i + 1) by omega, ← flat_drop h, List.set_eq_take_append_cons_drop, if_pos hi]
  simp
theorem own_put {w : World} {B g n cap : Nat} {l : List (List UInt8)} (h : w.ownsRow B 30 32 (.slice (some ⟨g, 0, none⟩) n cap) l.length (cellsOf l.flatten)) (hd : Digs32 l) (i : Nat) (hi : i < l.length) (c : List UInt8) (hc32 : c.length = 32) :
    (w.setCells g (32 * i) (cellsOf c)).ownsRow B 30 32 (.slice (some ⟨g, 0, none⟩) n cap) (l.set i c).length (cellsOf (l.set i c).flatten) := by
  have hds : Digs32 (l.set i c) := fun x hx => by
    rcases List.mem_or_eq_of_mem_set hx with h | rfl
    · exact hd x h
    · exact hc32
  rcases h.2 with ⟨hv, _⟩ | ⟨g', cp, cur, hv, hb, hg, hc, hm, hs, ht⟩
  · cases hv
  · cases hv
    have hl : (cellsOf c).length = 32 := by rw [cellsOf_length, hc32]
    obtain ⟨cur', h1, h2⟩ := cells_set g 30 (cellsOf c) (32 * i) w cur hg (by rw [hl, hs]; omega)
    rw [hl] at h2
    have hcl : cur.toList.length = cap * 32 := by rw [Array.length_toList]; exact hs
    refine ⟨by rw [cellsOf_length, flat_length hds]; omega, .inr ⟨g, cap, cur', by rw [List.length_set], hb, h1, by rw [List.length_set]; exact hc, hm, ?_, ?_⟩⟩
    · rw [← Array.length_toList, h2]
      simp only [List.length_append, List.length_take, List.length_drop, hl]
      omega
    · rw [h2, List.length_set, flat_set hd i hi c]
      have e : cellsOf (l.flatten.take (32 * i) ++ c ++ l.flatten.drop (32 * i + 32)) = (cellsOf l.flatten).take (32 * i) ++ cellsOf c ++ (cellsOf l.flatten).drop (32 * i + 32) := by
        rw [cellsOf_append, cellsOf_append]; unfold cellsOf; rw [List.map_take, List.map_drop]
      rw [e, ← ht, List.take_append, List.take_append, List.take_take, List.take_take, List.take_of_length_le (l := cellsOf c)]
      · congr 1
        · congr 2
          omega
        · rw [List.drop_take, List.length_append, List.length_take, hl]
          congr 1
          omega
      · rw [List.length_take, hl]; omega
theorem step_load_mid {P : Program} {ops : Array Oper} {op : Oper} {a : Act} {w : World} {K : Act → World → Prop} {Q : Exit → Act → World → Prop} {E : Prop} (hw : Region.wanted op (yielded ops a.tmps) = true) (ty : TypeId) (x : Operand) (ho : op.op = .load ty x)
    (b o : Nat) (hx : a.eval x = .pointer (some ⟨b, o, none⟩)) (cs : List Value) (d : TypeDesc) (hc : w.rangeAt b o cs) (hu : P.underlying ty = some d) (hd : d.isRow = true) (hi : (P.info? ty).map (·.size) = some cs.length)
    (h : K (a.put op.dst (.agg cs.toArray)) w) : if Region.wanted op (yielded ops a.tmps) = true then Oper.wp P op a w K Q else E := by
  rw [if_pos hw]
  exact wp_load_mid ty x ho b o hx cs d hc hu hd hi h
theorem step_store_mid {P : Program} {ops : Array Oper} {op : Oper} {a : Act} {w : World} {K : Act → World → Prop} {Q : Exit → Act → World → Prop} {E : Prop} (hw : Region.wanted op (yielded ops a.tmps) = true) (ty : TypeId) (x y : Operand) (ho : op.op = .store ty x y)
    (b o : Nat) (cells : Array Value) (hx : a.eval x = .pointer (some ⟨b, o, none⟩)) (hy : a.eval y = .agg cells) (ht : w.there b o cells.size) (hi : (P.info? ty).map (·.size) = some cells.size) (h1 : cells.all (·.oneCell') = true)
    (h : K (a.put op.dst undef) (w.setCells b o cells.toList)) : if Region.wanted op (yielded ops a.tmps) = true then Oper.wp P op a w K Q else E := by
  rw [if_pos hw]
  exact wp_store_mid ty x y ho b o cells hx hy ht hi h1 h
theorem own_there {w : World} {B g n cap : Nat} {l : List (List UInt8)} (h : w.ownsRow B 30 32 (.slice (some ⟨g, 0, none⟩) n cap) l.length (cellsOf l.flatten)) (i : Nat) (hi : i < l.length) : w.there g (32 * i) 32 := by
  rcases h.2 with ⟨hv, _⟩ | ⟨g', cp, cur, hv, hb, hg, hc, hm, hs, ht⟩
  · cases hv
  · cases hv
    intro j hj
    have hjc : 32 * i + j < cur.size := by rw [hs]; omega
    refine ⟨?_, ?_⟩
    · rw [cell_of_row w g _ cur 30 (0, 0) hg, Array.getElem?_eq_getElem hjc]
      rfl
    · simp [World.frozen?, hg]
theorem below_cells4 {B b : Nat} {a : World} (hb : B ≤ b) : ∀ (vs : List Value) (o : Nat) (w : World), Below B a w → Below B a (w.setCells b o vs)
  | [], _, _, h => h
  | v :: r, o, w, h => by
    rw [World.setCells]
    exact below_cells4 hb r (o + 1) _ (h.setCell (by simpa using hb) _)
theorem cells_other {g k : Nat} (hne : k ≠ g) : ∀ (vs : List Value) (o : Nat) (w : World), (w.setCells g o vs).heap[k]? = w.heap[k]?
  | [], _, _ => rfl
  | v :: r, o, w => by
    rw [World.setCells, cells_other hne r (o + 1) _, heap_setCell_other w ⟨g, o, none⟩ k v hne]
end Go.Proofs.YtdnhnjimhbbababDoor

/- How the last two peaks of a front give way to their knot. -/
namespace Go.Proofs.YtdnhnjimhbbababDoor
open Go.RowKit Sums
set_option maxRecDepth 100000
set_option linter.unusedVariables false
set_option linter.unusedSimpArgs false
set_option maxHeartbeats 4000000 in
theorem join_any (B gp : Nat) (x v : Value) (r : List (List UInt8)) (p q : List UInt8) (w : World) (hG : Grow B gp x v (r ++ [p, q]) w) (hd : Digs32 (r ++ [p, q])) (hlen : r.length ≤ 100000) (hB : B ≤ gp) (hK : Table 0 w) :
    Calls Tryd.prog 55 #[.pointer (some ⟨gp, 0, none⟩)] w fun e w' => e = .returned (.tuple #[]) ∧ (∃ v', Grow B gp x v' (r ++ [knotD p q]) w') ∧ Below B w w' := by
  obtain ⟨s, HSr⟩ : ∃ s, Hid (s = r.length) := ⟨_, (rfl : r.length = _)⟩
  have hll : (r ++ [p, q]).length = s + 2 := by rw [HSr.out]; simp
  obtain ⟨g, cap, hv⟩ := own_form hG.own (by omega)
  rw [hll] at hv
  subst hv
  have hs1 : s ≤ 100000 := by rw [HSr.out]; exact hlen
  obtain ⟨y, cy, hvy, hy, hyB⟩ := LReads.own hG.own hd
  rw [hll] at hvy hy
  cases hvy
  have hgB : B ≤ g := hyB g 0 rfl
  have hgp : gp ≠ g := fun e => own_other hG.own hG.var (by decide) (by rw [e]; rfl)
  have e0 : (r ++ [p, q])[s]'(by omega) = p := by simp [HSr.out]
  have e1 : (r ++ [p, q])[s + 1]'(by omega) = q := by simp [HSr.out]
  have hp32 : p.length = 32 := hd p (by simp)
  have hq32 : q.length = 32 := hd q (by simp)
  obtain ⟨LP, HLP⟩ : ∃ L, Hid (L = cellsOf p) := ⟨_, (rfl : cellsOf p = _)⟩
  obtain ⟨LQ, HLQ⟩ : ∃ L, Hid (L = cellsOf q) := ⟨_, (rfl : cellsOf q = _)⟩
  have zP : (Tryd.prog.info? 30).map (·.size) = some LP.length := by rw [size23, HLP.out, cellsOf_length, hp32]
  have zQ : (Tryd.prog.info? 30).map (·.size) = some LQ.length := by rw [size23, HLQ.out, cellsOf_length, hq32]
  have HRP : Hid (w.rangeAt g (32 * s) LP) := by
    have := hy.range s (by omega)
    rw [e0, Nat.zero_add] at this
    rw [HLP.out]; exact this
  have hRQ : w.rangeAt g (32 * (s + 1)) LQ := by
    have := hy.range (s + 1) (by omega)
    rw [e1, Nat.zero_add] at this
    rw [HLQ.out]; exact this
  obtain ⟨KD, HKD, HSK, H1K, H32K⟩ := dig_row' (knotD p q) (sumD_length _)
  have KN : Hid (∀ W, Below w.heap.size w W → Calls Tryd.prog 22 #[.agg LP.toArray, .agg LQ.toArray] W fun e w' => e = .returned (.agg KD) ∧ Below W.heap.size W w') := fun W hb => by
    rw [HLP.out, HLQ.out]
    exact knot_any p q hp32 hq32 W (hK.keep hb) KD (by show _ = _; rw [HKD.out]; rfl)
  have HG := hidk hG
  have FN : Hid (∀ W, Below w.heap.size w W → W.there g (32 * s) KD.size ∧ (W.setCells g (32 * s) KD.toList).heap[gp]? = some (.cells #[x, .slice (some ⟨g, 0, none⟩) (s + 2) cap] 58 (0, 0)) ∧
      Grow B gp x (.slice (some ⟨g, 0, none⟩) (s + 1) cap) (r ++ [knotD p q]) ((W.setCells g (32 * s) KD.toList).setCell ⟨gp, 1, none⟩ (.slice (some ⟨g, 0, none⟩) (s + 1) cap)) ∧ Below B w ((W.setCells g (32 * s) KD.toList).setCell ⟨gp, 1, none⟩ (.slice (some ⟨g, 0, none⟩) (s + 1) cap))) := fun W hb => by
    have h := HG.out.keep hb
    have hth := own_there h.own s (by omega)
    have hput := own_put h.own hd s (by omega) (knotD p q) (sumD_length _)
    have hset : (r ++ [p, q]).set s (knotD p q) = r ++ [knotD p q, q] := by
      rw [List.set_append_right _ _ (by rw [← HSr.out]; exact Nat.le_refl _), ← HSr.out, Nat.sub_self]
      rfl
    rw [hset] at hput
    have hds : Digs32 (r ++ [knotD p q, q]) := fun z hz => by
      rcases List.mem_append.1 hz with hz | hz
      · exact hd z (List.mem_append_left _ hz)
      · simp only [List.mem_cons, List.not_mem_nil, or_false] at hz
        rcases hz with rfl | rfl
        · exact sumD_length _
        · exact hq32
    have hcut := own_cut hput hds (s + 1) (by simp [HSr.out])
    have htk : (r ++ [knotD p q, q]).take (s + 1) = r ++ [knotD p q] := by
      rw [show r ++ [knotD p q, q] = (r ++ [knotD p q]) ++ [q] by simp]
      exact List.take_left' (by simp [HSr.out])
    rw [htk] at hcut
    have hke : KD.toList = cellsOf (knotD p q) := by rw [HKD.out]
    have hvar : (W.setCells g (32 * s) KD.toList).heap[gp]? = some (.cells #[x, .slice (some ⟨g, 0, none⟩) (s + 2) cap] 58 (0, 0)) := (cells_other hgp _ _ _).trans h.var
    refine ⟨by rw [H32K.out]; exact hth, hvar, ?_, ?_⟩
    · rw [hke] at hvar ⊢
      exact grow_put hvar hcut
    · exact (below_cells4 hgB _ _ _ ((hb.mono (Nat.le_of_lt (Nat.lt_of_le_of_lt hB (heap_lt HG.out.var)))))).setCell (by simpa using hB) _
  have hc1 : w.cell? ⟨gp, 1, none⟩ = some (.slice (some ⟨g, 0, none⟩) (s + 2) cap) := hG.two.2
  have hcap : s + 2 ≤ cap := hy.2.2.1
  have ix1 := fun W => index_list W g 0 (s + 2) cap s .i64 (by omega)
  simp only [Nat.zero_add] at ix1
  have ix2 : ∀ W, (Instr.indexAt 26 (.slice (some ⟨g, 0, none⟩) (s + 2) cap) (.int .i64 ((s : Int) + 1))).run Tryd.prog W = .ok (.pointer (some ⟨g, 32 * (s + 1), none⟩)) W := fun W => by
    have := index_list W g 0 (s + 2) cap (s + 1) .i64 (by omega)
    rw [Nat.zero_add, show ((s + 1 : Nat) : Int) = (s : Int) + 1 by omega] at this
    exact this
  have slc : ∀ W, (Instr.sliceAt 26 (.slice (some ⟨g, 0, none⟩) (s + 2) cap) none (some (.int .i64 ((s : Int) + 1))) none).run Tryd.prog W = .ok (.slice (some ⟨g, 0, none⟩) (s + 1) cap) W := fun W => by
    have := slice_left W g 0 (s + 2) cap (s + 1) (by omega)
    rw [show ((s + 1 : Nat) : Int) = (s : Int) + 1 by omega] at this
    exact this
  have w1 : IntKind.i64.wrap ((s : Int) + 2 - 1) = (s : Int) + 1 := by rw [wrap_int _ (by omega) (by omega)]; omega
  clear hG hd hlen hK hy hyB e0 e1 HLP HLQ HKD hll HSr
  go_enter Tryd.func55, Tryd.ntmps55
  go_wp2
  refine wp_region_held_drew (S := (fun W => W.cell? ⟨gp, 1, none⟩ = some (.slice (some ⟨g, 0, none⟩) (s + 2) cap) ∧ W.rangeAt g (32 * (s + 1)) LQ)) (by kernel_rfl) (show _ ∧ _ from ⟨hc1, hRQ⟩) (fun hHeld => ?_)
  refine wpAnyH_take (i := 0) (oi := { dst := some 10, op := Op.move (Operand.tmp 0), type := 104, pos := "front.go:41", after := #[], guard := none }) (v := .pointer (some ⟨gp, 0, none⟩)) rfl (by kernel_rfl) (by kernel_rfl) (by kernel_rfl) (fun _ _ _ h => h) (Or.inl ⟨by rfl, by intro w hSw; go_simp⟩) hHeld ?_
  try simp only [Act.put, List.setIfInBounds_toArray, List.set_cons_zero, List.set_cons_succ]
  refine wpAnyH_take (i := 1) (oi := { dst := some 11, op := Op.nilCheck (Operand.tmp 10), type := 0, pos := "front.go:41", after := #[{ on := 0, ground := Ground.data }], guard := none }) (v := .pointer (some ⟨gp, 0, none⟩)) rfl (by kernel_rfl) (by kernel_rfl) (by kernel_rfl) (fun _ _ _ h => h) (Or.inl ⟨by rfl, by intro w hSw; go_simp⟩) hHeld ?_
  try simp only [Act.put, List.setIfInBounds_toArray, List.set_cons_zero, List.set_cons_succ]
  refine wpAnyH_take (i := 2) (oi := { dst := some 12, op := Op.fieldAddr 58 (Operand.tmp 11) 0, type := 0, pos := "front.go:41", after := #[{ on := 1, ground := Ground.data }], guard := none }) (v := .pointer (some ⟨gp, 0, none⟩)) rfl (by kernel_rfl) (by kernel_rfl) (by kernel_rfl) (fun _ _ _ h => h) (Or.inl ⟨by rfl, by intro w hSw; go_simp⟩) hHeld ?_
  try simp only [Act.put, List.setIfInBounds_toArray, List.set_cons_zero, List.set_cons_succ]
  refine wpAnyH_take (i := 3) (oi := { dst := some 13, op := Op.fieldAddr 28 (Operand.tmp 12) 1, type := 0, pos := "front.go:41", after := #[{ on := 2, ground := Ground.data }], guard := none }) (v := .pointer (some ⟨gp, 1, none⟩)) rfl (by kernel_rfl) (by kernel_rfl) (by kernel_rfl) (fun _ _ _ h => h) (Or.inl ⟨by rfl, by intro w hSw; go_simp⟩) hHeld ?_
  try simp only [Act.put, List.setIfInBounds_toArray, List.set_cons_zero, List.set_cons_succ]
  refine wpAnyH_take (i := 4) (oi := { dst := some 14, op := Op.load 26 (Operand.tmp 13), type := 26, pos := "front.go:41", after := #[{ on := 3, ground := Ground.data }], guard := none }) (v := .slice (some ⟨g, 0, none⟩) (s + 2) cap) rfl (by kernel_rfl) (by kernel_rfl) (by kernel_rfl) (fun _ _ _ h => h) (Or.inl ⟨by rfl, by intro W hSw; have h1 := hSw.1; go_simp⟩) hHeld ?_
  try simp only [Act.put, List.setIfInBounds_toArray, List.set_cons_zero, List.set_cons_succ]
  refine wpAnyH_take (i := 5) (oi := { dst := some 15, op := Op.move (Operand.tmp 2), type := 3, pos := "front.go:41", after := #[], guard := none }) (v := .int .i64 ((s : Int) + 1)) rfl (by kernel_rfl) (by kernel_rfl) (by kernel_rfl) (fun _ _ _ h => h) (Or.inl ⟨by rfl, by intro w hSw; go_simp⟩) hHeld ?_
  try simp only [Act.put, List.setIfInBounds_toArray, List.set_cons_zero, List.set_cons_succ]
  refine wpAnyH_take (i := 6) (oi := { dst := some 16, op := Op.binOp BinOp.sub 3 (Operand.tmp 15) (Operand.const (Value.int IntKind.i64 1)) 3, type := 3, pos := "front.go:41", after := #[{ on := 5, ground := Ground.data }], guard := none }) (v := .int .i64 s) rfl (by kernel_rfl) (by kernel_rfl) (by kernel_rfl) (fun _ _ _ h => h) (Or.inl ⟨by rfl, by intro W hSw; go_simp; exact wrap_int _ (by omega) (by omega)⟩) hHeld ?_
  try simp only [Act.put, List.setIfInBounds_toArray, List.set_cons_zero, List.set_cons_succ]
  refine wpAnyH_take (i := 7) (oi := { dst := some 17, op := Op.move (Operand.tmp 0), type := 104, pos := "front.go:41", after := #[], guard := none }) (v := .pointer (some ⟨gp, 0, none⟩)) rfl (by kernel_rfl) (by kernel_rfl) (by kernel_rfl) (fun _ _ _ h => h) (Or.inl ⟨by rfl, by intro w hSw; go_simp⟩) hHeld ?_
  try simp only [Act.put, List.setIfInBounds_toArray, List.set_cons_zero, List.set_cons_succ]
  refine wpAnyH_take (i := 8) (oi := { dst := some 18, op := Op.nilCheck (Operand.tmp 17), type := 0, pos := "front.go:41", after := #[{ on := 7, ground := Ground.data }], guard := none }) (v := .pointer (some ⟨gp, 0, none⟩)) rfl (by kernel_rfl) (by kernel_rfl) (by kernel_rfl) (fun _ _ _ h => h) (Or.inl ⟨by rfl, by intro w hSw; go_simp⟩) hHeld ?_
  try simp only [Act.put, List.setIfInBounds_toArray, List.set_cons_zero, List.set_cons_succ]
  refine wpAnyH_take (i := 9) (oi := { dst := some 19, op := Op.fieldAddr 58 (Operand.tmp 18) 0, type := 0, pos := "front.go:41", after := #[{ on := 8, ground := Ground.data }], guard := none }) (v := .pointer (some ⟨gp, 0, none⟩)) rfl (by kernel_rfl) (by kernel_rfl) (by kernel_rfl) (fun _ _ _ h => h) (Or.inl ⟨by rfl, by intro w hSw; go_simp⟩) hHeld ?_
  try simp only [Act.put, List.setIfInBounds_toArray, List.set_cons_zero, List.set_cons_succ]
  refine wpAnyH_take (i := 10) (oi := { dst := some 20, op := Op.fieldAddr 28 (Operand.tmp 19) 1, type := 0, pos := "front.go:41", after := #[{ on := 9, ground := Ground.data }], guard := none }) (v := .pointer (some ⟨gp, 1, none⟩)) rfl (by kernel_rfl) (by kernel_rfl) (by kernel_rfl) (fun _ _ _ h => h) (Or.inl ⟨by rfl, by intro w hSw; go_simp⟩) hHeld ?_
  try simp only [Act.put, List.setIfInBounds_toArray, List.set_cons_zero, List.set_cons_succ]
  refine wpAnyH_take (i := 11) (oi := { dst := some 21, op := Op.load 26 (Operand.tmp 20), type := 26, pos := "front.go:41", after := #[{ on := 10, ground := Ground.data }], guard := none }) (v := .slice (some ⟨g, 0, none⟩) (s + 2) cap) rfl (by kernel_rfl) (by kernel_rfl) (by kernel_rfl) (fun _ _ _ h => h) (Or.inl ⟨by rfl, by intro W hSw; have h1 := hSw.1; go_simp⟩) hHeld ?_
  try simp only [Act.put, List.setIfInBounds_toArray, List.set_cons_zero, List.set_cons_succ]
  refine wpAnyH_take (i := 12) (oi := { dst := some 22, op := Op.move (Operand.tmp 2), type := 3, pos := "front.go:41", after := #[], guard := none }) (v := .int .i64 ((s : Int) + 1)) rfl (by kernel_rfl) (by kernel_rfl) (by kernel_rfl) (fun _ _ _ h => h) (Or.inl ⟨by rfl, by intro w hSw; go_simp⟩) hHeld ?_
  try simp only [Act.put, List.setIfInBounds_toArray, List.set_cons_zero, List.set_cons_succ]
  refine wpAnyH_take (i := 13) (oi := { dst := some 23, op := Op.binOp BinOp.sub 3 (Operand.tmp 22) (Operand.const (Value.int IntKind.i64 1)) 3, type := 3, pos := "front.go:41", after := #[{ on := 12, ground := Ground.data }], guard := none }) (v := .int .i64 s) rfl (by kernel_rfl) (by kernel_rfl) (by kernel_rfl) (fun _ _ _ h => h) (Or.inl ⟨by rfl, by intro W hSw; go_simp; exact wrap_int _ (by omega) (by omega)⟩) hHeld ?_
  try simp only [Act.put, List.setIfInBounds_toArray, List.set_cons_zero, List.set_cons_succ]
  refine wpAnyH_take (i := 14) (oi := { dst := some 24, op := Op.indexAddr 26 (Operand.tmp 21) (Operand.tmp 23), type := 0, pos := "front.go:41", after := #[{ on := 11, ground := Ground.data }, { on := 13, ground := Ground.data }], guard := none }) (v := .pointer (some ⟨g, 32 * s, none⟩)) rfl (by kernel_rfl) (by kernel_rfl) (by kernel_rfl) (fun _ _ _ h => h) (Or.inl ⟨by rfl, by intro W hSw; have := ix1 W; go_simp⟩) hHeld ?_
  try simp only [Act.put, List.setIfInBounds_toArray, List.set_cons_zero, List.set_cons_succ]
  refine wpAnyH_take (i := 16) (oi := { dst := some 26, op := Op.move (Operand.tmp 0), type := 104, pos := "front.go:41", after := #[], guard := none }) (v := .pointer (some ⟨gp, 0, none⟩)) rfl (by kernel_rfl) (by kernel_rfl) (by kernel_rfl) (fun _ _ _ h => h) (Or.inl ⟨by rfl, by intro w hSw; go_simp⟩) hHeld ?_
  try simp only [Act.put, List.setIfInBounds_toArray, List.set_cons_zero, List.set_cons_succ]
  refine wpAnyH_take (i := 17) (oi := { dst := some 27, op := Op.nilCheck (Operand.tmp 26), type := 0, pos := "front.go:41", after := #[{ on := 16, ground := Ground.data }], guard := none }) (v := .pointer (some ⟨gp, 0, none⟩)) rfl (by kernel_rfl) (by kernel_rfl) (by kernel_rfl) (fun _ _ _ h => h) (Or.inl ⟨by rfl, by intro w hSw; go_simp⟩) hHeld ?_
  try simp only [Act.put, List.setIfInBounds_toArray, List.set_cons_zero, List.set_cons_succ]
  refine wpAnyH_take (i := 18) (oi := { dst := some 28, op := Op.fieldAddr 58 (Operand.tmp 27) 0, type := 0, pos := "front.go:41", after := #[{ on := 17, ground := Ground.data }], guard := none }) (v := .pointer (some ⟨gp, 0, none⟩)) rfl (by kernel_rfl) (by kernel_rfl) (by kernel_rfl) (fun _ _ _ h => h) (Or.inl ⟨by rfl, by intro w hSw; go_simp⟩) hHeld ?_
  try simp only [Act.put, List.setIfInBounds_toArray, List.set_cons_zero, List.set_cons_succ]
  refine wpAnyH_take (i := 19) (oi := { dst := some 29, op := Op.fieldAddr 28 (Operand.tmp 28) 1, type := 0, pos := "front.go:41", after := #[{ on := 18, ground := Ground.data }], guard := none }) (v := .pointer (some ⟨gp, 1, none⟩)) rfl (by kernel_rfl) (by kernel_rfl) (by kernel_rfl) (fun _ _ _ h => h) (Or.inl ⟨by rfl, by intro w hSw; go_simp⟩) hHeld ?_
  try simp only [Act.put, List.setIfInBounds_toArray, List.set_cons_zero, List.set_cons_succ]
  refine wpAnyH_take (i := 20) (oi := { dst := some 30, op := Op.load 26 (Operand.tmp 29), type := 26, pos := "front.go:41", after := #[{ on := 19, ground := Ground.data }], guard := none }) (v := .slice (some ⟨g, 0, none⟩) (s + 2) cap) rfl (by kernel_rfl) (by kernel_rfl) (by kernel_rfl) (fun _ _ _ h => h) (Or.inl ⟨by rfl, by intro W hSw; have h1 := hSw.1; go_simp⟩) hHeld ?_
  try simp only [Act.put, List.setIfInBounds_toArray, List.set_cons_zero, List.set_cons_succ]
  refine wpAnyH_take (i := 21) (oi := { dst := some 31, op := Op.move (Operand.tmp 2), type := 3, pos := "front.go:41", after := #[], guard := none }) (v := .int .i64 ((s : Int) + 1)) rfl (by kernel_rfl) (by kernel_rfl) (by kernel_rfl) (fun _ _ _ h => h) (Or.inl ⟨by rfl, by intro w hSw; go_simp⟩) hHeld ?_
  try simp only [Act.put, List.setIfInBounds_toArray, List.set_cons_zero, List.set_cons_succ]
  refine wpAnyH_take (i := 22) (oi := { dst := some 32, op := Op.indexAddr 26 (Operand.tmp 30) (Operand.tmp 31), type := 0, pos := "front.go:41", after := #[{ on := 20, ground := Ground.data }, { on := 21, ground := Ground.data }], guard := none }) (v := .pointer (some ⟨g, 32 * (s + 1), none⟩)) rfl (by kernel_rfl) (by kernel_rfl) (by kernel_rfl) (fun _ _ _ h => h) (Or.inl ⟨by rfl, by intro W hSw; have := ix2 W; go_simp⟩) hHeld ?_
  try simp only [Act.put, List.setIfInBounds_toArray, List.set_cons_zero, List.set_cons_succ]
  refine wpAnyH_take (i := 23) (oi := { dst := some 33, op := Op.load 30 (Operand.tmp 32), type := 30, pos := "front.go:41", after := #[{ on := 22, ground := Ground.data }], guard := none }) (v := .agg LQ.toArray) rfl (by kernel_rfl) (by kernel_rfl) (by kernel_rfl) (fun _ _ _ h => h) (yieldsIf_load_mid (by rfl) 30 (.tmp 32) rfl _ _ rfl LQ _ (fun _ h => h.2) Tryd.underlying30 rfl zQ) hHeld ?_
  try simp only [Act.put, List.setIfInBounds_toArray, List.set_cons_zero, List.set_cons_succ]
  refine wpAnyH_ready (rs := [15]) (by kernel_rfl) (by simp) ?_
  refine AllReadyH.cons (o := { dst := some 25, op := Op.load 30 (Operand.tmp 24), type := 30, pos := "front.go:41", after := #[{ on := 14, ground := Ground.data }], guard := none }) rfl (fun K hK => ?_) AllReadyH.nil
  refine step_load_mid (by rfl) 30 (.tmp 24) rfl g (32 * s) rfl LP _ HRP.out Tryd.underlying30 rfl zP ?_
  refine hK.out _ _ hHeld (fun hHeld => ?_)
  clear hK K
  try simp only [Act.put, List.setIfInBounds_toArray, List.set_cons_zero, List.set_cons_succ]
  refine wpAnyH_ready (rs := [24]) (by kernel_rfl) (by simp) ?_
  refine AllReadyH.cons (o := { dst := some 34, op := Op.call { callee := Callee.value (Operand.func 22), args := #[Operand.tmp 25, Operand.tmp 33], argTypes := #[30, 30] }, type := 30, pos := "front.go:41", after := #[{ on := 15, ground := Ground.data }, { on := 23, ground := Ground.data }], guard := none }) rfl (fun K hK => ?_) AllReadyH.nil
  go_simp
  refine (KN.out _ (Below.refl _ _).drew).mono ?_
  rintro e w24 ⟨rfl, hb24⟩
  obtain ⟨f1, f2, f3, f4⟩ := FN.out w24 ((Below.refl _ _).drew.trans hb24)
  replace f1 := hidk f1
  replace f2 := hidk f2
  replace f3 := hidk f3
  replace f4 := hidk f4
  go_wp2_with fail
  refine hK.out _ _ ⟨by rw [hb24.cell (World.block_lt_of_cell? _ _ hHeld.1)]; exact hHeld.1, range_keep hb24 hHeld.2⟩ (fun hHeld => ?_)
  clear hK K
  try simp only [Act.put, List.setIfInBounds_toArray, List.set_cons_zero, List.set_cons_succ]
  refine wpAnyH_take (i := 25) (oi := { dst := some 35, op := Op.indexAddr 26 (Operand.tmp 14) (Operand.tmp 16), type := 0, pos := "front.go:41", after := #[{ on := 4, ground := Ground.data }, { on := 6, ground := Ground.data }, { on := 0, ground := Ground.phase }, { on := 1, ground := Ground.phase }, { on := 2, ground := Ground.phase }, { on := 3, ground := Ground.phase }, { on := 4, ground := Ground.phase }, { on := 5, ground := Ground.phase }, { on := 6, ground := Ground.phase }, { on := 7, ground := Ground.phase }, { on := 8, ground := Ground.phase }, { on := 9, ground := Ground.phase }, { on := 10, ground := Ground.phase }, { on := 11, ground := Ground.phase }, { on := 12, ground := Ground.phase }, { on := 13, ground := Ground.phase }, { on := 14, ground := Ground.phase }, { on := 15, ground := Ground.phase }, { on := 16, ground := Ground.phase }, { on := 17, ground := Ground.phase }, { on := 18, ground := Ground.phase }, { on := 19, ground := Ground.phase }, { on := 20, ground := Ground.phase }, { on := 21, ground := Ground.phase }, { on := 22, ground := Ground.phase }, { on := 23, ground := Ground.phase }, { on := 24, ground := Ground.phase }], guard := none }) (v := .pointer (some ⟨g, 32 * s, none⟩)) rfl (by kernel_rfl) (by kernel_rfl) (by kernel_rfl) (fun _ _ _ h => h) (Or.inl ⟨by rfl, by intro W hSw; have := ix1 W; go_simp⟩) hHeld ?_
  try simp only [Act.put, List.setIfInBounds_toArray, List.set_cons_zero, List.set_cons_succ]
  refine wpAnyH_ready (rs := [26]) (by kernel_rfl) (by simp) ?_
  refine AllReadyH.cons (o := { dst := none, op := Op.store 30 (Operand.tmp 35) (Operand.tmp 34), type := 0, pos := "front.go:41", after := #[{ on := 25, ground := Ground.data }, { on := 24, ground := Ground.data }, { on := 24, ground := Ground.chain }, { on := 0, ground := Ground.phase }, { on := 1, ground := Ground.phase }, { on := 2, ground := Ground.phase }, { on := 3, ground := Ground.phase }, { on := 4, ground := Ground.phase }, { on := 5, ground := Ground.phase }, { on := 6, ground := Ground.phase }, { on := 7, ground := Ground.phase }, { on := 8, ground := Ground.phase }, { on := 9, ground := Ground.phase }, { on := 10, ground := Ground.phase }, { on := 11, ground := Ground.phase }, { on := 12, ground := Ground.phase }, { on := 13, ground := Ground.phase }, { on := 14, ground := Ground.phase }, { on := 15, ground := Ground.phase }, { on := 16, ground := Ground.phase }, { on := 17, ground := Ground.phase }, { on := 18, ground := Ground.phase }, { on := 19, ground := Ground.phase }, { on := 20, ground := Ground.phase }, { on := 21, ground := Ground.phase }, { on := 22, ground := Ground.phase }, { on := 23, ground := Ground.phase }, { on := 24, ground := Ground.phase }], guard := none }) rfl (fun K hK => ?_) AllReadyH.nil
  refine step_store_mid (by rfl) 30 (.tmp 35) (.tmp 34) rfl g (32 * s) KD rfl rfl f1.out HSK.out H1K.out ?_
  refine hK.out _ _ ⟨by rw [cell_of_row _ _ 1 _ 58 (0, 0) f2.out]; rfl, World.rangeAt_setCells_apart hHeld.2 _ _ _ (.inr (.inr (by rw [Array.length_toList, H32K.out]; omega)))⟩ (fun hHeld => ?_)
  clear hK K
  try simp only [Act.put, List.setIfInBounds_toArray, List.set_cons_zero, List.set_cons_succ]
  refine wpAnyH_done (by kernel_rfl) ?_ _
  have hc2 := hHeld.1
  have hf2 := frozen_of_row _ gp 1 _ 58 f2.out
  clear hHeld hc1 hRQ FN KN
  go_wp2
  first | go_end0 | (refine bodyPost_ret (results_none rfl _ _ _) rfl ?_)
  exact ⟨rfl, ⟨_, f3.out⟩, f4.out⟩
end Go.Proofs.YtdnhnjimhbbababDoor

/- A leaf comes to a front. -/
namespace Go.Proofs.YtdnhnjimhbbababDoor
open Go.RowKit Sums
set_option maxRecDepth 100000
set_option linter.unusedVariables false
set_option linter.unusedSimpArgs false
theorem tz_many (n : Nat) : tz (n + 1) ≤ many n := by
  induction n using Nat.strongRecOn with
  | _ n ih =>
    by_cases h : n % 2 = 0
    · rw [tz_odd (n + 1) (by omega)]; exact Nat.zero_le _
    · rw [tz_even (n + 1) (by omega) (by omega), show (n + 1) / 2 = n / 2 + 1 by omega, many_step n]
      have := ih (n / 2) (by omega)
      omega
theorem grow_append {B gp : Nat} {x v : Value} {l : List (List UInt8)} {w : World} (h : Grow B gp x v l w) (hB : B ≤ w.heap.size) (hlen : l.length + 1 ≤ 1000000) (d : List UInt8) (hd : d.length = 32) (D : Array Value) (HD : Hid (D = (cellsOf d).toArray)) :
    ∃ gn cn w', (Builtin.append_ #[26, 26] 26 #[v, .slice (some ⟨w.heap.size, 0, none⟩) 1 1]).run Tryd.prog (w.alloc (.cells D 30)) = .ok (.slice (some ⟨gn, 0, none⟩) (l.length + 1) cn) w' ∧
      w'.heap[gp]? = some (.cells #[x, v] 58 (0, 0)) ∧ w'.ownsRow B 30 32 (.slice (some ⟨gn, 0, none⟩) (l.length + 1) cn) (l ++ [d]).length (cellsOf (l ++ [d]).flatten) ∧ Below B w w' := by
  obtain ⟨v', w', h1, h2, h3, h4⟩ := h.append hB hlen d hd D HD
  obtain ⟨gn, cn, hv⟩ := own_form h3 (by simp)
  have e : (l ++ [d]).length = l.length + 1 := by simp
  rw [e] at hv
  subst hv
  exact ⟨gn, cn, w', h1, h2, h3, h4⟩
set_option maxHeartbeats 4000000 in
theorem take_any (B gp n : Nat) (v : Value) (l : List (List UInt8)) (d : List UInt8) (w : World) (hG : Grow B gp (.int .i64 n) v l w) (hd : Digs32 l) (hl : l.length = many n) (hn : n ≤ 99999) (hd32 : d.length = 32) (hB : B ≤ gp) (hK : TabF w) (hT : 0 < B ∧ 2 < B) (D : Array Value) (HD : Hid (D = (cellsOf d).toArray)) :
    Calls Tryd.prog 21 #[.pointer (some ⟨gp, 0, none⟩), .agg D] w fun e w' => e = .returned (.tuple #[]) ∧ (∃ v', Grow B gp (.int .i64 ((n : Int) + 1)) v' (addP n l d) w') ∧ Below B w w' := by
  have hBw : B ≤ w.heap.size := Nat.le_of_lt (Nat.lt_of_le_of_lt hB (heap_lt hG.var))
  have hll : l.length ≤ 99999 := by rw [hl]; have := many_le n; omega
  obtain ⟨T, HT⟩ : ∃ T, Hid (T = tz (n + 1)) := ⟨_, (rfl : tz (n + 1) = _)⟩
  have hTl : T ≤ l.length := by rw [HT.out, hl]; exact tz_many n
  have TZ : Hid (∀ W, Below B w W → Calls Tryd.prog 54 #[.int .u64 ((n : Int) + 1)] W fun e w' => e = .returned (.int .i64 T) ∧ W = w') := fun W hb => by
    rw [HT.out]
    exact tz_any (n + 1) (by omega) (by omega) W (hK.2.low hb hT.2)
  have JN : Hid (∀ (v : Value) (r : List (List UInt8)) (p q : List UInt8) (W : World), Grow B gp (.int .i64 ((n : Int) + 1)) v (r ++ [p, q]) W → Digs32 (r ++ [p, q]) → r.length ≤ 100000 → Below B w W →
      Calls Tryd.prog 55 #[.pointer (some ⟨gp, 0, none⟩)] W fun e w' => e = .returned (.tuple #[]) ∧ (∃ v', Grow B gp (.int .i64 ((n : Int) + 1)) v' (r ++ [knotD p q]) w') ∧ Below B W w') := fun v r p q W h1 h2 h3 h4 =>
    join_any B gp _ v r p q W h1 h2 h3 hB (table_low hK.1 h4 hT.1)
  have HSD : Hid ((Tryd.prog.info? 30).map (·.size) = some D.size) := by show _ = _; rw [size23, HD.out]; simp [cellsOf_length, hd32]
  have HX : Hid (Digs32 l ∧ (carry T l.reverse d).reverse = addP n l d) := ⟨hd, by rw [HT.out]; rfl⟩
  have hb0 : Below w.heap.size w (w.alloc (.cells D 30)) := (Below.refl _ _).alloc (Nat.le_refl _) _
  have hG0 := hG.keep hb0
  have HA : Hid (Grow B gp (.int .i64 ((n : Int) + 1)) v l ((w.alloc (.cells D 30)).setCell ⟨gp, 0, none⟩ (.int .i64 ((n : Int) + 1))) ∧ ((w.alloc (.cells D 30)).setCell ⟨gp, 0, none⟩ (.int .i64 ((n : Int) + 1))).heap[w.heap.size]? = some (.cells D 30 (0, 0)) ∧ Below B w ((w.alloc (.cells D 30)).setCell ⟨gp, 0, none⟩ (.int .i64 ((n : Int) + 1)))) :=
    ⟨hG0.size _, (heap_setCell_other _ _ _ _ (by have := heap_lt hG.var; show w.heap.size ≠ gp; omega)).trans (heap_alloc_new w _), (hb0.mono hBw).setCell (by simpa using hB) _⟩
  have hc0 := hG0.two.1
  have hf0 := hG0.free 0
  have w1 := wrap_int ((n : Int) + 1) (by omega) (by omega)
  have w2 : IntKind.u64.wrap ((n : Int) + 1) = (n : Int) + 1 := by rw [IntKind.wrap_u64]; omega
  clear hG hd hl hK hT HT hG0 hb0
  go_enter Tryd.func21, Tryd.ntmps21
  go_wp2
  clear hc0 hf0
  generalize (w.alloc (.cells D 30)).setCell ⟨gp, 0, none⟩ (.int .i64 ((n : Int) + 1)) = wa at HA ⊢
  generalize w.heap.size = gl at HA ⊢
  have HG := hidk HA.out.1.drew
  have hB0 : Below B w wa.drew := HA.out.2.2.drew
  have HL : Hid (wa.drew.heap[gl]? = some (.cells D 30 (0, 0))) := HA.out.2.1
  have hBa : B ≤ wa.drew.heap.size := Nat.le_of_lt (Nat.lt_of_le_of_lt hB (heap_lt HG.out.var))
  clear HA
  refine wp_region_held_drew (S := (fun _ => True)) (by kernel_rfl) trivial (fun hHeld => ?_)
  refine wpAnyH_take (i := 0) (oi := { dst := some 13, op := Op.move (Operand.tmp 0), type := 104, pos := "front.go:32", after := #[], guard := none }) (v := .pointer (some ⟨gp, 0, none⟩)) rfl (by kernel_rfl) (by kernel_rfl) (by kernel_rfl) (fun _ _ _ h => h) (Or.inl ⟨by rfl, by intro W hSw; go_simp⟩) hHeld ?_
  try simp only [Act.put, List.setIfInBounds_toArray, List.set_cons_zero, List.set_cons_succ]
  refine wpAnyH_take (i := 1) (oi := { dst := some 14, op := Op.move (Operand.tmp 0), type := 104, pos := "front.go:32", after := #[], guard := none }) (v := .pointer (some ⟨gp, 0, none⟩)) rfl (by kernel_rfl) (by kernel_rfl) (by kernel_rfl) (fun _ _ _ h => h) (Or.inl ⟨by rfl, by intro W hSw; go_simp⟩) hHeld ?_
  try simp only [Act.put, List.setIfInBounds_toArray, List.set_cons_zero, List.set_cons_succ]
  refine wpAnyH_take (i := 2) (oi := { dst := some 15, op := Op.nilCheck (Operand.tmp 14), type := 0, pos := "front.go:32", after := #[{ on := 1, ground := Ground.data }], guard := none }) (v := .pointer (some ⟨gp, 0, none⟩)) rfl (by kernel_rfl) (by kernel_rfl) (by kernel_rfl) (fun _ _ _ h => h) (Or.inl ⟨by rfl, by intro W hSw; go_simp⟩) hHeld ?_
  try simp only [Act.put, List.setIfInBounds_toArray, List.set_cons_zero, List.set_cons_succ]
  refine wpAnyH_take (i := 3) (oi := { dst := some 16, op := Op.fieldAddr 58 (Operand.tmp 15) 0, type := 0, pos := "front.go:32", after := #[{ on := 2, ground := Ground.data }], guard := none }) (v := .pointer (some ⟨gp, 0, none⟩)) rfl (by kernel_rfl) (by kernel_rfl) (by kernel_rfl) (fun _ _ _ h => h) (Or.inl ⟨by rfl, by intro W hSw; go_simp⟩) hHeld ?_
  try simp only [Act.put, List.setIfInBounds_toArray, List.set_cons_zero, List.set_cons_succ]
  refine wpAnyH_take (i := 4) (oi := { dst := some 17, op := Op.fieldAddr 28 (Operand.tmp 16) 1, type := 0, pos := "front.go:32", after := #[{ on := 3, ground := Ground.data }], guard := none }) (v := .pointer (some ⟨gp, 1, none⟩)) rfl (by kernel_rfl) (by kernel_rfl) (by kernel_rfl) (fun _ _ _ h => h) (Or.inl ⟨by rfl, by intro W hSw; go_simp⟩) hHeld ?_
  try simp only [Act.put, List.setIfInBounds_toArray, List.set_cons_zero, List.set_cons_succ]
  refine wpAnyH_ready (rs := [5, 6]) (by kernel_rfl) (by simp) ?_
  refine (AllReadyH.cons (o := { dst := some 18, op := Op.load 26 (Operand.tmp 17), type := 26, pos := "front.go:32", after := #[{ on := 4, ground := Ground.data }], guard := none }) rfl (fun K hK => ?_) (AllReadyH.cons (o := { dst := some 19, op := Op.load 30 (Operand.tmp 3), type := 30, pos := "front.go:32", after := #[], guard := none }) rfl (fun K hK => ?_) AllReadyH.nil))
  · have hc := HG.out.two.2
    try (have hc3 : (wa.alloc (.cells D 30)).cell? ⟨gp, 1, none⟩ = some v := hc)
    go_simp
    clear hc
    refine hK.out _ _ trivial (fun hHeld => ?_)
    clear hK K
    try simp only [Act.put, List.setIfInBounds_toArray, List.set_cons_zero, List.set_cons_succ]
    refine wpAnyH_ready (rs := [6]) (by kernel_rfl) (by simp) ?_
    refine (AllReadyH.cons (o := { dst := some 19, op := Op.load 30 (Operand.tmp 3), type := 30, pos := "front.go:32", after := #[], guard := none }) rfl (fun K hK => ?_) AllReadyH.nil)
    refine step_load_row (by rfl) 30 (.tmp 3) rfl gl rfl 30 D (0, 0) _ HL.out Tryd.underlying30 rfl HSD.out ?_
    refine hK.out _ _ trivial (fun hHeld => ?_)
    clear hK K
    try simp only [Act.put, List.setIfInBounds_toArray, List.set_cons_zero, List.set_cons_succ]
    refine wpAnyH_ready (rs := [7]) (by kernel_rfl) (by simp) ?_
    refine (AllReadyH.cons (o := { dst := some 20, op := Op.buildSlice 26 1 #[(0, Operand.tmp 19)], type := 26, pos := "front.go:32", after := #[{ on := 6, ground := Ground.data }], guard := none }) rfl (fun K hK => ?_) AllReadyH.nil)
    refine step_build_run (by rfl) 26 1 _ rfl #[(0, .agg D)] rfl _ _ (build_one _ _ hd32 D HD) ?_
    obtain ⟨gn, cn, w8, hrun, q1, q2, q3⟩ := grow_append HG.out hBa (by omega) _ hd32 D HD
    replace HG := hidk (HG.out.keep ((Below.refl _ _).alloc (Nat.le_refl _) (.cells D 30)))
    refine hK.out _ _ trivial (fun hHeld => ?_)
    clear hK K
    try simp only [Act.put, List.setIfInBounds_toArray, List.set_cons_zero, List.set_cons_succ]
    refine wpAnyH_ready (rs := [8]) (by kernel_rfl) (by simp) ?_
    refine (AllReadyH.cons (o := { dst := some 21, op := Op.call { callee := Callee.builtin Builtin.append, args := #[Operand.tmp 18, Operand.tmp 20], argTypes := #[26, 26] }, type := 26, pos := "front.go:32", after := #[{ on := 5, ground := Ground.data }, { on := 7, ground := Ground.data }], guard := none }) rfl (fun K hK => ?_) AllReadyH.nil)
    refine step_append_run rfl (.tmp 18) (.tmp 20) 26 26 rfl v _ _ w8 rfl rfl hrun ?_
    refine hK.out _ _ trivial (fun hHeld => ?_)
    clear hK K
    try simp only [Act.put, List.setIfInBounds_toArray, List.set_cons_zero, List.set_cons_succ]
    refine wpAnyH_take (i := 9) (oi := { dst := some 22, op := Op.nilCheck (Operand.tmp 13), type := 0, pos := "front.go:32", after := #[{ on := 0, ground := Ground.data }, { on := 0, ground := Ground.phase }, { on := 1, ground := Ground.phase }, { on := 2, ground := Ground.phase }, { on := 3, ground := Ground.phase }, { on := 4, ground := Ground.phase }, { on := 5, ground := Ground.phase }, { on := 6, ground := Ground.phase }, { on := 7, ground := Ground.phase }, { on := 8, ground := Ground.phase }], guard := none }) (v := .pointer (some ⟨gp, 0, none⟩)) rfl (by kernel_rfl) (by kernel_rfl) (by kernel_rfl) (fun _ _ _ h => h) (Or.inl ⟨by rfl, by intro W hSw; go_simp⟩) hHeld ?_
    try simp only [Act.put, List.setIfInBounds_toArray, List.set_cons_zero, List.set_cons_succ]
    refine wpAnyH_take (i := 10) (oi := { dst := some 23, op := Op.fieldAddr 58 (Operand.tmp 22) 0, type := 0, pos := "front.go:32", after := #[{ on := 9, ground := Ground.data }, { on := 0, ground := Ground.phase }, { on := 1, ground := Ground.phase }, { on := 2, ground := Ground.phase }, { on := 3, ground := Ground.phase }, { on := 4, ground := Ground.phase }, { on := 5, ground := Ground.phase }, { on := 6, ground := Ground.phase }, { on := 7, ground := Ground.phase }, { on := 8, ground := Ground.phase }], guard := none }) (v := .pointer (some ⟨gp, 0, none⟩)) rfl (by kernel_rfl) (by kernel_rfl) (by kernel_rfl) (fun _ _ _ h => h) (Or.inl ⟨by rfl, by intro W hSw; go_simp⟩) hHeld ?_
    try simp only [Act.put, List.setIfInBounds_toArray, List.set_cons_zero, List.set_cons_succ]
    refine wpAnyH_take (i := 11) (oi := { dst := some 24, op := Op.fieldAddr 28 (Operand.tmp 23) 1, type := 0, pos := "front.go:32", after := #[{ on := 10, ground := Ground.data }, { on := 0, ground := Ground.phase }, { on := 1, ground := Ground.phase }, { on := 2, ground := Ground.phase }, { on := 3, ground := Ground.phase }, { on := 4, ground := Ground.phase }, { on := 5, ground := Ground.phase }, { on := 6, ground := Ground.phase }, { on := 7, ground := Ground.phase }, { on := 8, ground := Ground.phase }], guard := none }) (v := .pointer (some ⟨gp, 1, none⟩)) rfl (by kernel_rfl) (by kernel_rfl) (by kernel_rfl) (fun _ _ _ h => h) (Or.inl ⟨by rfl, by intro W hSw; go_simp⟩) hHeld ?_
    try simp only [Act.put, List.setIfInBounds_toArray, List.set_cons_zero, List.set_cons_succ]
    refine wpAnyH_ready (rs := [12]) (by kernel_rfl) (by simp) ?_
    refine (AllReadyH.cons (o := { dst := none, op := Op.store 26 (Operand.tmp 24) (Operand.tmp 21), type := 0, pos := "front.go:32", after := #[{ on := 11, ground := Ground.data }, { on := 8, ground := Ground.data }, { on := 8, ground := Ground.chain }, { on := 0, ground := Ground.phase }, { on := 1, ground := Ground.phase }, { on := 2, ground := Ground.phase }, { on := 3, ground := Ground.phase }, { on := 4, ground := Ground.phase }, { on := 5, ground := Ground.phase }, { on := 6, ground := Ground.phase }, { on := 7, ground := Ground.phase }, { on := 8, ground := Ground.phase }], guard := none }) rfl (fun K hK => ?_) AllReadyH.nil)
    have hc : w8.cell? ⟨gp, 1, none⟩ = some v := (by rw [cell_of_row _ _ 1 _ 58 (0, 0) q1]; rfl)
    have hfz := frozen_of_row _ gp 1 _ 58 q1
    go_simp
    clear hc hfz
    refine hK.out _ _ trivial (fun hHeld => ?_)
    clear hK K
    try simp only [Act.put, List.setIfInBounds_toArray, List.set_cons_zero, List.set_cons_succ]
    refine wpAnyH_done (by kernel_rfl) ?_ _
    have HW : Hid (Grow B gp (.int .i64 ((n : Int) + 1)) (.slice (some ⟨gn, 0, none⟩) (l.length + 1) cn) (l ++ [d]) (w8.setCell ⟨gp, 1, none⟩ (.slice (some ⟨gn, 0, none⟩) (l.length + 1) cn)) ∧ Below B w (w8.setCell ⟨gp, 1, none⟩ (.slice (some ⟨gn, 0, none⟩) (l.length + 1) cn))) := ⟨grow_put q1 q2, (hB0.trans q3).setCell (by simpa using hB) _⟩
    clear hHeld q1 q2 q3 hrun HG HL hB0 hBa
    generalize w8.setCell ⟨gp, 1, none⟩ (.slice (some ⟨gn, 0, none⟩) (l.length + 1) cn) = wb at HW ⊢
    have hc0 := HW.out.1.two.1
    go_wp2_with fail
    refine (TZ.out _ HW.out.2).mono ?_
    rintro e w9 ⟨rfl, rfl⟩
    clear hc0 TZ
    go_wp2
    go_loopw [32] (fun u wr => ∃ i : Nat, i ≤ T ∧ u = .int .i64 i ∧ Hid (∃ v r e, Grow B gp (.int .i64 ((n : Int) + 1)) v (r.reverse ++ [e]) wr ∧ T - i ≤ r.length ∧ r.length ≤ 100000 ∧ Digs32 r ∧ e.length = 32 ∧ (carry (T - i) r e).reverse = addP n l d ∧ Below B w wr)) (fun u _ => T - (intOf u).toNat)
    case atStart => exact ⟨0, by omega, rfl, (.slice (some ⟨gn, 0, none⟩) (l.length + 1) cn), l.reverse, d, by rw [List.reverse_reverse]; exact HW.out.1, by rw [List.length_reverse]; omega, by rw [List.length_reverse]; omega, HX.out.1.reverse, hd32, HX.out.2, HW.out.2⟩
    case round =>
      clear HW
      obtain ⟨i, hi, rfl, HI⟩ := hrel
      by_cases hlt : i < T
      · have hdi : decide ((i : Int) < (T : Int)) = true := by rw [decide_eq_true_eq]; omega
        have hwi := wrap_int ((i : Int) + 1) (by omega) (by omega)
        obtain ⟨v1, r, e, k1, k2, k3, k4, k5, k6, k7⟩ := HI.out
        obtain ⟨p, r, rfl⟩ : ∃ p r', r = p :: r' := by
          cases r with
          | nil => simp at k2; omega
          | cons p r => exact ⟨p, r, rfl⟩
        have el : (p :: r).reverse ++ [e] = r.reverse ++ [p, e] := by simp
        rw [el] at k1
        have kd : Digs32 (r.reverse ++ [p, e]) := by rw [← el]; exact k4.reverse.append (.one k5)
        have J := hidk (JN.out v1 r.reverse p e wr k1 kd (by rw [List.length_reverse]; simp at k3; omega) k7)
        have N : Hid (∀ w', (∃ v', Grow B gp (.int .i64 ((n : Int) + 1)) v' (r.reverse ++ [knotD p e]) w') → Below B wr w' → ∃ v r e, Grow B gp (.int .i64 ((n : Int) + 1)) v (r.reverse ++ [e]) w' ∧ T - (i + 1) ≤ r.length ∧ r.length ≤ 100000 ∧ Digs32 r ∧ e.length = 32 ∧ (carry (T - (i + 1)) r e).reverse = addP n l d ∧ Below B w w') := fun w' ⟨v', h1⟩ h2 =>
          ⟨v', r, knotD p e, h1, by simp at k2; omega, by simp at k3; omega, (fun z hz => k4 z (List.mem_cons_of_mem _ hz)), sumD_length _, by rw [← k6, show T - i = T - (i + 1) + 1 by omega]; rfl, k7.trans h2⟩
        clear HI k1 k2 k3 k4 k5 k6 k7 el kd JN
        go_wp2_with fail
        refine J.out.mono ?_
        rintro e w10 ⟨rfl, h1, h2⟩
        have HN := hidk (N.out w10 h1 h2)
        clear N J h1 h2
        go_wp2
        go_roundw
        case rel => exact ⟨i + 1, by omega, by go_num, HN⟩
        case measure => simp [intOf]; omega
      · obtain rfl : T = i := by omega
        have HN : Hid ((∃ v', Grow B gp (.int .i64 ((n : Int) + 1)) v' (addP n l d) wr) ∧ Below B w wr) := by
          obtain ⟨v1, r, e, k1, k2, k3, k4, k5, k6, k7⟩ := HI.out
          rw [Nat.sub_self] at k6
          rw [← k6]
          exact ⟨⟨v1, by simpa [carry] using k1⟩, k7⟩
        clear HI JN
        go_wp2
        first | go_end0 | (refine bodyPost_ret (results_none rfl _ _ _) rfl ?_)
        exact ⟨rfl, HN.out⟩
  · refine step_load_row (by rfl) 30 (.tmp 3) rfl gl rfl 30 D (0, 0) _ HL.out Tryd.underlying30 rfl HSD.out ?_
    refine hK.out _ _ trivial (fun hHeld => ?_)
    clear hK K
    try simp only [Act.put, List.setIfInBounds_toArray, List.set_cons_zero, List.set_cons_succ]
    refine wpAnyH_ready (rs := [5, 7]) (by kernel_rfl) (by simp) ?_
    refine (AllReadyH.cons (o := { dst := some 18, op := Op.load 26 (Operand.tmp 17), type := 26, pos := "front.go:32", after := #[{ on := 4, ground := Ground.data }], guard := none }) rfl (fun K hK => ?_) (AllReadyH.cons (o := { dst := some 20, op := Op.buildSlice 26 1 #[(0, Operand.tmp 19)], type := 26, pos := "front.go:32", after := #[{ on := 6, ground := Ground.data }], guard := none }) rfl (fun K hK => ?_) AllReadyH.nil))
    · have hc := HG.out.two.2
      try (have hc3 : (wa.alloc (.cells D 30)).cell? ⟨gp, 1, none⟩ = some v := hc)
      go_simp
      clear hc
      refine hK.out _ _ trivial (fun hHeld => ?_)
      clear hK K
      try simp only [Act.put, List.setIfInBounds_toArray, List.set_cons_zero, List.set_cons_succ]
      refine wpAnyH_ready (rs := [7]) (by kernel_rfl) (by simp) ?_
      refine (AllReadyH.cons (o := { dst := some 20, op := Op.buildSlice 26 1 #[(0, Operand.tmp 19)], type := 26, pos := "front.go:32", after := #[{ on := 6, ground := Ground.data }], guard := none }) rfl (fun K hK => ?_) AllReadyH.nil)
      refine step_build_run (by rfl) 26 1 _ rfl #[(0, .agg D)] rfl _ _ (build_one _ _ hd32 D HD) ?_
      obtain ⟨gn, cn, w8, hrun, q1, q2, q3⟩ := grow_append HG.out hBa (by omega) _ hd32 D HD
      replace HG := hidk (HG.out.keep ((Below.refl _ _).alloc (Nat.le_refl _) (.cells D 30)))
      refine hK.out _ _ trivial (fun hHeld => ?_)
      clear hK K
      try simp only [Act.put, List.setIfInBounds_toArray, List.set_cons_zero, List.set_cons_succ]
      refine wpAnyH_ready (rs := [8]) (by kernel_rfl) (by simp) ?_
      refine (AllReadyH.cons (o := { dst := some 21, op := Op.call { callee := Callee.builtin Builtin.append, args := #[Operand.tmp 18, Operand.tmp 20], argTypes := #[26, 26] }, type := 26, pos := "front.go:32", after := #[{ on := 5, ground := Ground.data }, { on := 7, ground := Ground.data }], guard := none }) rfl (fun K hK => ?_) AllReadyH.nil)
      refine step_append_run rfl (.tmp 18) (.tmp 20) 26 26 rfl v _ _ w8 rfl rfl hrun ?_
      refine hK.out _ _ trivial (fun hHeld => ?_)
      clear hK K
      try simp only [Act.put, List.setIfInBounds_toArray, List.set_cons_zero, List.set_cons_succ]
      refine wpAnyH_take (i := 9) (oi := { dst := some 22, op := Op.nilCheck (Operand.tmp 13), type := 0, pos := "front.go:32", after := #[{ on := 0, ground := Ground.data }, { on := 0, ground := Ground.phase }, { on := 1, ground := Ground.phase }, { on := 2, ground := Ground.phase }, { on := 3, ground := Ground.phase }, { on := 4, ground := Ground.phase }, { on := 5, ground := Ground.phase }, { on := 6, ground := Ground.phase }, { on := 7, ground := Ground.phase }, { on := 8, ground := Ground.phase }], guard := none }) (v := .pointer (some ⟨gp, 0, none⟩)) rfl (by kernel_rfl) (by kernel_rfl) (by kernel_rfl) (fun _ _ _ h => h) (Or.inl ⟨by rfl, by intro W hSw; go_simp⟩) hHeld ?_
      try simp only [Act.put, List.setIfInBounds_toArray, List.set_cons_zero, List.set_cons_succ]
      refine wpAnyH_take (i := 10) (oi := { dst := some 23, op := Op.fieldAddr 58 (Operand.tmp 22) 0, type := 0, pos := "front.go:32", after := #[{ on := 9, ground := Ground.data }, { on := 0, ground := Ground.phase }, { on := 1, ground := Ground.phase }, { on := 2, ground := Ground.phase }, { on := 3, ground := Ground.phase }, { on := 4, ground := Ground.phase }, { on := 5, ground := Ground.phase }, { on := 6, ground := Ground.phase }, { on := 7, ground := Ground.phase }, { on := 8, ground := Ground.phase }], guard := none }) (v := .pointer (some ⟨gp, 0, none⟩)) rfl (by kernel_rfl) (by kernel_rfl) (by kernel_rfl) (fun _ _ _ h => h) (Or.inl ⟨by rfl, by intro W hSw; go_simp⟩) hHeld ?_
      try simp only [Act.put, List.setIfInBounds_toArray, List.set_cons_zero, List.set_cons_succ]
      refine wpAnyH_take (i := 11) (oi := { dst := some 24, op := Op.fieldAddr 28 (Operand.tmp 23) 1, type := 0, pos := "front.go:32", after := #[{ on := 10, ground := Ground.data }, { on := 0, ground := Ground.phase }, { on := 1, ground := Ground.phase }, { on := 2, ground := Ground.phase }, { on := 3, ground := Ground.phase }, { on := 4, ground := Ground.phase }, { on := 5, ground := Ground.phase }, { on := 6, ground := Ground.phase }, { on := 7, ground := Ground.phase }, { on := 8, ground := Ground.phase }], guard := none }) (v := .pointer (some ⟨gp, 1, none⟩)) rfl (by kernel_rfl) (by kernel_rfl) (by kernel_rfl) (fun _ _ _ h => h) (Or.inl ⟨by rfl, by intro W hSw; go_simp⟩) hHeld ?_
      try simp only [Act.put, List.setIfInBounds_toArray, List.set_cons_zero, List.set_cons_succ]
      refine wpAnyH_ready (rs := [12]) (by kernel_rfl) (by simp) ?_
      refine (AllReadyH.cons (o := { dst := none, op := Op.store 26 (Operand.tmp 24) (Operand.tmp 21), type := 0, pos := "front.go:32", after := #[{ on := 11, ground := Ground.data }, { on := 8, ground := Ground.data }, { on := 8, ground := Ground.chain }, { on := 0, ground := Ground.phase }, { on := 1, ground := Ground.phase }, { on := 2, ground := Ground.phase }, { on := 3, ground := Ground.phase }, { on := 4, ground := Ground.phase }, { on := 5, ground := Ground.phase }, { on := 6, ground := Ground.phase }, { on := 7, ground := Ground.phase }, { on := 8, ground := Ground.phase }], guard := none }) rfl (fun K hK => ?_) AllReadyH.nil)
      have hc : w8.cell? ⟨gp, 1, none⟩ = some v := (by rw [cell_of_row _ _ 1 _ 58 (0, 0) q1]; rfl)
      have hfz := frozen_of_row _ gp 1 _ 58 q1
      go_simp
      clear hc hfz
      refine hK.out _ _ trivial (fun hHeld => ?_)
      clear hK K
      try simp only [Act.put, List.setIfInBounds_toArray, List.set_cons_zero, List.set_cons_succ]
      refine wpAnyH_done (by kernel_rfl) ?_ _
      have HW : Hid (Grow B gp (.int .i64 ((n : Int) + 1)) (.slice (some ⟨gn, 0, none⟩) (l.length + 1) cn) (l ++ [d]) (w8.setCell ⟨gp, 1, none⟩ (.slice (some ⟨gn, 0, none⟩) (l.length + 1) cn)) ∧ Below B w (w8.setCell ⟨gp, 1, none⟩ (.slice (some ⟨gn, 0, none⟩) (l.length + 1) cn))) := ⟨grow_put q1 q2, (hB0.trans q3).setCell (by simpa using hB) _⟩
      clear hHeld q1 q2 q3 hrun HG HL hB0 hBa
      generalize w8.setCell ⟨gp, 1, none⟩ (.slice (some ⟨gn, 0, none⟩) (l.length + 1) cn) = wb at HW ⊢
      have hc0 := HW.out.1.two.1
      go_wp2_with fail
      refine (TZ.out _ HW.out.2).mono ?_
      rintro e w9 ⟨rfl, rfl⟩
      clear hc0 TZ
      go_wp2
      go_loopw [32] (fun u wr => ∃ i : Nat, i ≤ T ∧ u = .int .i64 i ∧ Hid (∃ v r e, Grow B gp (.int .i64 ((n : Int) + 1)) v (r.reverse ++ [e]) wr ∧ T - i ≤ r.length ∧ r.length ≤ 100000 ∧ Digs32 r ∧ e.length = 32 ∧ (carry (T - i) r e).reverse = addP n l d ∧ Below B w wr)) (fun u _ => T - (intOf u).toNat)
      case atStart => exact ⟨0, by omega, rfl, (.slice (some ⟨gn, 0, none⟩) (l.length + 1) cn), l.reverse, d, by rw [List.reverse_reverse]; exact HW.out.1, by rw [List.length_reverse]; omega, by rw [List.length_reverse]; omega, HX.out.1.reverse, hd32, HX.out.2, HW.out.2⟩
      case round =>
        clear HW
        obtain ⟨i, hi, rfl, HI⟩ := hrel
        by_cases hlt : i < T
        · have hdi : decide ((i : Int) < (T : Int)) = true := by rw [decide_eq_true_eq]; omega
          have hwi := wrap_int ((i : Int) + 1) (by omega) (by omega)
          obtain ⟨v1, r, e, k1, k2, k3, k4, k5, k6, k7⟩ := HI.out
          obtain ⟨p, r, rfl⟩ : ∃ p r', r = p :: r' := by
            cases r with
            | nil => simp at k2; omega
            | cons p r => exact ⟨p, r, rfl⟩
          have el : (p :: r).reverse ++ [e] = r.reverse ++ [p, e] := by simp
          rw [el] at k1
          have kd : Digs32 (r.reverse ++ [p, e]) := by rw [← el]; exact k4.reverse.append (.one k5)
          have J := hidk (JN.out v1 r.reverse p e wr k1 kd (by rw [List.length_reverse]; simp at k3; omega) k7)
          have N : Hid (∀ w', (∃ v', Grow B gp (.int .i64 ((n : Int) + 1)) v' (r.reverse ++ [knotD p e]) w') → Below B wr w' → ∃ v r e, Grow B gp (.int .i64 ((n : Int) + 1)) v (r.reverse ++ [e]) w' ∧ T - (i + 1) ≤ r.length ∧ r.length ≤ 100000 ∧ Digs32 r ∧ e.length = 32 ∧ (carry (T - (i + 1)) r e).reverse = addP n l d ∧ Below B w w') := fun w' ⟨v', h1⟩ h2 =>
            ⟨v', r, knotD p e, h1, by simp at k2; omega, by simp at k3; omega, (fun z hz => k4 z (List.mem_cons_of_mem _ hz)), sumD_length _, by rw [← k6, show T - i = T - (i + 1) + 1 by omega]; rfl, k7.trans h2⟩
          clear HI k1 k2 k3 k4 k5 k6 k7 el kd JN
          go_wp2_with fail
          refine J.out.mono ?_
          rintro e w10 ⟨rfl, h1, h2⟩
          have HN := hidk (N.out w10 h1 h2)
          clear N J h1 h2
          go_wp2
          go_roundw
          case rel => exact ⟨i + 1, by omega, by go_num, HN⟩
          case measure => simp [intOf]; omega
        · obtain rfl : T = i := by omega
          have HN : Hid ((∃ v', Grow B gp (.int .i64 ((n : Int) + 1)) v' (addP n l d) wr) ∧ Below B w wr) := by
            obtain ⟨v1, r, e, k1, k2, k3, k4, k5, k6, k7⟩ := HI.out
            rw [Nat.sub_self] at k6
            rw [← k6]
            exact ⟨⟨v1, by simpa [carry] using k1⟩, k7⟩
          clear HI JN
          go_wp2
          first | go_end0 | (refine bodyPost_ret (results_none rfl _ _ _) rfl ?_)
          exact ⟨rfl, HN.out⟩
    · refine step_build_run (by rfl) 26 1 _ rfl #[(0, .agg D)] rfl _ _ (build_one _ _ hd32 D HD) ?_
      obtain ⟨gn, cn, w8, hrun, q1, q2, q3⟩ := grow_append HG.out hBa (by omega) _ hd32 D HD
      replace HG := hidk (HG.out.keep ((Below.refl _ _).alloc (Nat.le_refl _) (.cells D 30)))
      refine hK.out _ _ trivial (fun hHeld => ?_)
      clear hK K
      try simp only [Act.put, List.setIfInBounds_toArray, List.set_cons_zero, List.set_cons_succ]
      refine wpAnyH_ready (rs := [5]) (by kernel_rfl) (by simp) ?_
      refine (AllReadyH.cons (o := { dst := some 18, op := Op.load 26 (Operand.tmp 17), type := 26, pos := "front.go:32", after := #[{ on := 4, ground := Ground.data }], guard := none }) rfl (fun K hK => ?_) AllReadyH.nil)
      have hc := HG.out.two.2
      try (have hc3 : (wa.alloc (.cells D 30)).cell? ⟨gp, 1, none⟩ = some v := hc)
      go_simp
      clear hc
      refine hK.out _ _ trivial (fun hHeld => ?_)
      clear hK K
      try simp only [Act.put, List.setIfInBounds_toArray, List.set_cons_zero, List.set_cons_succ]
      refine wpAnyH_ready (rs := [8]) (by kernel_rfl) (by simp) ?_
      refine (AllReadyH.cons (o := { dst := some 21, op := Op.call { callee := Callee.builtin Builtin.append, args := #[Operand.tmp 18, Operand.tmp 20], argTypes := #[26, 26] }, type := 26, pos := "front.go:32", after := #[{ on := 5, ground := Ground.data }, { on := 7, ground := Ground.data }], guard := none }) rfl (fun K hK => ?_) AllReadyH.nil)
      refine step_append_run rfl (.tmp 18) (.tmp 20) 26 26 rfl v _ _ w8 rfl rfl hrun ?_
      refine hK.out _ _ trivial (fun hHeld => ?_)
      clear hK K
      try simp only [Act.put, List.setIfInBounds_toArray, List.set_cons_zero, List.set_cons_succ]
      refine wpAnyH_take (i := 9) (oi := { dst := some 22, op := Op.nilCheck (Operand.tmp 13), type := 0, pos := "front.go:32", after := #[{ on := 0, ground := Ground.data }, { on := 0, ground := Ground.phase }, { on := 1, ground := Ground.phase }, { on := 2, ground := Ground.phase }, { on := 3, ground := Ground.phase }, { on := 4, ground := Ground.phase }, { on := 5, ground := Ground.phase }, { on := 6, ground := Ground.phase }, { on := 7, ground := Ground.phase }, { on := 8, ground := Ground.phase }], guard := none }) (v := .pointer (some ⟨gp, 0, none⟩)) rfl (by kernel_rfl) (by kernel_rfl) (by kernel_rfl) (fun _ _ _ h => h) (Or.inl ⟨by rfl, by intro W hSw; go_simp⟩) hHeld ?_
      try simp only [Act.put, List.setIfInBounds_toArray, List.set_cons_zero, List.set_cons_succ]
      refine wpAnyH_take (i := 10) (oi := { dst := some 23, op := Op.fieldAddr 58 (Operand.tmp 22) 0, type := 0, pos := "front.go:32", after := #[{ on := 9, ground := Ground.data }, { on := 0, ground := Ground.phase }, { on := 1, ground := Ground.phase }, { on := 2, ground := Ground.phase }, { on := 3, ground := Ground.phase }, { on := 4, ground := Ground.phase }, { on := 5, ground := Ground.phase }, { on := 6, ground := Ground.phase }, { on := 7, ground := Ground.phase }, { on := 8, ground := Ground.phase }], guard := none }) (v := .pointer (some ⟨gp, 0, none⟩)) rfl (by kernel_rfl) (by kernel_rfl) (by kernel_rfl) (fun _ _ _ h => h) (Or.inl ⟨by rfl, by intro W hSw; go_simp⟩) hHeld ?_
      try simp only [Act.put, List.setIfInBounds_toArray, List.set_cons_zero, List.set_cons_succ]
      refine wpAnyH_take (i := 11) (oi := { dst := some 24, op := Op.fieldAddr 28 (Operand.tmp 23) 1, type := 0, pos := "front.go:32", after := #[{ on := 10, ground := Ground.data }, { on := 0, ground := Ground.phase }, { on := 1, ground := Ground.phase }, { on := 2, ground := Ground.phase }, { on := 3, ground := Ground.phase }, { on := 4, ground := Ground.phase }, { on := 5, ground := Ground.phase }, { on := 6, ground := Ground.phase }, { on := 7, ground := Ground.phase }, { on := 8, ground := Ground.phase }], guard := none }) (v := .pointer (some ⟨gp, 1, none⟩)) rfl (by kernel_rfl) (by kernel_rfl) (by kernel_rfl) (fun _ _ _ h => h) (Or.inl ⟨by rfl, by intro W hSw; go_simp⟩) hHeld ?_
      try simp only [Act.put, List.setIfInBounds_toArray, List.set_cons_zero, List.set_cons_succ]
      refine wpAnyH_ready (rs := [12]) (by kernel_rfl) (by simp) ?_
      refine (AllReadyH.cons (o := { dst := none, op := Op.store 26 (Operand.tmp 24) (Operand.tmp 21), type := 0, pos := "front.go:32", after := #[{ on := 11, ground := Ground.data }, { on := 8, ground := Ground.data }, { on := 8, ground := Ground.chain }, { on := 0, ground := Ground.phase }, { on := 1, ground := Ground.phase }, { on := 2, ground := Ground.phase }, { on := 3, ground := Ground.phase }, { on := 4, ground := Ground.phase }, { on := 5, ground := Ground.phase }, { on := 6, ground := Ground.phase }, { on := 7, ground := Ground.phase }, { on := 8, ground := Ground.phase }], guard := none }) rfl (fun K hK => ?_) AllReadyH.nil)
      have hc : w8.cell? ⟨gp, 1, none⟩ = some v := (by rw [cell_of_row _ _ 1 _ 58 (0, 0) q1]; rfl)
      have hfz := frozen_of_row _ gp 1 _ 58 q1
      go_simp
      clear hc hfz
      refine hK.out _ _ trivial (fun hHeld => ?_)
      clear hK K
      try simp only [Act.put, List.setIfInBounds_toArray, List.set_cons_zero, List.set_cons_succ]
      refine wpAnyH_done (by kernel_rfl) ?_ _
      have HW : Hid (Grow B gp (.int .i64 ((n : Int) + 1)) (.slice (some ⟨gn, 0, none⟩) (l.length + 1) cn) (l ++ [d]) (w8.setCell ⟨gp, 1, none⟩ (.slice (some ⟨gn, 0, none⟩) (l.length + 1) cn)) ∧ Below B w (w8.setCell ⟨gp, 1, none⟩ (.slice (some ⟨gn, 0, none⟩) (l.length + 1) cn))) := ⟨grow_put q1 q2, (hB0.trans q3).setCell (by simpa using hB) _⟩
      clear hHeld q1 q2 q3 hrun HG HL hB0 hBa
      generalize w8.setCell ⟨gp, 1, none⟩ (.slice (some ⟨gn, 0, none⟩) (l.length + 1) cn) = wb at HW ⊢
      have hc0 := HW.out.1.two.1
      go_wp2_with fail
      refine (TZ.out _ HW.out.2).mono ?_
      rintro e w9 ⟨rfl, rfl⟩
      clear hc0 TZ
      go_wp2
      go_loopw [32] (fun u wr => ∃ i : Nat, i ≤ T ∧ u = .int .i64 i ∧ Hid (∃ v r e, Grow B gp (.int .i64 ((n : Int) + 1)) v (r.reverse ++ [e]) wr ∧ T - i ≤ r.length ∧ r.length ≤ 100000 ∧ Digs32 r ∧ e.length = 32 ∧ (carry (T - i) r e).reverse = addP n l d ∧ Below B w wr)) (fun u _ => T - (intOf u).toNat)
      case atStart => exact ⟨0, by omega, rfl, (.slice (some ⟨gn, 0, none⟩) (l.length + 1) cn), l.reverse, d, by rw [List.reverse_reverse]; exact HW.out.1, by rw [List.length_reverse]; omega, by rw [List.length_reverse]; omega, HX.out.1.reverse, hd32, HX.out.2, HW.out.2⟩
      case round =>
        clear HW
        obtain ⟨i, hi, rfl, HI⟩ := hrel
        by_cases hlt : i < T
        · have hdi : decide ((i : Int) < (T : Int)) = true := by rw [decide_eq_true_eq]; omega
          have hwi := wrap_int ((i : Int) + 1) (by omega) (by omega)
          obtain ⟨v1, r, e, k1, k2, k3, k4, k5, k6, k7⟩ := HI.out
          obtain ⟨p, r, rfl⟩ : ∃ p r', r = p :: r' := by
            cases r with
            | nil => simp at k2; omega
            | cons p r => exact ⟨p, r, rfl⟩
          have el : (p :: r).reverse ++ [e] = r.reverse ++ [p, e] := by simp
          rw [el] at k1
          have kd : Digs32 (r.reverse ++ [p, e]) := by rw [← el]; exact k4.reverse.append (.one k5)
          have J := hidk (JN.out v1 r.reverse p e wr k1 kd (by rw [List.length_reverse]; simp at k3; omega) k7)
          have N : Hid (∀ w', (∃ v', Grow B gp (.int .i64 ((n : Int) + 1)) v' (r.reverse ++ [knotD p e]) w') → Below B wr w' → ∃ v r e, Grow B gp (.int .i64 ((n : Int) + 1)) v (r.reverse ++ [e]) w' ∧ T - (i + 1) ≤ r.length ∧ r.length ≤ 100000 ∧ Digs32 r ∧ e.length = 32 ∧ (carry (T - (i + 1)) r e).reverse = addP n l d ∧ Below B w w') := fun w' ⟨v', h1⟩ h2 =>
            ⟨v', r, knotD p e, h1, by simp at k2; omega, by simp at k3; omega, (fun z hz => k4 z (List.mem_cons_of_mem _ hz)), sumD_length _, by rw [← k6, show T - i = T - (i + 1) + 1 by omega]; rfl, k7.trans h2⟩
          clear HI k1 k2 k3 k4 k5 k6 k7 el kd JN
          go_wp2_with fail
          refine J.out.mono ?_
          rintro e w10 ⟨rfl, h1, h2⟩
          have HN := hidk (N.out w10 h1 h2)
          clear N J h1 h2
          go_wp2
          go_roundw
          case rel => exact ⟨i + 1, by omega, by go_num, HN⟩
          case measure => simp [intOf]; omega
        · obtain rfl : T = i := by omega
          have HN : Hid ((∃ v', Grow B gp (.int .i64 ((n : Int) + 1)) v' (addP n l d) wr) ∧ Below B w wr) := by
            obtain ⟨v1, r, e, k1, k2, k3, k4, k5, k6, k7⟩ := HI.out
            rw [Nat.sub_self] at k6
            rw [← k6]
            exact ⟨⟨v1, by simpa [carry] using k1⟩, k7⟩
          clear HI JN
          go_wp2
          first | go_end0 | (refine bodyPost_ret (results_none rfl _ _ _) rfl ?_)
          exact ⟨rfl, HN.out⟩
end Go.Proofs.YtdnhnjimhbbababDoor

/- A front's peaks are laid into memory of one's own. -/
namespace Go.Proofs.YtdnhnjimhbbababDoor
open Go.RowKit Sums
set_option maxRecDepth 100000
set_option linter.unusedVariables false
set_option linter.unusedSimpArgs false
theorem wpList_make_run {P : Program} {ops : Array Oper} {rest : List Oper} {o : Oper} {a : Act} {w : World} {Q : Exit → Act → World → Prop} (hg : o.guard = none) (l c : Operand) (t : TypeId) (hop : o.op = Op.makeSlice t l c)
    (vl vc v' : Value) (w' : World) (hl : a.eval l = vl) (hc : a.eval c = vc) (hrun : (Instr.makeSlice t vl vc).run P w = .ok v' w') (h : wpList P ops Q rest (a.put o.dst v') w') : wpList P ops Q (o :: rest) a w := by
  refine wpList_plain hg fun K hK => ?_
  unfold Oper.wp
  simp [execOp, hop, hl, hc, hrun, Result.andThen]
  exact hK _ _ h
theorem wpList_copy_run {P : Program} {ops : Array Oper} {rest : List Oper} {o : Oper} {a : Act} {w : World} {Q : Exit → Act → World → Prop} (hg : o.guard = none) (s x : Operand) (t u : TypeId) (hop : o.op = Op.call { callee := Callee.builtin Builtin.copy, args := #[s, x], argTypes := #[t, u] })
    (vs vx v' : Value) (w' : World) (hs : a.eval s = vs) (hx : a.eval x = vx) (hrun : (Builtin.copy_ #[t, u] o.type #[vs, vx]).run P w = .ok v' w') (h : wpList P ops Q rest (a.put o.dst v') w') : wpList P ops Q (o :: rest) a w := by
  refine wpList_plain hg fun K hK => ?_
  unfold Oper.wp
  simp [execOp, hop, resolve, invoke, builtin, hs, hx, hrun, Result.andThen]
  exact hK _ _ h
theorem run_copy_digs (w : World) (ty : TypeId) (g n dCap sCap : Nat) (a : Addr) (cur : Array Value) (cs : List Value) (hg : w.heap[g]? = some (.cells cur 30 (0, 0))) (hn : cs.length = n * 32)
    (hsrc : ∀ j v, cs[j]? = some v → w.cell? (a.add j) = some v) (hfit : cs.length ≤ cur.size) (h1 : ∀ v ∈ cs, v.oneCell' = true) :
    (Builtin.copy_ #[26, 26] ty #[.slice (some ⟨g, 0, none⟩) n dCap, .slice (some a) n sCap]).run Tryd.prog w = .ok (goInt n) (w.setRow g (cs ++ cur.toList.drop cs.length).toArray) := by
  have hl := run_loadCells_list (P := Tryd.prog) w a cs hsrc
  have hst := run_storeCells_at Tryd.prog g 0 30 cs 0 cur w hg (by simpa using hfit) h1
  simp only [Nat.zero_add, List.take_zero, List.nil_append] at hst
  rw [hn] at hl
  simp [Builtin.copy_, run_underlying Tryd.underlying26, Builtin.lenOf, Builtin.firstCells, sizeOfD, hl, hst]
theorem run_copy_empty (w : World) (ty : TypeId) (g dCap sCap : Nat) (a : Option Addr) :
    (Builtin.copy_ #[26, 26] ty #[.slice (some ⟨g, 0, none⟩) 0 dCap, .slice a 0 sCap]).run Tryd.prog w = .ok (goInt 0) w := by
  have hl : ∀ (x : Addr), (loadCells x 0).run Tryd.prog w = .ok #[] w := fun x => by simpa using run_loadCells_list (P := Tryd.prog) w x [] (by simp)
  cases a <;> simp [Builtin.copy_, run_underlying Tryd.underlying26, Builtin.lenOf, Builtin.firstCells, sizeOfD, storeCells, hl]
/-- Room for one more is made, and the peaks are laid there. -/
theorem run_laid (W : World) (B : Nat) (a : Option Addr) (len cap : Nat) (ps : List (List UInt8)) (hR : LReads W a len cap ps) (hl : len ≤ 100000) (hB : B ≤ W.heap.size) (ty : TypeId) :
    ∃ w1 w2, (Instr.makeSlice 26 (.int .i64 len) (.int .i64 ((len : Int) + 1))).run Tryd.prog W = .ok (.slice (some ⟨W.heap.size, 0, none⟩) len (len + 1)) w1 ∧ Below W.heap.size W w1 ∧
      (Builtin.copy_ #[26, 26] ty #[.slice (some ⟨W.heap.size, 0, none⟩) len (len + 1), .slice a len cap]).run Tryd.prog w1 = .ok (goInt len) w2 ∧
      w2.ownsRow B 30 32 (.slice (some ⟨W.heap.size, 0, none⟩) len (len + 1)) ps.length (cellsOf ps.flatten) ∧ Below W.heap.size W w2 := by
  obtain ⟨i0, hi, hz0, hz1, hz2⟩ := info_parts infoD
  have hlen := hR.1
  have hfl := flat_length hR.2.1
  have hr := run_makeSlice (P := Tryd.prog) W 26 30 i0 _ Tryd.underlying26 hi hz0 .i64 .i64 len ((len : Int) + 1) (by omega) (by omega) (by rw [hz1]; omega) (by rw [hz2]; omega) (by omega)
  rw [Int.toNat_natCast, show ((len : Int) + 1).toNat = len + 1 by omega, hz1] at hr
  obtain ⟨cur, hcur⟩ : ∃ cur, cur = madeCells (Value.agg (cellsOf (List.replicate 32 0)).toArray).cells ((len + 1) * 32) := ⟨_, rfl⟩
  have hcs : cur.size = (len + 1) * 32 := by rw [hcur]; exact size_madeCells _ _
  rw [← hcur] at hr
  have hb : Below W.heap.size W (W.alloc (.cells cur 30)) := (Below.refl _ _).alloc (Nat.le_refl _) _
  have hgn := heap_alloc_new W (.cells cur 30)
  by_cases h0 : len = 0
  · have hps : ps = [] := List.eq_nil_of_length_eq_zero (by omega)
    subst hps h0
    refine ⟨_, _, hr, hb, run_copy_empty _ ty _ _ _ _, ⟨by simp [cellsOf], .inr ⟨_, 1, cur, rfl, hB, hgn, by simp, by unfold maxLen; omega, hcs, by simp [cellsOf]⟩⟩, hb⟩
  · obtain ⟨g, o, rfl, hg⟩ := hR.at (by omega)
    have hsrc : ∀ j v, (cellsOf ps.flatten)[j]? = some v → (W.alloc (.cells cur 30)).cell? ((⟨g, o, none⟩ : Addr).add j) = some v := by
      intro j u hj
      rw [add_plain]
      obtain ⟨h1, h2, h3, h4, h5⟩ := hR.keep hb
      rcases h5 with h5 | ⟨g', o', e, hly⟩
      · omega
      · cases e
        have hjl : j < ps.flatten.length := by
          have := (List.getElem?_eq_some_iff.1 hj).1
          rwa [cellsOf_length] at this
        rw [hly j hjl]
        rw [cellsOf_at _ j hjl] at hj
        exact hj
    have hc := run_copy_digs (W.alloc (.cells cur 30)) ty W.heap.size len (len + 1) cap ⟨g, o, none⟩ cur (cellsOf ps.flatten) hgn (by rw [cellsOf_length]; omega) hsrc (by rw [cellsOf_length]; omega) (cellsOf_one _)
    refine ⟨_, _, hr, hb, hc, ⟨by rw [cellsOf_length]; omega, .inr ⟨_, len + 1, _, by rw [hlen], hB, setRow_heap _ _ _ _ 30 _ hgn, by omega, by unfold maxLen; omega, ?_, ?_⟩⟩, below_setRow hb (Nat.le_refl _) _⟩
    · simp only [List.size_toArray, List.length_append, List.length_drop, Array.length_toList, cellsOf_length, hcs]
      omega
    · simp only [List.toList_toArray]
      rw [List.take_left' (by rw [cellsOf_length]; omega)]
theorem sizeG : (Tryd.prog.info? 58).map (·.size) = some 2 := by kernel_rfl
theorem sizeF : (Tryd.prog.info? 28).map (·.size) = some 2 := by kernel_rfl
set_option maxHeartbeats 2000000 in
theorem grown_any (n : Int) (a : Option Addr) (len cap : Nat) (ps : List (List UInt8)) (w : World) (hR : LReads w a len cap ps) (hl : len ≤ 100000) :
    Calls Tryd.prog 20 #[.agg #[.int .i64 n, .slice a len cap]] w fun e w' => ∃ g, e = .returned (.agg #[.int .i64 n, .slice (some ⟨g, 0, none⟩) len (len + 1)]) ∧ w'.ownsRow w.heap.size 30 32 (.slice (some ⟨g, 0, none⟩) len (len + 1)) ps.length (cellsOf ps.flatten) ∧ Below w.heap.size w w' := by
  obtain ⟨W, hW⟩ : ∃ W, W = ((w.alloc (.cells #[.int .i64 n, .slice a len cap] 28)).alloc (.cells #[.int .i64 0, .slice none 0 0] 58)) := ⟨_, rfl⟩
  have hb0 : Below w.heap.size w W := by rw [hW]; exact (((Below.refl _ _).alloc (Nat.le_refl _) _).alloc (by simp) _)
  have hT : Two W w.heap.size (.int .i64 n) (.slice a len cap) := by rw [hW]; exact (two_new w _ _ 28).keep ((Below.refl _ _).alloc (Nat.le_refl _) _)
  have hV : W.heap[w.heap.size + 1]? = some (.cells #[.int .i64 0, .slice none 0 0] 58 (0, 0)) := by
    rw [hW]
    have := heap_alloc_new (w.alloc (.cells #[.int .i64 n, .slice a len cap] 28)) (.cells #[.int .i64 0, .slice none 0 0] 58)
    simpa using this
  have hs : W.heap.size = w.heap.size + 2 := by rw [hW]; simp
  obtain ⟨w1, w2, hmk, hb1, hcp, hown, hb2⟩ := run_laid W w.heap.size a len cap ps (hR.keep hb0) hl (by omega) 3
  have HMK := hidk hmk
  have HCP := hidk hcp
  have hcA : w1.cell? ⟨w.heap.size, 1, none⟩ = some (.slice a len cap) := (hT.keep hb1).2
  have hcB : w2.cell? ⟨w.heap.size, 0, none⟩ = some (.int .i64 n) := (hT.keep hb2).1
  have HV : Hid (w2.heap[w.heap.size + 1]? = some (.cells #[.int .i64 0, .slice none 0 0] 58 (0, 0))) := (hb2.block _ (heap_lt hV)).trans hV
  have HB : Hid (Below w.heap.size w (w2.setRow (w.heap.size + 1) #[.int .i64 n, .slice (some ⟨W.heap.size, 0, none⟩) len (len + 1)])) := below_setRow (hb0.trans (hb2.mono (by omega))) (by omega) _
  have HO : Hid ((w2.setRow (w.heap.size + 1) #[.int .i64 n, .slice (some ⟨W.heap.size, 0, none⟩) len (len + 1)]).ownsRow w.heap.size 30 32 (.slice (some ⟨W.heap.size, 0, none⟩) len (len + 1)) ps.length (cellsOf ps.flatten)) := by
    rcases hown.2 with ⟨e, _⟩ | ⟨g, cp, cur, e, h1, h2, h3⟩
    · cases e
    · cases e
      exact ⟨hown.1, .inr ⟨_, _, cur, rfl, h1, by rw [setRow_other _ _ _ _ (by omega)]; exact h2, h3⟩⟩
  obtain ⟨R, HRR⟩ : ∃ R : Array Value, Hid (R = #[.int .i64 n, .slice (some ⟨W.heap.size, 0, none⟩) len (len + 1)]) := ⟨_, (rfl : _ = _)⟩
  have HS : Hid ((Tryd.prog.info? 58).map (·.size) = some R.size) := by show _ = _; rw [HRR.out, sizeG]; rfl
  have H2 : Hid ((#[.int .i64 0, .slice none 0 0] : Array Value).size = R.size) := by show _ = _; rw [HRR.out]; rfl
  have H1 : Hid (R.all (·.oneCell') = true) := by show _ = _; rw [HRR.out]; simp [Value.oneCell']
  rw [← HRR.out] at HB HO
  have w0 := wrap_int ((len : Int) + 1) (by omega) (by omega)
  generalize W.heap.size = gw at *
  have HRE : Hid (Value.agg #[.int .i64 n, .slice (some ⟨gw, 0, none⟩) len (len + 1)] = .agg R) := by show _ = _; rw [HRR.out]
  clear hR hT hV hs hmk hb1 hcp hown hb2 hb0
  subst hW
  go_enter Tryd.func20, Tryd.ntmps20
  go_wp2_with (first
    | (refine wpList_make_run rfl (.tmp 6) (.tmp 10) 26 rfl _ _ _ w1 rfl rfl HMK.out ?_; try simp only [Act.put, List.setIfInBounds_toArray, List.set_cons_zero, List.set_cons_succ])
    | (refine wpList_copy_run rfl (.tmp 12) (.tmp 14) 26 26 rfl _ _ _ w2 rfl rfl HCP.out ?_; try simp only [Act.put, List.setIfInBounds_toArray, List.set_cons_zero, List.set_cons_succ])
    | (refine wpList_store_row rfl 58 (.tmp 2) (.tmp 20) rfl (w.heap.size + 1) R rfl HRE.out 58 #[.int .i64 0, .slice none 0 0] HV.out HS.out H2.out H1.out ?_; try simp only [Act.put, List.setIfInBounds_toArray, List.set_cons_zero, List.set_cons_succ])
    | fail)
  refine bodyPost_ret (v := .agg R) ?_ rfl ⟨gw, by rw [HRR.out], HO.out, HB.out⟩
  exact results_cell_row (p := 2) (ty := 58) rfl _ _ (w.heap.size + 1) 58 R (0, 0) _ rfl (setRow_heap _ _ _ _ 58 _ HV.out) Tryd.underlying58 rfl HS.out
end Go.Proofs.YtdnhnjimhbbababDoor
