/- Texts of our own that the row of EntryItems leans on, part 22. -/
import Derived.Test.YtgkfodmccfnaoaaDoorEntryItemsJ15
import Derived.Test.YtgkfodmccfnaoaaDoorEntryItemsJ20
import Derived.Lib.BufferWrite
import Derived.OpenShut
import Derived.ChangeArms

/- What entry.PutClaim answers. -/
namespace Go.Proofs.YtgkfodmccfnaoaaDoor
open Go.RowKit Sums Nums
set_option linter.unusedVariables false
set_option linter.unusedSimpArgs false
set_option maxRecDepth 100000
theorem eReads_no (w : World) : Reads w none 0 0 [] := ⟨rfl, Nat.le_refl _, by decide, .inl ⟨rfl, rfl⟩⟩
theorem eBytes_no (w : World) (E : Int) : BytesE [] E (.returned (.tuple #[.slice none 0 0, .int .i64 E])) w := ⟨none, 0, rfl, eReads_no w⟩
theorem eRow_ok {fs : List (Int × ByteArray)} (h : layE 0 fs = 0) : rowOf fs = rowB fs := by unfold rowOf; rw [if_pos h]
/-- A literal row of fields is laid. -/
theorem eLay_lit (W : World) (cs : Array Value) (fs : List (Int × ByteArray)) (n : Nat) (l : List UInt8) (hcs : cs.toList = fcells fs) (hn : fs.length = n) (h4 : n ≤ 400) (hm : ∀ f ∈ fs, f.2.size ≤ maxLen) (hk : layE 0 fs = 0) (hl : rowB fs = l) :
    Calls Tryd.prog 21 #[.slice (some ⟨W.heap.size, 0, none⟩) n n] (W.alloc (.cells cs 56)) fun e w' => ∃ a c, e = .returned (.tuple #[.slice a l.length c, .int .i64 0]) ∧ Reads w' a l.length c l ∧ Below W.heap.size W w' := by
  subst hn
  have hF := freads_lit W cs (0, 0) fs hcs (by omega) hm
  rw [← alloc_size W (.cells cs 56)] at hF
  refine (lay_reads (some ⟨W.heap.size, 0, none⟩) fs.length fs.length fs _ hF h4 (k := 0) (l := l) hk (by rw [eRow_ok hk, hl])).mono ?_
  rintro e w' ⟨a, c, he, hrd, hb⟩
  exact ⟨a, c, he, hrd, ((Below.refl _ _).alloc (Nat.le_refl _) _).trans (hb.mono (by simp))⟩
set_option maxHeartbeats 2000000 in
theorem ePutC_no (c : ClT) (hd : c.d.length = 32) (hr : rightC c = false) (w : World) (C : Array Value) (HC : Hid (C = (ccells c).toArray)) :
    Calls Tryd.prog 18 #[.agg C] w fun e w' => BytesE [] 60 e w' ∧ Below w.heap.size w w' := by
  have HSC : Hid ((Tryd.prog.info? 30).map (·.size) = some C.size) := by show _ = _; rw [sizeC, HC.out]; simp [ccells_length c hd]
  have HR : Hid ((w.alloc (.cells C 30)).heap[w.heap.size]? = some (.cells C 30 (0, 0))) := heap_alloc_new w _
  have HB : Hid (Below w.heap.size w (w.alloc (.cells C 30))) := (Below.refl _ _).alloc (Nat.le_refl _) _
  have K1 : Hid (∀ W, Calls Tryd.prog 36 #[.agg C] W fun e w' => e = .returned (.int .i64 60) ∧ Below W.heap.size W w') := fun W => by
    have := eCheckC_any c W C HC
    rwa [show cE c = 60 by unfold cE; rw [hr]; rfl] at this
  clear HC hr
  go_enter Tryd.func18, Tryd.ntmps18
  go_wp2_with (first
    | (show wpList _ _ _ ({ dst := some 5, op := _, type := _, pos := _, after := _, guard := _ } :: _) _ _; refine wpList_load_row rfl 30 (.tmp 1) rfl w.heap.size rfl 30 C (0, 0) _ HR.out Tryd.underlying30 rfl HSC.out ?_; try simp only [Act.put, List.setIfInBounds_toArray, List.set_cons_zero, List.set_cons_succ])
    | fail)
  refine (K1.out _).mono ?_
  rintro e w1 ⟨rfl, hb1⟩
  have HB1 := hidk (HB.out.trans (hb1.mono HB.out.size))
  clear hb1
  go_wp2
  go_ret2
  exact ⟨eBytes_no _ _, HB1.out⟩
set_option maxHeartbeats 8000000 in
theorem ePutC_yes (c : ClT) (hd : c.d.length = 32) (hr : rightC c = true) (w : World) (C : Array Value) (HC : Hid (C = (ccells c).toArray)) :
    Calls Tryd.prog 18 #[.agg C] w fun e w' => BytesE (claimB c) 0 e w' ∧ Below w.heap.size w w' := by
  have HSC : Hid ((Tryd.prog.info? 30).map (·.size) = some C.size) := by show _ = _; rw [sizeC, HC.out]; simp [ccells_length c hd]
  have HRW : Hid ((w.alloc (.cells C 30)).heap[w.heap.size]? = some (.cells C 30 (0, 0))) := heap_alloc_new w _
  have K1 : Hid (∀ W, Calls Tryd.prog 36 #[.agg C] W fun e w' => e = .returned (.int .i64 0) ∧ Below W.heap.size W w') := fun W => by
    have := eCheckC_any c W C HC
    rwa [show cE c = 0 by unfold cE; rw [hr]; rfl] at this
  obtain ⟨r, Hr⟩ : ∃ r, Hid (r = c.r) := ⟨c.r, hidk rfl⟩
  obtain ⟨e, He⟩ : ∃ r, Hid (r = c.e) := ⟨c.e, hidk rfl⟩
  obtain ⟨n, Hn⟩ : ∃ r, Hid (r = c.n) := ⟨c.n, hidk rfl⟩
  obtain ⟨s, Hs⟩ : ∃ r, Hid (r = c.s) := ⟨c.s, hidk rfl⟩
  obtain ⟨n1, Hn1⟩ : ∃ s : ByteArray, Hid (s = nOf r) := ⟨nOf r, hidk rfl⟩
  obtain ⟨n2, Hn2⟩ : ∃ s : ByteArray, Hid (s = nOf e) := ⟨nOf e, hidk rfl⟩
  obtain ⟨n3, Hn3⟩ : ∃ x : ByteArray, Hid (x = nOf n) := ⟨nOf n, hidk rfl⟩
  obtain ⟨n4, Hn4⟩ : ∃ x : ByteArray, Hid (x = nOf s) := ⟨nOf s, hidk rfl⟩
  obtain ⟨x5, HX⟩ : ∃ x : ByteArray, Hid (x = bA c.d) := ⟨bA c.d, hidk rfl⟩
  obtain ⟨l, Hl⟩ : ∃ l, Hid (l = claimB c) := ⟨claimB c, hidk rfl⟩
  have N1 : Hid (∀ W, Calls Tryd.prog 20 #[.int .i64 1, .int .i64 r] W fun e w' => e = .returned (.agg #[.int .i64 1, .string n1]) ∧ Below W.heap.size W w') := fun W => by rw [Hn1.out]; exact eNum_any 1 r W
  have N2 : Hid (∀ W, Calls Tryd.prog 20 #[.int .i64 2, .int .i64 e] W fun e w' => e = .returned (.agg #[.int .i64 2, .string n2]) ∧ Below W.heap.size W w') := fun W => by rw [Hn2.out]; exact eNum_any 2 e W
  have N3 : Hid (∀ W, Calls Tryd.prog 20 #[.int .i64 3, .int .i64 n] W fun e w' => e = .returned (.agg #[.int .i64 3, .string n3]) ∧ Below W.heap.size W w') := fun W => by rw [Hn3.out]; exact eNum_any 3 n W
  have N4 : Hid (∀ W, Calls Tryd.prog 20 #[.int .i64 4, .int .i64 s] W fun e w' => e = .returned (.agg #[.int .i64 4, .string n4]) ∧ Below W.heap.size W w') := fun W => by rw [Hn4.out]; exact eNum_any 4 s W
  have hL5 : fieldsN (cL c) = [(1, n1), (2, n2), (3, n3), (4, n4), (5, x5)] := by rw [Hn1.out, Hn2.out, Hn3.out, Hn4.out, HX.out, Hr.out, He.out, Hn.out, Hs.out]; rfl
  have LY : Hid (∀ W, Calls Tryd.prog 21 #[.slice (some ⟨W.heap.size, 0, none⟩) 5 5] (W.alloc (.cells #[.int .i64 1, .string n1, .int .i64 2, .string n2, .int .i64 3, .string n3, .int .i64 4, .string n4, .int .i64 5, .string x5] 56)) fun e w' => ∃ a c, e = .returned (.tuple #[.slice a l.length c, .int .i64 0]) ∧ Reads w' a l.length c l ∧ Below W.heap.size W w') := fun W => by
    have hk := layE_cL c hd
    rw [hL5] at hk
    refine eLay_lit W _ [((1 : Int), n1), (2, n2), (3, n3), (4, n4), (5, x5)] 5 l rfl rfl (by omega) (fun y hy => ?_) hk (by rw [Hl.out, ← hL5]; rfl)
    simp only [List.mem_cons, List.not_mem_nil, or_false] at hy
    unfold maxLen
    rcases hy with rfl | rfl | rfl | rfl | rfl
    · have := nOf_size r; rw [← Hn1.out] at this; show n1.size ≤ _; omega
    · have := nOf_size e; rw [← Hn2.out] at this; show n2.size ≤ _; omega
    · have := nOf_size n; rw [← Hn3.out] at this; show n3.size ≤ _; omega
    · have := nOf_size s; rw [← Hn4.out] at this; show n4.size ≤ _; omega
    · have := bA_size c.d; rw [← HX.out] at this; show x5.size ≤ _; omega
  have CV : Hid (∀ W, CRow W w.heap.size 0 c → Sem.run Tryd.prog (convert 33 9 (.slice (some ⟨w.heap.size, 4, none⟩) 32 32)) W = .ok (.string x5) W) := fun W h => by
    rw [HX.out]
    exact conv_at W w.heap.size 4 c.d hd (by have := h.d; rwa [Nat.zero_add] at this)
  have HR := hidk (crow_new w c C HC 30)
  have HB : Hid (Below w.heap.size w (w.alloc (.cells C 30))) := (Below.refl _ _).alloc (Nat.le_refl _) _
  have hsl := slice_at
  rw [← Hl.out]
  clear HC HX hL5 Hn1 Hn2 Hn3 Hn4 Hl hr
  go_enter Tryd.func18, Tryd.ntmps18
  go_wp2_with (first
    | (show wpList _ _ _ ({ dst := some 5, op := _, type := _, pos := _, after := _, guard := _ } :: _) _ _; refine wpList_load_row rfl 30 (.tmp 1) rfl w.heap.size rfl 30 C (0, 0) _ HRW.out Tryd.underlying30 rfl HSC.out ?_; try simp only [Act.put, List.setIfInBounds_toArray, List.set_cons_zero, List.set_cons_succ])
    | fail)
  refine (K1.out _).mono ?_
  rintro e w0 ⟨rfl, hb0⟩
  have HB0 := hidk (HB.out.trans (hb0.mono HB.out.size))
  have HR0 := hidk (HR.out.keep hb0)
  clear hb0 HB HR HRW K1
  go_wp2
  refine wp_region_held_drew (S := (fun W => CRow W w.heap.size 0 c)) (by kernel_rfl) (show CRow w0.drew w.heap.size 0 c from HR0.out.keep (Below.refl _ _).drew) (fun hHeld => ?_)
  refine wpAnyH_take (i := 0) (oi := { dst := some 10, op := Op.fieldAddr 30 (Operand.tmp 1) 0, type := 0, pos := "entry.go:53", after := #[], guard := none }) (v := .pointer (some ⟨w.heap.size, 0, none⟩)) rfl (by kernel_rfl) (by kernel_rfl) (by kernel_rfl) (fun _ _ _ h => h) (Or.inl ⟨by rfl, by intro W hSw; go_simp⟩) hHeld ?_
  try simp only [Act.put, List.setIfInBounds_toArray, List.set_cons_zero, List.set_cons_succ]
  refine wpAnyH_take (i := 1) (oi := { dst := some 11, op := Op.load 3 (Operand.tmp 10), type := 3, pos := "entry.go:53", after := #[{ on := 0, ground := Ground.data }], guard := none }) (v := .int .i64 r) rfl (by kernel_rfl) (by kernel_rfl) (by kernel_rfl) (fun _ _ _ h => h) (Or.inl ⟨by rfl, by intro W hSw; have h1 := hSw.r; rw [← Hr.out] at h1; go_simp⟩) hHeld ?_
  try simp only [Act.put, List.setIfInBounds_toArray, List.set_cons_zero, List.set_cons_succ]
  refine wpAnyH_take (i := 3) (oi := { dst := some 13, op := Op.fieldAddr 30 (Operand.tmp 1) 1, type := 0, pos := "entry.go:53", after := #[], guard := none }) (v := .pointer (some ⟨w.heap.size, 1, none⟩)) rfl (by kernel_rfl) (by kernel_rfl) (by kernel_rfl) (fun _ _ _ h => h) (Or.inl ⟨by rfl, by intro W hSw; go_simp⟩) hHeld ?_
  try simp only [Act.put, List.setIfInBounds_toArray, List.set_cons_zero, List.set_cons_succ]
  refine wpAnyH_take (i := 4) (oi := { dst := some 14, op := Op.load 3 (Operand.tmp 13), type := 3, pos := "entry.go:53", after := #[{ on := 3, ground := Ground.data }], guard := none }) (v := .int .i64 e) rfl (by kernel_rfl) (by kernel_rfl) (by kernel_rfl) (fun _ _ _ h => h) (Or.inl ⟨by rfl, by intro W hSw; have h1 := hSw.e; rw [← He.out, Nat.zero_add] at h1; go_simp⟩) hHeld ?_
  try simp only [Act.put, List.setIfInBounds_toArray, List.set_cons_zero, List.set_cons_succ]
  refine wpAnyH_take (i := 6) (oi := { dst := some 16, op := Op.fieldAddr 30 (Operand.tmp 1) 2, type := 0, pos := "entry.go:53", after := #[], guard := none }) (v := .pointer (some ⟨w.heap.size, 2, none⟩)) rfl (by kernel_rfl) (by kernel_rfl) (by kernel_rfl) (fun _ _ _ h => h) (Or.inl ⟨by rfl, by intro W hSw; go_simp⟩) hHeld ?_
  try simp only [Act.put, List.setIfInBounds_toArray, List.set_cons_zero, List.set_cons_succ]
  refine wpAnyH_take (i := 7) (oi := { dst := some 17, op := Op.load 3 (Operand.tmp 16), type := 3, pos := "entry.go:53", after := #[{ on := 6, ground := Ground.data }], guard := none }) (v := .int .i64 n) rfl (by kernel_rfl) (by kernel_rfl) (by kernel_rfl) (fun _ _ _ h => h) (Or.inl ⟨by rfl, by intro W hSw; have h1 := hSw.n; rw [← Hn.out, Nat.zero_add] at h1; go_simp⟩) hHeld ?_
  try simp only [Act.put, List.setIfInBounds_toArray, List.set_cons_zero, List.set_cons_succ]
  refine wpAnyH_take (i := 9) (oi := { dst := some 19, op := Op.fieldAddr 30 (Operand.tmp 1) 3, type := 0, pos := "entry.go:53", after := #[], guard := none }) (v := .pointer (some ⟨w.heap.size, 3, none⟩)) rfl (by kernel_rfl) (by kernel_rfl) (by kernel_rfl) (fun _ _ _ h => h) (Or.inl ⟨by rfl, by intro W hSw; go_simp⟩) hHeld ?_
  try simp only [Act.put, List.setIfInBounds_toArray, List.set_cons_zero, List.set_cons_succ]
  refine wpAnyH_take (i := 10) (oi := { dst := some 20, op := Op.load 3 (Operand.tmp 19), type := 3, pos := "entry.go:53", after := #[{ on := 9, ground := Ground.data }], guard := none }) (v := .int .i64 s) rfl (by kernel_rfl) (by kernel_rfl) (by kernel_rfl) (fun _ _ _ h => h) (Or.inl ⟨by rfl, by intro W hSw; have h1 := hSw.s; rw [← Hs.out, Nat.zero_add] at h1; go_simp⟩) hHeld ?_
  try simp only [Act.put, List.setIfInBounds_toArray, List.set_cons_zero, List.set_cons_succ]
  refine wpAnyH_take (i := 12) (oi := { dst := some 22, op := Op.fieldAddr 30 (Operand.tmp 1) 4, type := 0, pos := "entry.go:53", after := #[], guard := none }) (v := .pointer (some ⟨w.heap.size, 4, none⟩)) rfl (by kernel_rfl) (by kernel_rfl) (by kernel_rfl) (fun _ _ _ h => h) (Or.inl ⟨by rfl, by intro W hSw; go_simp⟩) hHeld ?_
  try simp only [Act.put, List.setIfInBounds_toArray, List.set_cons_zero, List.set_cons_succ]
  refine wpAnyH_take (i := 13) (oi := { dst := some 23, op := Op.slice 24 (Operand.tmp 22) none none none, type := 33, pos := "entry.go:53", after := #[{ on := 12, ground := Ground.data }], guard := none }) (v := .slice (some ⟨w.heap.size, 4, none⟩) 32 32) rfl (by kernel_rfl) (by kernel_rfl) (by kernel_rfl) (fun _ _ _ h => h) (Or.inl ⟨by rfl, by intro W hSw; have := hsl W w.heap.size 4; go_simp⟩) hHeld ?_
  try simp only [Act.put, List.setIfInBounds_toArray, List.set_cons_zero, List.set_cons_succ]
  refine wpAnyH_take (i := 14) (oi := { dst := some 24, op := Op.convert 33 9 (Operand.tmp 23), type := 9, pos := "entry.go:53", after := #[{ on := 13, ground := Ground.data }], guard := none }) (v := .string x5) rfl (by kernel_rfl) (by kernel_rfl) (by kernel_rfl) (fun _ _ _ h => h) (Or.inl ⟨by rfl, by intro W hSw; have := CV.out W hSw; go_simp⟩) hHeld ?_
  try simp only [Act.put, List.setIfInBounds_toArray, List.set_cons_zero, List.set_cons_succ]
  refine wpAnyH_take (i := 15) (oi := { dst := some 25, op := Op.build 56 #[(0, Operand.const (Value.int IntKind.i64 5)), (1, Operand.tmp 24)], type := 56, pos := "entry.go:53", after := #[{ on := 14, ground := Ground.data }], guard := none }) (v := .agg #[.int .i64 5, .string x5]) rfl (by kernel_rfl) (by kernel_rfl) (by kernel_rfl) (fun _ _ _ h => h) (Or.inl ⟨by rfl, by intro W hSw; go_simp⟩) hHeld ?_
  try simp only [Act.put, List.setIfInBounds_toArray, List.set_cons_zero, List.set_cons_succ]
  refine wpAnyH_ready (rs := [2]) (by kernel_rfl) (by simp) ?_
  refine (AllReadyH.cons (o := { dst := some 12, op := Op.call { callee := Callee.value (Operand.func 20), args := #[Operand.const (Value.int IntKind.i64 1), Operand.tmp 11], argTypes := #[3, 3] }, type := 56, pos := "entry.go:54", after := #[{ on := 1, ground := Ground.data }], guard := none }) rfl (fun K hK => ?_) AllReadyH.nil)
  go_simp
  refine (N1.out _).mono ?_
  rintro e w2 ⟨rfl, hb1⟩
  have HB1 := hidk (HB0.out.drew.trans (hb1.mono HB0.out.size))
  go_wp2_with fail
  refine hK.out _ _ (hHeld.keep hb1) (fun hHeld => ?_)
  clear hK K
  try simp only [Act.put, List.setIfInBounds_toArray, List.set_cons_zero, List.set_cons_succ]
  refine wpAnyH_ready (rs := [5]) (by kernel_rfl) (by simp) ?_
  refine (AllReadyH.cons (o := { dst := some 15, op := Op.call { callee := Callee.value (Operand.func 20), args := #[Operand.const (Value.int IntKind.i64 2), Operand.tmp 14], argTypes := #[3, 3] }, type := 56, pos := "entry.go:55", after := #[{ on := 4, ground := Ground.data }, { on := 2, ground := Ground.chain }], guard := none }) rfl (fun K hK => ?_) AllReadyH.nil)
  go_simp
  refine (N2.out _).mono ?_
  rintro e w5 ⟨rfl, hb2⟩
  have HB2 := hidk (HB1.out.trans (hb2.mono HB1.out.size))
  go_wp2_with fail
  refine hK.out _ _ (hHeld.keep hb2) (fun hHeld => ?_)
  clear hK K
  try simp only [Act.put, List.setIfInBounds_toArray, List.set_cons_zero, List.set_cons_succ]
  refine wpAnyH_ready (rs := [8]) (by kernel_rfl) (by simp) ?_
  refine (AllReadyH.cons (o := { dst := some 18, op := Op.call { callee := Callee.value (Operand.func 20), args := #[Operand.const (Value.int IntKind.i64 3), Operand.tmp 17], argTypes := #[3, 3] }, type := 56, pos := "entry.go:56", after := #[{ on := 7, ground := Ground.data }, { on := 5, ground := Ground.chain }], guard := none }) rfl (fun K hK => ?_) AllReadyH.nil)
  go_simp
  refine (N3.out _).mono ?_
  rintro e w8 ⟨rfl, hb3⟩
  have HB3 := hidk (HB2.out.trans (hb3.mono HB2.out.size))
  go_wp2_with fail
  refine hK.out _ _ (hHeld.keep hb3) (fun hHeld => ?_)
  clear hK K
  try simp only [Act.put, List.setIfInBounds_toArray, List.set_cons_zero, List.set_cons_succ]
  refine wpAnyH_ready (rs := [11]) (by kernel_rfl) (by simp) ?_
  refine (AllReadyH.cons (o := { dst := some 21, op := Op.call { callee := Callee.value (Operand.func 20), args := #[Operand.const (Value.int IntKind.i64 4), Operand.tmp 20], argTypes := #[3, 3] }, type := 56, pos := "entry.go:57", after := #[{ on := 10, ground := Ground.data }, { on := 8, ground := Ground.chain }], guard := none }) rfl (fun K hK => ?_) AllReadyH.nil)
  go_simp
  refine (N4.out _).mono ?_
  rintro e w11 ⟨rfl, hb4⟩
  have HB4 := hidk (HB3.out.trans (hb4.mono HB3.out.size))
  go_wp2_with fail
  refine hK.out _ _ (hHeld.keep hb4) (fun hHeld => ?_)
  clear hK K
  try simp only [Act.put, List.setIfInBounds_toArray, List.set_cons_zero, List.set_cons_succ]
  refine wpAnyH_ready (rs := [16]) (by kernel_rfl) (by simp) ?_
  refine (AllReadyH.cons (o := { dst := some 26, op := Op.buildSlice 58 5 #[(0, Operand.tmp 12), (1, Operand.tmp 15), (2, Operand.tmp 18), (3, Operand.tmp 21), (4, Operand.tmp 25)], type := 58, pos := "entry.go:53", after := #[{ on := 2, ground := Ground.data }, { on := 5, ground := Ground.data }, { on := 8, ground := Ground.data }, { on := 11, ground := Ground.data }, { on := 15, ground := Ground.data }], guard := none }) rfl (fun K hK => ?_) AllReadyH.nil)
  have HR14 := hidk hHeld
  go_simp
  refine hK.out _ _ (hHeld.keep ((Below.refl _ _).alloc (Nat.le_refl _) _)) (fun hHeld => ?_)
  clear hK K
  try simp only [Act.put, List.setIfInBounds_toArray, List.set_cons_zero, List.set_cons_succ]
  refine wpAnyH_ready (rs := [17]) (by kernel_rfl) (by simp) ?_
  refine (AllReadyH.cons (o := { dst := some 27, op := Op.call { callee := Callee.value (Operand.func 21), args := #[Operand.tmp 26], argTypes := #[58] }, type := 35, pos := "entry.go:53", after := #[{ on := 16, ground := Ground.data }, { on := 11, ground := Ground.chain }], guard := none }) rfl (fun K hK => ?_) AllReadyH.nil)
  go_simp
  refine (LY.out _).mono ?_
  rintro e w17 ⟨a17, c17, rfl, hrd, hb6⟩
  have HRD := hidk hrd
  have HBF := hidk (HB4.out.trans (hb6.mono HB4.out.size))
  go_wp2_with fail
  refine hK.out _ _ (HR14.out.keep hb6) (fun hHeld => ?_)
  clear hK K
  try simp only [Act.put, List.setIfInBounds_toArray, List.set_cons_zero, List.set_cons_succ]
  refine wpAnyH_take (i := 18) (oi := { dst := some 28, op := Op.extract (Operand.tmp 27) 0, type := 33, pos := "entry.go:53", after := #[{ on := 17, ground := Ground.data }], guard := none }) (v := .slice a17 l.length c17) rfl (by kernel_rfl) (by kernel_rfl) (by kernel_rfl) (fun _ _ _ h => h) (Or.inl ⟨by rfl, by intro W hSw; go_simp⟩) hHeld ?_
  try simp only [Act.put, List.setIfInBounds_toArray, List.set_cons_zero, List.set_cons_succ]
  refine wpAnyH_take (i := 19) (oi := { dst := some 29, op := Op.extract (Operand.tmp 27) 1, type := 34, pos := "entry.go:53", after := #[{ on := 17, ground := Ground.data }], guard := none }) (v := .int .i64 0) rfl (by kernel_rfl) (by kernel_rfl) (by kernel_rfl) (fun _ _ _ h => h) (Or.inl ⟨by rfl, by intro W hSw; go_simp⟩) hHeld ?_
  try simp only [Act.put, List.setIfInBounds_toArray, List.set_cons_zero, List.set_cons_succ]
  refine wpAnyH_take (i := 20) (oi := { dst := some 2, op := Op.assign (Operand.tmp 28), type := 33, pos := "entry.go:53", after := #[{ on := 18, ground := Ground.data }, { on := 17, ground := Ground.chain }, { on := 0, ground := Ground.phase }, { on := 1, ground := Ground.phase }, { on := 2, ground := Ground.phase }, { on := 3, ground := Ground.phase }, { on := 4, ground := Ground.phase }, { on := 5, ground := Ground.phase }, { on := 6, ground := Ground.phase }, { on := 7, ground := Ground.phase }, { on := 8, ground := Ground.phase }, { on := 9, ground := Ground.phase }, { on := 10, ground := Ground.phase }, { on := 11, ground := Ground.phase }, { on := 12, ground := Ground.phase }, { on := 13, ground := Ground.phase }, { on := 14, ground := Ground.phase }, { on := 15, ground := Ground.phase }, { on := 16, ground := Ground.phase }, { on := 17, ground := Ground.phase }, { on := 18, ground := Ground.phase }, { on := 19, ground := Ground.phase }], guard := none }) (v := .slice a17 l.length c17) rfl (by kernel_rfl) (by kernel_rfl) (by kernel_rfl) (fun _ _ _ h => h) (Or.inl ⟨by rfl, by intro W hSw; go_simp⟩) hHeld ?_
  try simp only [Act.put, List.setIfInBounds_toArray, List.set_cons_zero, List.set_cons_succ]
  refine wpAnyH_take (i := 21) (oi := { dst := some 3, op := Op.assign (Operand.tmp 29), type := 34, pos := "entry.go:53", after := #[{ on := 19, ground := Ground.data }, { on := 20, ground := Ground.chain }, { on := 0, ground := Ground.phase }, { on := 1, ground := Ground.phase }, { on := 2, ground := Ground.phase }, { on := 3, ground := Ground.phase }, { on := 4, ground := Ground.phase }, { on := 5, ground := Ground.phase }, { on := 6, ground := Ground.phase }, { on := 7, ground := Ground.phase }, { on := 8, ground := Ground.phase }, { on := 9, ground := Ground.phase }, { on := 10, ground := Ground.phase }, { on := 11, ground := Ground.phase }, { on := 12, ground := Ground.phase }, { on := 13, ground := Ground.phase }, { on := 14, ground := Ground.phase }, { on := 15, ground := Ground.phase }, { on := 16, ground := Ground.phase }, { on := 17, ground := Ground.phase }, { on := 18, ground := Ground.phase }, { on := 19, ground := Ground.phase }, { on := 20, ground := Ground.phase }], guard := none }) (v := .int .i64 0) rfl (by kernel_rfl) (by kernel_rfl) (by kernel_rfl) (fun _ _ _ h => h) (Or.inl ⟨by rfl, by intro W hSw; go_simp⟩) hHeld ?_
  try simp only [Act.put, List.setIfInBounds_toArray, List.set_cons_zero, List.set_cons_succ]
  refine wpAnyH_done (by kernel_rfl) ?_ _
  go_wp2
  go_ret2
  exact ⟨⟨_, _, rfl, HRD.out⟩, HBF.out⟩
theorem ePutC_any (c : ClT) (hd : c.d.length = 32) (w : World) (C : Array Value) (HC : Hid (C = (ccells c).toArray)) :
    Calls Tryd.prog 18 #[.agg C] w fun e w' => BytesE (cB c) (cE c) e w' ∧ Below w.heap.size w w' := by
  unfold cB cE
  cases hr : rightC c
  · exact ePutC_no c hd hr w C HC
  · exact ePutC_yes c hd hr w C HC
end Go.Proofs.YtgkfodmccfnaoaaDoor

/- What entry.GetClaim answers. -/
namespace Go.Proofs.YtgkfodmccfnaoaaDoor
open Go.RowKit Sums Nums
set_option linter.unusedVariables false
set_option linter.unusedSimpArgs false
set_option maxRecDepth 100000
set_option maxHeartbeats 8000000 in
theorem eTakeC_any (n₀ : Nat) (a : Option Addr) (len cap : Nat) (fs : List (Int × ByteArray)) (w : World) (hR : FReads n₀ w a len cap fs) (hn : n₀ ≤ w.heap.size) (X : Array Value) (HX : Hid (X = (ccells (takeC fs)).toArray)) :
    Calls Tryd.prog 61 #[.slice a len cap] w fun e w' => e = .returned (.agg X) ∧ Below w.heap.size w w' := by
  obtain ⟨Z, HZ, HA, HBZ, HNZ⟩ := noughtsC
  have hd : (takeC fs).d.length = 32 := fdG_length 5 fs
  have HSX : Hid ((Tryd.prog.info? 30).map (·.size) = some X.size) := by show _ = _; rw [sizeC, HX.out]; simp [ccells_length _ hd]
  have H1X : Hid (X.all (·.oneCell') = true) := by show _ = _; rw [HX.out]; exact one_cellsC _
  have HZX : Hid (Z.size = X.size) := by show _ = _; rw [HNZ.out, HX.out]; simp [ccells_length _ hd]
  obtain ⟨v1, Hv1⟩ : ∃ v, Hid (v = fdN 1 fs) := ⟨_, hidk rfl⟩
  have N1 : Hid (∀ W, Below w.heap.size w W → Calls Tryd.prog 51 #[.slice a len cap, .int .i64 1] W fun e w' => e = .returned (.int .i64 v1) ∧ Below W.heap.size W w') := fun W hb => by rw [Hv1.out]; exact eNumber_any n₀ a len cap fs 1 W (hR.below (hb.mono hn)) (Nat.le_trans hn hb.size)
  obtain ⟨v2, Hv2⟩ : ∃ v, Hid (v = fdN 2 fs) := ⟨_, hidk rfl⟩
  have N2 : Hid (∀ W, Below w.heap.size w W → Calls Tryd.prog 51 #[.slice a len cap, .int .i64 2] W fun e w' => e = .returned (.int .i64 v2) ∧ Below W.heap.size W w') := fun W hb => by rw [Hv2.out]; exact eNumber_any n₀ a len cap fs 2 W (hR.below (hb.mono hn)) (Nat.le_trans hn hb.size)
  obtain ⟨v3, Hv3⟩ : ∃ v, Hid (v = fdN 3 fs) := ⟨_, hidk rfl⟩
  have N3 : Hid (∀ W, Below w.heap.size w W → Calls Tryd.prog 51 #[.slice a len cap, .int .i64 3] W fun e w' => e = .returned (.int .i64 v3) ∧ Below W.heap.size W w') := fun W hb => by rw [Hv3.out]; exact eNumber_any n₀ a len cap fs 3 W (hR.below (hb.mono hn)) (Nat.le_trans hn hb.size)
  obtain ⟨v4, Hv4⟩ : ∃ v, Hid (v = fdN 4 fs) := ⟨_, hidk rfl⟩
  have N4 : Hid (∀ W, Below w.heap.size w W → Calls Tryd.prog 51 #[.slice a len cap, .int .i64 4] W fun e w' => e = .returned (.int .i64 v4) ∧ Below W.heap.size W w') := fun W hb => by rw [Hv4.out]; exact eNumber_any n₀ a len cap fs 4 W (hR.below (hb.mono hn)) (Nat.le_trans hn hb.size)
  obtain ⟨D, HD⟩ : ∃ D : Array Value, Hid (D = (cellsOf (fdG 5 fs)).toArray) := ⟨_, hidk rfl⟩
  have N5 : Hid (∀ W, Below w.heap.size w W → Calls Tryd.prog 91 #[.slice a len cap, .int .i64 5] W fun e w' => e = .returned (.agg D) ∧ Below W.heap.size W w') := fun W hb => eDigest_any n₀ a len cap fs 5 W (hR.below (hb.mono hn)) (Nat.le_trans hn hb.size) D HD
  have HBO : Hid (Tryd.prog.built 30 [(0, .int .i64 v1), (1, .int .i64 v2), (2, .int .i64 v3), (3, .int .i64 v4), (4, .agg D)] = some X) := by
    show _ = _
    rw [Hv1.out, Hv2.out, Hv3.out, Hv4.out]
    exact builtC (takeC fs) hd D X HD HX
  clear hR HX HZ HBZ HNZ hd Hv1 Hv2 Hv3 Hv4 HD
  go_enter Tryd.func61, Tryd.ntmps61
  go_wp2_with (first
    | (show wpList _ _ _ ({ dst := some 2, op := _, type := _, pos := _, after := _, guard := _ } :: _) _ _; refine wpList_new_var rfl 30 rfl Z HA.out ?_; intro g2 w1 HM2; try simp only [Act.put, List.setIfInBounds_toArray, List.set_cons_zero, List.set_cons_succ])
    | fail)
  have h2 : w.heap.size ≤ g2 := Nat.le_of_eq HM2.out.new.symm
  have HBc := hidk HM2.out.below
  have HR2 := hidk HM2.out.row
  clear HM2
  refine (N1.out _ HBc.out).mono ?_
  rintro e w2 ⟨rfl, hb2⟩
  replace HR2 := hidk ((hb2.block _ (heap_lt HR2.out)).trans HR2.out)
  replace HBc := hidk (HBc.out.trans (hb2.mono HBc.out.size))
  clear hb2 N1
  go_wp2_with fail
  refine (N2.out _ HBc.out).mono ?_
  rintro e w3 ⟨rfl, hb3⟩
  replace HR2 := hidk ((hb3.block _ (heap_lt HR2.out)).trans HR2.out)
  replace HBc := hidk (HBc.out.trans (hb3.mono HBc.out.size))
  clear hb3 N2
  go_wp2_with fail
  refine (N3.out _ HBc.out).mono ?_
  rintro e w4 ⟨rfl, hb4⟩
  replace HR2 := hidk ((hb4.block _ (heap_lt HR2.out)).trans HR2.out)
  replace HBc := hidk (HBc.out.trans (hb4.mono HBc.out.size))
  clear hb4 N3
  go_wp2_with fail
  refine (N4.out _ HBc.out).mono ?_
  rintro e w5 ⟨rfl, hb5⟩
  replace HR2 := hidk ((hb5.block _ (heap_lt HR2.out)).trans HR2.out)
  replace HBc := hidk (HBc.out.trans (hb5.mono HBc.out.size))
  clear hb5 N4
  go_wp2_with fail
  refine (N5.out _ HBc.out).mono ?_
  rintro e w6 ⟨rfl, hb6⟩
  replace HR2 := hidk ((hb6.block _ (heap_lt HR2.out)).trans HR2.out)
  replace HBc := hidk (HBc.out.trans (hb6.mono HBc.out.size))
  clear hb6 N5
  go_wp2_with (first
    | (show wpList _ _ _ ({ dst := some 13, op := _, type := _, pos := _, after := _, guard := _ } :: _) _ _; refine wpList_build_some rfl 30 _ rfl _ rfl X HBO.out ?_; try simp only [Act.put, List.setIfInBounds_toArray, List.set_cons_zero, List.set_cons_succ])
    | (refine wpList_set_var rfl 30 (.tmp 2) (.tmp 13) rfl g2 X rfl rfl 30 Z HR2.out HSX.out HZX.out H1X.out ?_; intro wz HW2; try simp only [Act.put, List.setIfInBounds_toArray, List.set_cons_zero, List.set_cons_succ])
    | fail)
  refine bodyPost_ret (v := .agg X) ?_ rfl ⟨rfl, HW2.out.below _ _ HBc.out h2⟩
  exact results_cell_row (p := 2) (ty := 30) rfl _ _ g2 30 X (0, 0) _ rfl HW2.out.row Tryd.underlying30 rfl HSX.out
set_option maxHeartbeats 8000000 in
theorem eReadC_any (a : Option Addr) (len cap : Nat) (bs : List UInt8) (w : World) (hR : Reads w a len cap bs) (hl : len ≤ 1000000) (R : Array Value) (HR : Hid (R = (ccells (getCO bs)).toArray)) :
    Calls Tryd.prog 60 #[.slice a len cap, .func (.func 61) #[] #[], .func (.func 18) #[] #[]] w fun e w' => e = .returned (.tuple #[.agg R, .int .i64 (getCE bs)]) ∧ Below w.heap.size w w' := by
  have hnot : ∀ (x : Bool) (w : World), (Op.unary .not (.bool x)).run Tryd.prog w = .ok (.bool (!x)) w := fun _ _ => rfl
  obtain ⟨Z, HZ, HA, HBZ, HNZ⟩ := noughtsC
  obtain ⟨fs, hfs⟩ : ∃ f, f = readF bs := ⟨_, rfl⟩
  have hfz : ∀ f ∈ fs, f.2.size ≤ 65536 := by rw [hfs]; exact readF_65 bs
  obtain ⟨x, hx⟩ : ∃ x, x = takeC fs := ⟨_, rfl⟩
  have hok : x.d.length = 32 := by rw [hx]; exact fdG_length 5 fs
  have hin : InC x := by rw [hx]; exact takeC_in fs
  obtain ⟨X, HX, HSX, H1X, HNX⟩ := claim_row5 x hok
  have HZX : Hid (Z.size = X.size) := by show _ = _; rw [HNZ.out, HNX.out]
  have HSZ : Hid ((Tryd.prog.info? 30).map (·.size) = some Z.size) := by show _ = _; rw [sizeC, HNZ.out]
  have H1Z : Hid (Z.all (·.oneCell') = true) := by show _ = _; rw [HZ.out]; exact one_cellsC _
  obtain ⟨L, hL⟩ : ∃ L, L = cB x := ⟨_, rfl⟩
  obtain ⟨E, hE⟩ : ∃ E, E = cE x := ⟨_, rfl⟩
  obtain ⟨q, hq⟩ : ∃ q : Bool, q = true ↔ L = bs := by
    by_cases h : L = bs
    · exact ⟨true, by simp [h]⟩
    · exact ⟨false, by simp [h]⟩
  obtain ⟨K, hK⟩ : ∃ K, K = getCE bs := ⟨_, rfl⟩
  have hE2 : E = 0 ∧ rightC x = true ∨ E = 60 ∧ rightC x = false := by rw [hE]; exact cE_two x
  have HT : Hid (E = 0 → q = true → R = X ∧ K = 0) := fun h0 hqt => by
    have hr : rightC x = true := by
      rcases hE2 with h | h
      · exact h.2
      · omega
    have hb : claimB x = bs := by
      have := hq.1 hqt
      rw [hL] at this
      unfold cB at this
      rw [if_pos hr] at this
      exact this
    have hh := getCO_yes (bs := bs) (by rw [← hfs, ← hx]; exact ⟨hr, hb⟩)
    rw [HR.out, HX.out, hK, hh.1, hh.2, ← hfs, ← hx]
    exact ⟨rfl, rfl⟩
  have HF : Hid (E = 60 ∨ q = false → R = Z ∧ K = 60) := fun h0 => by
    have hh := getCO_no (bs := bs) (by
      rw [← hfs, ← hx]
      rintro ⟨hr, hb⟩
      rcases h0 with h0 | h0
      · rcases hE2 with h | h
        · omega
        · rw [hr] at h; cases h.2
      · have : q = true := hq.2 (by rw [hL]; unfold cB; rw [if_pos hr]; exact hb)
        rw [h0] at this; cases this)
    rw [HR.out, HZ.out, hK, hh.1, hh.2]
    exact ⟨rfl, rfl⟩
  rw [← hK]
  have HRD : Hid (∀ W, Below w.heap.size w W → Reads W a len cap bs) := fun W hb => hR.below hb
  obtain ⟨ke, hke⟩ : ∃ k : Nat, k = readE bs := ⟨_, rfl⟩
  have R1 : Hid (∀ W, Below w.heap.size w W → Calls Tryd.prog 49 #[.slice a len cap] W fun e W' => ∃ a' c', e = .returned (.tuple #[.slice a' fs.length c', .int .i64 ke]) ∧ FReads W'.heap.size W' a' fs.length c' fs ∧ Below W.heap.size W W') := fun W hb => read_reads a len cap bs W (hR.below hb) hl hke.symm hfs.symm
  have T1 : Hid (∀ W a' c', FReads W.heap.size W a' fs.length c' fs → Calls Tryd.prog 61 #[.slice a' fs.length c'] W fun e w' => e = .returned (.agg X) ∧ Below W.heap.size W w') := fun W a' c' h => eTakeC_any W.heap.size a' fs.length c' fs W h (Nat.le_refl _) X (by rw [← hx]; exact HX)
  have P1 : Hid (∀ W, Calls Tryd.prog 18 #[.agg X] W fun e w' => (∃ a' c', e = .returned (.tuple #[.slice a' L.length c', .int .i64 E]) ∧ Reads w' a' L.length c' L) ∧ Below W.heap.size W w') := fun W => by
    rw [hL, hE]
    exact ePutC_any x hok W X HX
  have Q1 : Hid (∀ W a' c', Reads W a' L.length c' L → Reads W a len cap bs → Calls Tryd.prog 50 #[.slice a' L.length c', .slice a len cap] W fun e w' => e = .returned (.bool q) ∧ w' = W) := fun W a' c' h1 h2 => eSame_any a' a L.length c' len cap L bs W h1 h2 q hq
  have hE3 : E = 0 ∨ E = 60 := by omega
  clear hR HR hfs hfz hx hok hin HX HZ HBZ HNZ HNX hL hE hq hK hE2 hke
  rcases hE3 with rfl | rfl
  all_goals
    cases q
    all_goals
      first
        | have HQ : Hid (R = Z ∧ K = 60) := HF.out (.inl rfl)
        | have HQ : Hid (R = Z ∧ K = 60) := HF.out (.inr rfl)
        | have HQ : Hid (R = X ∧ K = 0) := HT.out rfl rfl
      clear HF HT
      go_enter Tryd.func60, Tryd.ntmps60
      go_wp2_with (first
        | (show wpList _ _ _ ({ dst := some 6, op := _, type := _, pos := _, after := _, guard := _ } :: _) _ _; refine wpList_new_var rfl 30 rfl Z HA.out ?_; intro g6 w1 HM6; try simp only [Act.put, List.setIfInBounds_toArray, List.set_cons_zero, List.set_cons_succ])
        | (show wpList _ _ _ ({ dst := some 8, op := _, type := _, pos := _, after := _, guard := _ } :: _) _ _; refine wpList_new_var rfl 30 rfl Z HA.out ?_; intro g8 w2 HM8; try simp only [Act.put, List.setIfInBounds_toArray, List.set_cons_zero, List.set_cons_succ])
        | fail)
      have h6 : w.heap.size ≤ g6 := Nat.le_of_eq HM6.out.new.symm
      have h8 : g6 < g8 := by have e1 := HM8.out.new; have := heap_lt HM6.out.row; omega
      have HB2 : Hid (Below w.heap.size w w2) := HM6.out.below.trans (HM8.out.below.mono HM6.out.below.size)
      have HR6 := hidk ((HM8.out.below.block _ (heap_lt HM6.out.row)).trans HM6.out.row)
      have HR8 := hidk HM8.out.row
      clear HM6 HM8
      refine (R1.out w2 HB2.out).mono ?_
      rintro e w3 ⟨a3, c3, rfl, hf3, hb3⟩
      have HF3 := hidk hf3
      have HB3 := hidk (HB2.out.trans (hb3.mono HB2.out.size))
      replace HR6 := hidk ((hb3.block _ (heap_lt HR6.out)).trans HR6.out)
      replace HR8 := hidk ((hb3.block _ (heap_lt HR8.out)).trans HR8.out)
      clear hf3 hb3 HB2 R1
      go_wp2_with fail
      refine (T1.out w3 a3 c3 HF3.out).mono ?_
      rintro e w4 ⟨rfl, hb4⟩
      have HB4 := hidk (HB3.out.trans (hb4.mono HB3.out.size))
      replace HR6 := hidk ((hb4.block _ (heap_lt HR6.out)).trans HR6.out)
      replace HR8 := hidk ((hb4.block _ (heap_lt HR8.out)).trans HR8.out)
      clear hb4 HB3 HF3 T1
      go_wp2_with (first
        | (show wpList _ _ _ ({ dst := some 11, op := _, type := _, pos := _, after := _, guard := _ } :: _) _ _; refine wpList_new_var rfl 30 rfl Z HA.out ?_; intro g11 w5 HM11; try simp only [Act.put, List.setIfInBounds_toArray, List.set_cons_zero, List.set_cons_succ])
        | (refine wpList_set_var rfl 30 (.tmp 11) (.tmp 21) rfl g11 X rfl rfl 30 Z HM11.out.row HSX.out HZX.out H1X.out ?_; intro w6 HW11; try simp only [Act.put, List.setIfInBounds_toArray, List.set_cons_zero, List.set_cons_succ])
        | (show wpList _ _ _ ({ dst := some 24, op := _, type := _, pos := _, after := _, guard := _ } :: _) _ _; refine wpList_load_row rfl 30 (.tmp 11) rfl g11 rfl 30 X (0, 0) _ HW11.out.row Tryd.underlying30 rfl HSX.out ?_; try simp only [Act.put, List.setIfInBounds_toArray, List.set_cons_zero, List.set_cons_succ])
        | fail)
      have h11 : w4.heap.size ≤ g11 := Nat.le_of_eq HM11.out.new.symm
      have g68 := heap_lt HR8.out
      have HB6 := hidk (HW11.out.below _ _ (HB4.out.trans (HM11.out.below.mono HB4.out.size)) (Nat.le_trans HB4.out.size h11))
      replace HR6 := hidk ((HW11.out.other _ (by omega)).trans ((HM11.out.below.block _ (heap_lt HR6.out)).trans HR6.out))
      replace HR8 := hidk ((HW11.out.other _ (by omega)).trans ((HM11.out.below.block _ (heap_lt HR8.out)).trans HR8.out))
      have HR11 := hidk HW11.out.row
      clear HM11 HW11 HB4
      refine (P1.out w6).mono ?_
      rintro e w7 ⟨⟨a7, c7, rfl, hr7⟩, hb7⟩
      have HL7 := hidk hr7
      have HB7 := hidk (HB6.out.trans (hb7.mono HB6.out.size))
      replace HR6 := hidk ((hb7.block _ (heap_lt HR6.out)).trans HR6.out)
      replace HR8 := hidk ((hb7.block _ (heap_lt HR8.out)).trans HR8.out)
      replace HR11 := hidk ((hb7.block _ (heap_lt HR11.out)).trans HR11.out)
      have HRB := hidk (HRD.out w7 HB7.out)
      clear hr7 hb7 HB6 P1 HRD
      go_wp2_with (first
        | (show wpList _ _ _ ({ dst := some 36, op := _, type := _, pos := _, after := _, guard := _ } :: _) _ _; refine wpList_load_row rfl 30 (.tmp 8) rfl g8 rfl 30 Z (0, 0) _ HR8.out Tryd.underlying30 rfl HSZ.out ?_; try simp only [Act.put, List.setIfInBounds_toArray, List.set_cons_zero, List.set_cons_succ])
        | (refine wpList_set_var rfl 30 (.tmp 6) (.tmp 36) rfl g6 Z rfl rfl 30 Z HR6.out HSZ.out rfl H1Z.out ?_; intro wz HW6; try simp only [Act.put, List.setIfInBounds_toArray, List.set_cons_zero, List.set_cons_succ])
        | fail)
      first
        | (obtain ⟨rfl, rfl⟩ := HQ.out
           refine bodyPost_ret (v := .tuple #[.agg R, .int .i64 60]) ?_ rfl ⟨rfl, HW6.out.below _ _ HB7.out h6⟩
           exact results_row_tmp (p := 6) (q := 7) (ty := 30) rfl _ _ g6 30 R (0, 0) _ rfl HW6.out.row Tryd.underlying30 rfl HSZ.out)
        | (refine (Q1.out _ _ _ HL7.out HRB.out).mono ?_
           rintro e w8 ⟨rfl, rfl⟩
           go_wp2_with (first
             | (show wpList _ _ _ ({ dst := some 36, op := _, type := _, pos := _, after := _, guard := _ } :: _) _ _; refine wpList_load_row rfl 30 (.tmp 8) rfl g8 rfl 30 Z (0, 0) _ HR8.out Tryd.underlying30 rfl HSZ.out ?_; try simp only [Act.put, List.setIfInBounds_toArray, List.set_cons_zero, List.set_cons_succ])
             | (show wpList _ _ _ ({ dst := some 37, op := _, type := _, pos := _, after := _, guard := _ } :: _) _ _; refine wpList_load_row rfl 30 (.tmp 11) rfl g11 rfl 30 X (0, 0) _ HR11.out Tryd.underlying30 rfl HSX.out ?_; try simp only [Act.put, List.setIfInBounds_toArray, List.set_cons_zero, List.set_cons_succ])
             | (refine wpList_set_var rfl 30 (.tmp 6) (.tmp 36) rfl g6 Z rfl rfl 30 Z HR6.out HSZ.out rfl H1Z.out ?_; intro wz HW6; try simp only [Act.put, List.setIfInBounds_toArray, List.set_cons_zero, List.set_cons_succ])
             | (refine wpList_set_var rfl 30 (.tmp 6) (.tmp 37) rfl g6 X rfl rfl 30 Z HR6.out HSX.out HZX.out H1X.out ?_; intro wz HW6; try simp only [Act.put, List.setIfInBounds_toArray, List.set_cons_zero, List.set_cons_succ])
             | fail)
           first
             | (obtain ⟨rfl, rfl⟩ := HQ.out
                refine bodyPost_ret (v := .tuple #[.agg R, .int .i64 60]) ?_ rfl ⟨rfl, HW6.out.below _ _ HB7.out h6⟩
                exact results_row_tmp (p := 6) (q := 7) (ty := 30) rfl _ _ g6 30 R (0, 0) _ rfl HW6.out.row Tryd.underlying30 rfl HSZ.out)
             | (obtain ⟨rfl, rfl⟩ := HQ.out
                refine bodyPost_ret (v := .tuple #[.agg R, .int .i64 0]) ?_ rfl ⟨rfl, HW6.out.below _ _ HB7.out h6⟩
                exact results_row_tmp (p := 6) (q := 7) (ty := 30) rfl _ _ g6 30 R (0, 0) _ rfl HW6.out.row Tryd.underlying30 rfl HSX.out))
set_option maxHeartbeats 2000000 in
theorem eGetC_any (a : Option Addr) (len cap : Nat) (bs : List UInt8) (w : World) (hR : Reads w a len cap bs) (hl : len ≤ 1000000) (R : Array Value) (HR : Hid (R = (ccells (getCO bs)).toArray)) :
    Calls Tryd.prog 37 #[.slice a len cap] w fun e w' => e = .returned (.tuple #[.agg R, .int .i64 (getCE bs)]) ∧ Below w.heap.size w w' := by
  obtain ⟨Z, HZ, HA, HBZ, HNZ⟩ := noughtsC
  obtain ⟨X, HX, HSX, H1X, HNX⟩ := claim_row5 (getCO bs) (getCO_ok bs)
  obtain rfl : X = R := by rw [HX.out, HR.out]
  have HZX : Hid (Z.size = X.size) := by show _ = _; rw [HNZ.out, HNX.out]
  obtain ⟨K, hK⟩ : ∃ K, K = getCE bs := ⟨_, rfl⟩
  have R1 : Hid (∀ W, Below w.heap.size w W → Calls Tryd.prog 60 #[.slice a len cap, .func (.func 61) #[] #[], .func (.func 18) #[] #[]] W fun e w' => e = .returned (.tuple #[.agg X, .int .i64 K]) ∧ Below W.heap.size W w') := fun W hb => by rw [hK]; exact eReadC_any a len cap bs W (hR.below hb) hl X HR
  rw [← hK]
  clear hR HR HX HZ HBZ HNZ HNX hK
  go_enter Tryd.func37, Tryd.ntmps37
  go_wp2_with (first
    | (show wpList _ _ _ ({ dst := some 2, op := _, type := _, pos := _, after := _, guard := _ } :: _) _ _; refine wpList_new_var rfl 30 rfl Z HA.out ?_; intro g2 w1 HM2; try simp only [Act.put, List.setIfInBounds_toArray, List.set_cons_zero, List.set_cons_succ])
    | fail)
  have h2 : w.heap.size ≤ g2 := Nat.le_of_eq HM2.out.new.symm
  refine (R1.out w1 HM2.out.below).mono ?_
  rintro e w2 ⟨rfl, hb2⟩
  have HB2 := hidk (HM2.out.below.trans (hb2.mono HM2.out.below.size))
  have HR2 := hidk ((hb2.block _ (heap_lt HM2.out.row)).trans HM2.out.row)
  clear hb2 HM2 R1
  go_wp2_with (first
    | (refine wpList_set_var rfl 30 (.tmp 2) (.tmp 6) rfl g2 X rfl rfl 30 Z HR2.out HSX.out HZX.out H1X.out ?_; intro wz HW2; try simp only [Act.put, List.setIfInBounds_toArray, List.set_cons_zero, List.set_cons_succ])
    | fail)
  refine bodyPost_ret (v := .tuple #[.agg X, .int .i64 K]) ?_ rfl ⟨rfl, HW2.out.below _ _ HB2.out h2⟩
  exact results_row_tmp (p := 2) (q := 3) (ty := 30) rfl _ _ g2 30 X (0, 0) _ rfl HW2.out.row Tryd.underlying30 rfl HSX.out
end Go.Proofs.YtgkfodmccfnaoaaDoor

/- What entry.Check answers. -/
namespace Go.Proofs.YtgkfodmccfnaoaaDoor
open Go.RowKit Sums Nums
set_option linter.unusedVariables false
set_option linter.unusedSimpArgs false
set_option maxRecDepth 100000
theorem erow_row {W : World} {g : Nat} {x : EnT} (ok : OkE x) {X : Array Value} (HX : Hid (X = (ecells x).toArray)) {t : TypeId} (h : W.heap[g]? = some (.cells X t (0, 0))) : ERow W g 0 x := by
  refine erow_of ok fun j v hj => ?_
  rw [Nat.zero_add, cell_of_row _ _ j _ t (0, 0) h, HX.out]
  simpa using hj
def userR (x : EnT) : Bool := (decide (1 ≤ x.c) && decide (x.c ≤ 3)) && ((decide (1 ≤ x.s) && decide (x.s ≤ 1000000)) && decide (x.t.size ≤ 200))
def toldB (x : EnT) : Bool := if x.k = 1 then userR x else if x.k = 2 then mayS x.h else if x.k = 3 then rightC x.m else false
def bareE (x : EnT) : EnT := if x.k = 1 then ⟨x.k, x.c, x.s, x.t, zeroS, zeroC⟩ else if x.k = 2 then ⟨x.k, 0, 0, ⟨#[]⟩, x.h, zeroC⟩ else if x.k = 3 then ⟨x.k, 0, 0, ⟨#[]⟩, zeroS, x.m⟩ else zeroE
theorem bareE_ok {x : EnT} (ok : OkE x) : OkE (bareE x) := by
  unfold bareE
  split
  · exact ⟨rfl, rfl, rfl⟩
  split
  · exact ⟨ok.h, ok.g, rfl⟩
  split
  · exact ⟨rfl, rfl, ok.m⟩
  exact zeroE_ok
theorem size_none {t : ByteArray} : t.size = 0 ↔ t = ⟨#[]⟩ :=
  ⟨fun h => empty_of h, fun h => by rw [h]; rfl⟩
theorem told_right (x : EnT) : rightE x = true ↔ (toldB x = true ∧ bareE x = x) := by
  by_cases h1 : x.k = 1
  · rw [right_user h1]
    unfold toldB bareE userR
    rw [if_pos h1, if_pos h1]
    cases x
    simp only [Bool.and_eq_true, decide_eq_true_eq, eqSB_iff, eqCB_iff, EnT.mk.injEq, true_and]
    constructor
    · rintro ⟨a, b, c, d, e⟩; exact ⟨⟨a, b, c⟩, d.symm, e.symm⟩
    · rintro ⟨⟨a, b, c⟩, d, e⟩; exact ⟨a, b, c, d.symm, e.symm⟩
  by_cases h2 : x.k = 2
  · rw [right_anchor h2]
    unfold toldB bareE
    rw [if_neg h1, if_neg h1, if_pos h2, if_pos h2]
    cases x
    simp only [Bool.and_eq_true, decide_eq_true_eq, eqSB_iff, eqCB_iff, EnT.mk.injEq, true_and, size_none]
    constructor
    · rintro ⟨a, b, c, d, e⟩; exact ⟨d, a.symm, b.symm, c.symm, e.symm⟩
    · rintro ⟨d, a, b, c, e⟩; exact ⟨a.symm, b.symm, c.symm, d, e.symm⟩
  by_cases h3 : x.k = 3
  · rw [right_claim h3]
    unfold toldB bareE
    rw [if_neg h1, if_neg h1, if_neg h2, if_neg h2, if_pos h3, if_pos h3]
    cases x
    simp only [Bool.and_eq_true, decide_eq_true_eq, eqSB_iff, eqCB_iff, EnT.mk.injEq, true_and, and_true, size_none]
    constructor
    · rintro ⟨a, b, c, d, e⟩; exact ⟨e, a.symm, b.symm, c.symm, d.symm⟩
    · rintro ⟨e, a, b, c, d⟩; exact ⟨a.symm, b.symm, c.symm, d.symm, e⟩
  rw [right_none h1 h2 h3]
  unfold toldB
  rw [if_neg h1, if_neg h2, if_neg h3]
  simp
set_option maxHeartbeats 2000000 in
theorem eUser_any (x : EnT) (ok : OkE x) (w : World) (X : Array Value) (HX : Hid (X = (ecells x).toArray)) :
    Calls Tryd.prog 47 #[.agg X] w fun e w' => e = .returned (.bool (userR x)) ∧ Below w.heap.size w w' := by
  have HR := erow_new w x ok X HX 32
  have HB : Hid (Below w.heap.size w (w.alloc (.cells X 32))) := (Below.refl _ _).alloc (Nat.le_refl _) _
  have c1 := HR.c
  have c2 := HR.s
  have c3 := HR.t
  simp only [Nat.zero_add] at c1 c2 c3
  unfold userR
  obtain ⟨b1, hb1⟩ : ∃ b, (decide (1 ≤ x.c) && decide (x.c ≤ 3)) = b := ⟨_, rfl⟩
  obtain ⟨b2, hb2⟩ : ∃ b, (decide (1 ≤ x.s) && decide (x.s ≤ 1000000)) = b := ⟨_, rfl⟩
  obtain ⟨b3, hb3⟩ : ∃ b, decide (x.t.size ≤ 200) = b := ⟨_, rfl⟩
  have hb3' : decide ((x.t.size : Int) ≤ 200) = b3 := by rw [← hb3, Bool.eq_iff_iff, decide_eq_true_eq, decide_eq_true_eq]; omega
  have W1 := hidk (eWithin_any x.c 1 3)
  have W2 := hidk (eWithin_any x.s 1 1000000)
  rw [hb1] at W1
  rw [hb2] at W2
  rw [hb1, hb2, hb3]
  obtain ⟨c, hc⟩ : ∃ c, c = x.c := ⟨_, rfl⟩
  obtain ⟨s, hs⟩ : ∃ c, c = x.s := ⟨_, rfl⟩
  obtain ⟨t, ht⟩ : ∃ c, c = x.t := ⟨_, rfl⟩
  rw [← hc] at c1 W1
  rw [← hs] at c2 W2
  rw [← ht] at c3 hb3 hb3'
  clear hb1 hb2 HR HX ok hc hs ht
  cases b1
  · go_enter Tryd.func47, Tryd.ntmps47
    go_wp2_with fail
    refine (W1.out _).mono ?_
    rintro e w1 ⟨rfl, rfl⟩
    go_wp2
    go_ret
    exact ⟨rfl, HB.out⟩
  cases b2
  · go_enter Tryd.func47, Tryd.ntmps47
    go_wp2_with fail
    refine (W1.out _).mono ?_
    rintro e w1 ⟨rfl, rfl⟩
    go_wp2_with fail
    refine (W2.out _).mono ?_
    rintro e w1 ⟨rfl, rfl⟩
    go_wp2
    go_ret
    exact ⟨rfl, HB.out⟩
  · go_enter Tryd.func47, Tryd.ntmps47
    go_wp2_with fail
    refine (W1.out _).mono ?_
    rintro e w1 ⟨rfl, rfl⟩
    go_wp2_with fail
    refine (W2.out _).mono ?_
    rintro e w1 ⟨rfl, rfl⟩
    go_wp2
    go_ret
    exact ⟨rfl, HB.out⟩
set_option maxHeartbeats 2000000 in
theorem eMay_any (s : SgT) (hd : s.h.d.length = 32) (w : World) (C : Array Value) (HC : Hid (C = (scells s).toArray)) :
    Calls Tryd.prog 48 #[.agg C] w fun e w' => e = .returned (.bool (mayS s)) ∧ Below w.heap.size w w' := by
  have HR := hidk (srow_new w s hd C HC 28)
  have HB : Hid (Below w.heap.size w (w.alloc (.cells C 28))) := (Below.refl _ _).alloc (Nat.le_refl _) _
  obtain ⟨HCs, HHC, HSH, H36⟩ := head_row s.h hd
  have HRH : Hid ((w.alloc (.cells C 28)).rangeAt w.heap.size 0 HCs.toList) := by rw [HHC.out]; exact HR.out.h
  obtain ⟨n, Hn⟩ : ∃ n, Hid (n = s.n) := ⟨s.n, hidk rfl⟩
  obtain ⟨b2, hb2⟩ : ∃ b, (decide (1 ≤ n) && decide (n ≤ 3)) = b := ⟨_, rfl⟩
  obtain ⟨E, hE0⟩ : ∃ E, E = putE s.h := ⟨_, rfl⟩
  have R1 : Hid (∀ W, Calls Tryd.prog 75 #[.agg HCs] W fun e w' => e = .returned (.int .i64 E) ∧ Below W.heap.size W w') := fun W => by rw [hE0]; exact hCheck_any s.h hd W HCs HHC
  have W2 : Hid (∀ W, Calls Tryd.prog 29 #[.int .i64 n, .int .i64 1, .int .i64 3] W fun e w' => e = .returned (.bool b2) ∧ w' = W) := fun W => by rw [← hb2]; exact eWithin_any n 1 3 W
  have hM : mayS s = (rightH s.h && b2) := by
    rw [← hb2, Hn.out]
    unfold mayS
    rw [Bool.and_assoc]
  rw [hM]
  have hp := putE_ok s.h
  rw [← hE0] at hp
  clear hM hb2 HC hE0
  rcases hp with ⟨rfl, hr⟩ | ⟨rfl, hr⟩
  · rw [hr]
    clear hr
    go_enter Tryd.func48, Tryd.ntmps48
    go_wp2_with (first
      | (show wpList _ _ _ ({ dst := some 4, op := _, type := _, pos := _, after := _, guard := _ } :: _) _ _; refine wpList_mid rfl 26 (.tmp 3) rfl w.heap.size 0 rfl HCs _ HRH.out Tryd.underlying26 rfl HSH.out ?_; try simp only [Act.put, List.setIfInBounds_toArray, List.set_cons_zero, List.set_cons_succ])
      | fail)
    refine (R1.out _).mono ?_
    rintro e w1 ⟨rfl, hb⟩
    have HB1 := hidk (HB.out.trans (hb.mono HB.out.size))
    have hc := (HR.out.keep hb).n
    rw [← Hn.out, Nat.zero_add] at hc
    clear hb
    go_wp2_with fail
    refine (W2.out _).mono ?_
    rintro e w2 ⟨rfl, rfl⟩
    go_wp2
    go_ret
    exact ⟨rfl, HB1.out⟩
  · rw [hr]
    clear hr
    go_enter Tryd.func48, Tryd.ntmps48
    go_wp2_with (first
      | (show wpList _ _ _ ({ dst := some 4, op := _, type := _, pos := _, after := _, guard := _ } :: _) _ _; refine wpList_mid rfl 26 (.tmp 3) rfl w.heap.size 0 rfl HCs _ HRH.out Tryd.underlying26 rfl HSH.out ?_; try simp only [Act.put, List.setIfInBounds_toArray, List.set_cons_zero, List.set_cons_succ])
      | fail)
    refine (R1.out _).mono ?_
    rintro e w1 ⟨rfl, hb⟩
    have HB1 := hidk (HB.out.trans (hb.mono HB.out.size))
    clear hb
    go_wp2
    go_ret
    exact ⟨rfl, HB1.out⟩
theorem builtE4 (k c s : Int) (t : ByteArray) (R : Array Value) (HR : Hid (R = (ecells ⟨k, c, s, t, zeroS, zeroC⟩).toArray)) : Tryd.prog.built 32 [(0, .int .i64 k), (1, .int .i64 c), (2, .int .i64 s), (3, .string t)] = some R := by
  have hi := infoE
  cases hq : Tryd.prog.info? 32 with
  | none => rw [hq] at hi; cases hi
  | some i =>
    rw [hq] at hi
    simp only [Option.map_some, Option.some.injEq, Prod.mk.injEq] at hi
    have hH : (Tryd.prog.info? 22).map (·.size) = some 1 := by kernel_rfl
    have h9 : (Tryd.prog.info? 9).map (·.size) = some 1 := by kernel_rfl
    have h3 : (Tryd.prog.info? 3).map (·.size) = some 1 := by kernel_rfl
    have hS := sizeS
    have hC := sizeC
    cases hqH : Tryd.prog.info? 22 with
    | none => rw [hqH] at hH; cases hH
    | some iH =>
    cases hq9 : Tryd.prog.info? 9 with
    | none => rw [hq9] at h9; cases h9
    | some i9 =>
    cases hq3 : Tryd.prog.info? 3 with
    | none => rw [hq3] at h3; cases h3
    | some i3 =>
    cases hqS : Tryd.prog.info? 28 with
    | none => rw [hqS] at hS; cases hS
    | some iS =>
    cases hqC : Tryd.prog.info? 30 with
    | none => rw [hqC] at hC; cases hC
    | some iC =>
    rw [hqH] at hH
    rw [hq9] at h9
    rw [hq3] at h3
    rw [hqS] at hS
    rw [hqC] at hC
    simp only [Option.map_some, Option.some.injEq] at hH h9 h3 hS hC
    unfold Program.built
    simp only [hq, Tryd.underlying32, hi.1, List.mapM_cons, List.mapM_nil, hqH, hq9, hq3, hqS, hqC, hH, h9, h3, hS, hC, Option.map_some, Option.bind_eq_bind, Option.bind_some, Option.pure_def]
    show Instr.fill _ (ecells zeroE).toArray _ = some R
    refine (fill_val _ 0 0 1 (.int .i64 k) #[.int .i64 k] _ [] [.int .i64 0] ([.int .i64 0, .int .i64 0, .string ByteArray.empty] ++ scells zeroS ++ ccells zeroC) _ rfl rfl rfl (by simp [ecells, zeroE]) rfl rfl).trans ?_
    refine (fill_val _ 1 1 1 (.int .i64 c) #[.int .i64 c] _ [.int .i64 k] [.int .i64 0] ([.int .i64 0, .string ByteArray.empty] ++ scells zeroS ++ ccells zeroC) _ rfl rfl rfl (by simp) rfl rfl).trans ?_
    refine (fill_val _ 2 2 1 (.int .i64 s) #[.int .i64 s] _ [.int .i64 k, .int .i64 c] [.int .i64 0] ([.string ByteArray.empty] ++ scells zeroS ++ ccells zeroC) _ rfl rfl rfl (by simp) rfl rfl).trans ?_
    refine (fill_val _ 3 3 1 (.string t) #[.string t] _ [.int .i64 k, .int .i64 c, .int .i64 s] [.string ByteArray.empty] (scells zeroS ++ ccells zeroC) _ rfl rfl rfl (by simp) rfl rfl).trans ?_
    simp only [Instr.fill, List.append_nil, Option.some.injEq]
    rw [HR.out]
    rfl
theorem builtEh (k : Int) (h : SgT) (hd : h.h.d.length = 32) (hg : h.g.length = 32) (Q R : Array Value) (HQ : Hid (Q = (scells h).toArray)) (HR : Hid (R = (ecells ⟨k, 0, 0, ⟨#[]⟩, h, zeroC⟩).toArray)) : Tryd.prog.built 32 [(0, .int .i64 k), (4, .agg Q)] = some R := by
  have hi := infoE
  cases hq : Tryd.prog.info? 32 with
  | none => rw [hq] at hi; cases hi
  | some i =>
    rw [hq] at hi
    simp only [Option.map_some, Option.some.injEq, Prod.mk.injEq] at hi
    have hH : (Tryd.prog.info? 22).map (·.size) = some 1 := by kernel_rfl
    have h9 : (Tryd.prog.info? 9).map (·.size) = some 1 := by kernel_rfl
    have h3 : (Tryd.prog.info? 3).map (·.size) = some 1 := by kernel_rfl
    have hS := sizeS
    have hC := sizeC
    cases hqH : Tryd.prog.info? 22 with
    | none => rw [hqH] at hH; cases hH
    | some iH =>
    cases hq9 : Tryd.prog.info? 9 with
    | none => rw [hq9] at h9; cases h9
    | some i9 =>
    cases hq3 : Tryd.prog.info? 3 with
    | none => rw [hq3] at h3; cases h3
    | some i3 =>
    cases hqS : Tryd.prog.info? 28 with
    | none => rw [hqS] at hS; cases hS
    | some iS =>
    cases hqC : Tryd.prog.info? 30 with
    | none => rw [hqC] at hC; cases hC
    | some iC =>
    rw [hqH] at hH
    rw [hq9] at h9
    rw [hq3] at h3
    rw [hqS] at hS
    rw [hqC] at hC
    simp only [Option.map_some, Option.some.injEq] at hH h9 h3 hS hC
    unfold Program.built
    simp only [hq, Tryd.underlying32, hi.1, List.mapM_cons, List.mapM_nil, hqH, hq9, hq3, hqS, hqC, hH, h9, h3, hS, hC, Option.map_some, Option.bind_eq_bind, Option.bind_some, Option.pure_def]
    show Instr.fill _ (ecells zeroE).toArray _ = some R
    refine (fill_val _ 0 0 1 (.int .i64 k) #[.int .i64 k] _ [] [.int .i64 0] ([.int .i64 0, .int .i64 0, .string ByteArray.empty] ++ scells zeroS ++ ccells zeroC) _ rfl rfl rfl (by simp [ecells, zeroE]) rfl rfl).trans ?_
    refine (fill_val _ 4 4 69 (.agg Q) Q _ [.int .i64 k, .int .i64 0, .int .i64 0, .string ByteArray.empty] (scells zeroS) (ccells zeroC) _ rfl rfl (by rw [HQ.out]; simp [scells_length h hd hg]) (by simp) rfl (scells_length zeroS rfl rfl)).trans ?_
    simp only [Instr.fill, List.append_nil, Option.some.injEq]
    rw [HR.out, HQ.out]
    rfl
theorem builtEm (k : Int) (m : ClT) (hd : m.d.length = 32) (Q R : Array Value) (HQ : Hid (Q = (ccells m).toArray)) (HR : Hid (R = (ecells ⟨k, 0, 0, ⟨#[]⟩, zeroS, m⟩).toArray)) : Tryd.prog.built 32 [(0, .int .i64 k), (5, .agg Q)] = some R := by
  have hi := infoE
  cases hq : Tryd.prog.info? 32 with
  | none => rw [hq] at hi; cases hi
  | some i =>
    rw [hq] at hi
    simp only [Option.map_some, Option.some.injEq, Prod.mk.injEq] at hi
    have hH : (Tryd.prog.info? 22).map (·.size) = some 1 := by kernel_rfl
    have h9 : (Tryd.prog.info? 9).map (·.size) = some 1 := by kernel_rfl
    have h3 : (Tryd.prog.info? 3).map (·.size) = some 1 := by kernel_rfl
    have hS := sizeS
    have hC := sizeC
    cases hqH : Tryd.prog.info? 22 with
    | none => rw [hqH] at hH; cases hH
    | some iH =>
    cases hq9 : Tryd.prog.info? 9 with
    | none => rw [hq9] at h9; cases h9
    | some i9 =>
    cases hq3 : Tryd.prog.info? 3 with
    | none => rw [hq3] at h3; cases h3
    | some i3 =>
    cases hqS : Tryd.prog.info? 28 with
    | none => rw [hqS] at hS; cases hS
    | some iS =>
    cases hqC : Tryd.prog.info? 30 with
    | none => rw [hqC] at hC; cases hC
    | some iC =>
    rw [hqH] at hH
    rw [hq9] at h9
    rw [hq3] at h3
    rw [hqS] at hS
    rw [hqC] at hC
    simp only [Option.map_some, Option.some.injEq] at hH h9 h3 hS hC
    unfold Program.built
    simp only [hq, Tryd.underlying32, hi.1, List.mapM_cons, List.mapM_nil, hqH, hq9, hq3, hqS, hqC, hH, h9, h3, hS, hC, Option.map_some, Option.bind_eq_bind, Option.bind_some, Option.pure_def]
    show Instr.fill _ (ecells zeroE).toArray _ = some R
    refine (fill_val _ 0 0 1 (.int .i64 k) #[.int .i64 k] _ [] [.int .i64 0] ([.int .i64 0, .int .i64 0, .string ByteArray.empty] ++ scells zeroS ++ ccells zeroC) _ rfl rfl rfl (by simp [ecells, zeroE]) rfl rfl).trans ?_
    refine (fill_val _ 5 73 36 (.agg Q) Q _ ([.int .i64 k, .int .i64 0, .int .i64 0, .string ByteArray.empty] ++ scells zeroS) (ccells zeroC) [] _ rfl rfl (by rw [HQ.out]; simp [ccells_length m hd]) (by simp) (by simp [scells_length zeroS rfl rfl]) (ccells_length zeroC rfl)).trans ?_
    simp only [Instr.fill, List.append_nil, Option.some.injEq]
    rw [HR.out, HQ.out]
    rfl
set_option maxHeartbeats 8000000 in
theorem eTold_user (x : EnT) (ok : OkE x) (hk : x.k = 1) (w : World) (X B : Array Value) (HX : Hid (X = (ecells x).toArray)) (HB : Hid (B = (ecells (bareE x)).toArray)) :
    Calls Tryd.prog 25 #[.agg X] w fun e w' => e = .returned (.tuple #[.agg B, .bool (toldB x)]) ∧ Below w.heap.size w w' := by
  obtain ⟨Z, HZ, HA, HBZ, HNZ⟩ := noughtsE
  have HSX : Hid ((Tryd.prog.info? 32).map (·.size) = some X.size) := by show _ = _; rw [sizeE, HX.out]; simp [ecells_length _ ok]
  have HSB : Hid ((Tryd.prog.info? 32).map (·.size) = some B.size) := by show _ = _; rw [sizeE, HB.out]; simp [ecells_length _ (bareE_ok ok)]
  have H1B : Hid (B.all (·.oneCell') = true) := by show _ = _; rw [HB.out]; exact one_cellsE _
  have HZB : Hid (Z.size = B.size) := by show _ = _; rw [HNZ.out, HB.out]; simp [ecells_length _ (bareE_ok ok)]
  have HX0 : Hid ((w.alloc (.cells X 32)).heap[w.heap.size]? = some (.cells X 32 (0, 0))) := heap_alloc_new w _
  have HW0 : Hid (Below w.heap.size w (w.alloc (.cells X 32))) := (Below.refl _ _).alloc (Nat.le_refl _) _
  have ER : Hid (∀ W : World, W.heap[w.heap.size]? = some (.cells X 32 (0, 0)) → ERow W w.heap.size 0 x) := fun W h => erow_row ok HX h
  have K0 : Hid (∀ W : World, W.heap[w.heap.size]? = some (.cells X 32 (0, 0)) → W.cell? ⟨w.heap.size, 0, none⟩ = some (.int .i64 1)) := fun W h => by have := (ER.out W h).k; rwa [hk] at this
  obtain ⟨c, Hc⟩ : ∃ c, Hid (c = x.c) := ⟨_, hidk rfl⟩
  obtain ⟨s, Hs⟩ : ∃ c, Hid (c = x.s) := ⟨_, hidk rfl⟩
  obtain ⟨t, Ht⟩ : ∃ c, Hid (c = x.t) := ⟨_, hidk rfl⟩
  have K1 : Hid (∀ W : World, W.heap[w.heap.size]? = some (.cells X 32 (0, 0)) → W.cell? ⟨w.heap.size, 1, none⟩ = some (.int .i64 c)) := fun W h => by have := (ER.out W h).c; rwa [← Hc.out, Nat.zero_add] at this
  have K2 : Hid (∀ W : World, W.heap[w.heap.size]? = some (.cells X 32 (0, 0)) → W.cell? ⟨w.heap.size, 2, none⟩ = some (.int .i64 s)) := fun W h => by have := (ER.out W h).s; rwa [← Hs.out, Nat.zero_add] at this
  have K3 : Hid (∀ W : World, W.heap[w.heap.size]? = some (.cells X 32 (0, 0)) → W.cell? ⟨w.heap.size, 3, none⟩ = some (.string t)) := fun W h => by have := (ER.out W h).t; rwa [← Ht.out, Nat.zero_add] at this
  have BH : Hid (∀ W, (Instr.build 32 #[(0, .int .i64 1), (1, .int .i64 c), (2, .int .i64 s), (3, .string t)]).run Tryd.prog W = .ok (.agg B) W) := fun W => by
    refine run_build W 32 _ B (builtE4 1 c s t B ?_)
    show _ = _
    rw [HB.out, Hc.out, Hs.out, Ht.out]
    unfold bareE
    rw [if_pos hk, hk]
  obtain ⟨u, hu⟩ : ∃ u, u = userR x := ⟨_, rfl⟩
  have U1 : Hid (∀ W, Calls Tryd.prog 47 #[.agg X] W fun e w' => e = .returned (.bool u) ∧ Below W.heap.size W w') := fun W => by rw [hu]; exact eUser_any x ok W X HX
  rw [show toldB x = u by unfold toldB; rw [if_pos hk, hu]]
  clear HX HB HZ HBZ HNZ ok hk hu ER Hc Hs Ht
  go_enter Tryd.func25, Tryd.ntmps25
  go_wp2_with (first
    | (show wpList _ _ _ ({ dst := some 2, op := _, type := _, pos := _, after := _, guard := _ } :: _) _ _; refine wpList_new_var rfl 32 rfl Z HA.out ?_; intro g2 w1 HM2; have c0 := K0.out w1 ((HM2.out.below.block _ (heap_lt HX0.out)).trans HX0.out); try simp only [Act.put, List.setIfInBounds_toArray, List.set_cons_zero, List.set_cons_succ])
    | fail)
  have hg2 : w.heap.size < g2 := by rw [HM2.out.new]; exact heap_lt HX0.out
  have HX1 := hidk ((HM2.out.below.block _ (heap_lt HX0.out)).trans HX0.out)
  have HR2 := hidk HM2.out.row
  have HB1 := hidk (HW0.out.trans (HM2.out.below.mono HW0.out.size))
  clear HM2 HX0 HW0 c0
  refine wp_region_held_drew (S := (fun W => W.heap[w.heap.size]? = some (.cells X 32 (0, 0)))) (by kernel_rfl) HX1.out (fun hHeld => ?_)
  refine wpAnyH_take (i := 0) (oi := { dst := some 8, op := Op.fieldAddr 32 (Operand.tmp 1) 0, type := 0, pos := "entry.go:120", after := #[], guard := none }) (v := .pointer (some ⟨w.heap.size, 0, none⟩)) rfl (by kernel_rfl) (by kernel_rfl) (by kernel_rfl) (fun _ _ _ h => h) (Or.inl ⟨by rfl, by intro W hSw; go_simp⟩) hHeld ?_
  try simp only [Act.put, List.setIfInBounds_toArray, List.set_cons_zero, List.set_cons_succ]
  refine wpAnyH_take (i := 1) (oi := { dst := some 9, op := Op.load 22 (Operand.tmp 8), type := 22, pos := "entry.go:120", after := #[{ on := 0, ground := Ground.data }], guard := none }) (v := .int .i64 1) rfl (by kernel_rfl) (by kernel_rfl) (by kernel_rfl) (fun _ _ _ h => h) (Or.inl ⟨by rfl, by intro W hSw; have h1 := K0.out W hSw; go_simp⟩) hHeld ?_
  try simp only [Act.put, List.setIfInBounds_toArray, List.set_cons_zero, List.set_cons_succ]
  refine wpAnyH_take (i := 2) (oi := { dst := some 10, op := Op.fieldAddr 32 (Operand.tmp 1) 1, type := 0, pos := "entry.go:120", after := #[], guard := none }) (v := .pointer (some ⟨w.heap.size, 1, none⟩)) rfl (by kernel_rfl) (by kernel_rfl) (by kernel_rfl) (fun _ _ _ h => h) (Or.inl ⟨by rfl, by intro W hSw; go_simp⟩) hHeld ?_
  try simp only [Act.put, List.setIfInBounds_toArray, List.set_cons_zero, List.set_cons_succ]
  refine wpAnyH_take (i := 3) (oi := { dst := some 11, op := Op.load 3 (Operand.tmp 10), type := 3, pos := "entry.go:120", after := #[{ on := 2, ground := Ground.data }], guard := none }) (v := .int .i64 c) rfl (by kernel_rfl) (by kernel_rfl) (by kernel_rfl) (fun _ _ _ h => h) (Or.inl ⟨by rfl, by intro W hSw; have h1 := K1.out W hSw; go_simp⟩) hHeld ?_
  try simp only [Act.put, List.setIfInBounds_toArray, List.set_cons_zero, List.set_cons_succ]
  refine wpAnyH_take (i := 4) (oi := { dst := some 12, op := Op.fieldAddr 32 (Operand.tmp 1) 2, type := 0, pos := "entry.go:120", after := #[], guard := none }) (v := .pointer (some ⟨w.heap.size, 2, none⟩)) rfl (by kernel_rfl) (by kernel_rfl) (by kernel_rfl) (fun _ _ _ h => h) (Or.inl ⟨by rfl, by intro W hSw; go_simp⟩) hHeld ?_
  try simp only [Act.put, List.setIfInBounds_toArray, List.set_cons_zero, List.set_cons_succ]
  refine wpAnyH_take (i := 5) (oi := { dst := some 13, op := Op.load 3 (Operand.tmp 12), type := 3, pos := "entry.go:120", after := #[{ on := 4, ground := Ground.data }], guard := none }) (v := .int .i64 s) rfl (by kernel_rfl) (by kernel_rfl) (by kernel_rfl) (fun _ _ _ h => h) (Or.inl ⟨by rfl, by intro W hSw; have h1 := K2.out W hSw; go_simp⟩) hHeld ?_
  try simp only [Act.put, List.setIfInBounds_toArray, List.set_cons_zero, List.set_cons_succ]
  refine wpAnyH_take (i := 6) (oi := { dst := some 14, op := Op.fieldAddr 32 (Operand.tmp 1) 3, type := 0, pos := "entry.go:120", after := #[], guard := none }) (v := .pointer (some ⟨w.heap.size, 3, none⟩)) rfl (by kernel_rfl) (by kernel_rfl) (by kernel_rfl) (fun _ _ _ h => h) (Or.inl ⟨by rfl, by intro W hSw; go_simp⟩) hHeld ?_
  try simp only [Act.put, List.setIfInBounds_toArray, List.set_cons_zero, List.set_cons_succ]
  refine wpAnyH_take (i := 7) (oi := { dst := some 15, op := Op.load 9 (Operand.tmp 14), type := 9, pos := "entry.go:120", after := #[{ on := 6, ground := Ground.data }], guard := none }) (v := .string t) rfl (by kernel_rfl) (by kernel_rfl) (by kernel_rfl) (fun _ _ _ h => h) (Or.inl ⟨by rfl, by intro W hSw; have h1 := K3.out W hSw; go_simp⟩) hHeld ?_
  try simp only [Act.put, List.setIfInBounds_toArray, List.set_cons_zero, List.set_cons_succ]
  refine wpAnyH_take (i := 8) (oi := { dst := some 16, op := Op.build 32 #[(0, Operand.tmp 9), (1, Operand.tmp 11), (2, Operand.tmp 13), (3, Operand.tmp 15)], type := 32, pos := "entry.go:120", after := #[{ on := 1, ground := Ground.data }, { on := 3, ground := Ground.data }, { on := 5, ground := Ground.data }, { on := 7, ground := Ground.data }], guard := none }) (v := .agg B) rfl (by kernel_rfl) (by kernel_rfl) (by kernel_rfl) (fun _ _ _ h => h) (yieldsIf_build (by rfl) 32 _ rfl #[(0, .int .i64 1), (1, .int .i64 c), (2, .int .i64 s), (3, .string t)] rfl (.agg B) BH.out) hHeld ?_
  try simp only [Act.put, List.setIfInBounds_toArray, List.set_cons_zero, List.set_cons_succ]
  refine wpAnyH_take (i := 9) (oi := { dst := some 17, op := Op.load 32 (Operand.tmp 1), type := 32, pos := "entry.go:120", after := #[], guard := none }) (v := .agg X) rfl (by kernel_rfl) (by kernel_rfl) (by kernel_rfl) (fun _ _ _ h => h) (yieldsIf_row (by rfl) 32 (.tmp 1) rfl w.heap.size rfl 32 X (0, 0) _ (fun _ h => h) Tryd.underlying32 rfl HSX.out) hHeld ?_
  try simp only [Act.put, List.setIfInBounds_toArray, List.set_cons_zero, List.set_cons_succ]
  refine wpAnyH_ready (rs := [10]) (by kernel_rfl) (by simp) ?_
  refine (AllReadyH.cons (o := { dst := some 18, op := Op.call { callee := Callee.value (Operand.func 47), args := #[Operand.tmp 17], argTypes := #[32] }, type := 4, pos := "entry.go:120", after := #[{ on := 9, ground := Ground.data }], guard := none }) rfl (fun K hK => ?_) AllReadyH.nil)
  go_simp
  refine (U1.out _).mono ?_
  rintro e w10 ⟨rfl, hbc⟩
  have HBc := hidk (HB1.out.drew.trans (hbc.mono HB1.out.size))
  have HR2c := hidk ((hbc.block g2 (heap_lt HR2.out)).trans HR2.out)
  go_wp2_with fail
  refine hK.out _ _ ((hbc.block _ (heap_lt HX1.out)).trans HX1.out) (fun hHeld => ?_)
  clear hK K
  try simp only [Act.put, List.setIfInBounds_toArray, List.set_cons_zero, List.set_cons_succ]
  refine wpAnyH_ready (rs := [11]) (by kernel_rfl) (by simp) ?_
  refine (AllReadyH.cons (o := { dst := none, op := Op.store 32 (Operand.tmp 2) (Operand.tmp 16), type := 0, pos := "entry.go:120", after := #[{ on := 8, ground := Ground.data }, { on := 10, ground := Ground.chain }, { on := 0, ground := Ground.phase }, { on := 1, ground := Ground.phase }, { on := 2, ground := Ground.phase }, { on := 3, ground := Ground.phase }, { on := 4, ground := Ground.phase }, { on := 5, ground := Ground.phase }, { on := 6, ground := Ground.phase }, { on := 7, ground := Ground.phase }, { on := 8, ground := Ground.phase }, { on := 9, ground := Ground.textOnly Departure.lateStores }, { on := 10, ground := Ground.textOnly Departure.lateStoresUnsure }], guard := none }) rfl (fun K hK => ?_) AllReadyH.nil)
  refine step_set_var (by rfl) 32 (.tmp 2) (.tmp 16) rfl g2 B rfl rfl 32 Z HR2c.out HSB.out HZB.out H1B.out ?_
  intro wz HW2
  refine hK.out _ _ ((HW2.out.other _ (by omega)).trans hHeld) (fun hHeld => ?_)
  clear hK K
  try simp only [Act.put, List.setIfInBounds_toArray, List.set_cons_zero, List.set_cons_succ]
  refine wpAnyH_take (i := 12) (oi := { dst := some 3, op := Op.assign (Operand.tmp 18), type := 4, pos := "entry.go:120", after := #[{ on := 10, ground := Ground.data }, { on := 11, ground := Ground.chain }, { on := 0, ground := Ground.phase }, { on := 1, ground := Ground.phase }, { on := 2, ground := Ground.phase }, { on := 3, ground := Ground.phase }, { on := 4, ground := Ground.phase }, { on := 5, ground := Ground.phase }, { on := 6, ground := Ground.phase }, { on := 7, ground := Ground.phase }, { on := 8, ground := Ground.phase }, { on := 9, ground := Ground.phase }, { on := 10, ground := Ground.phase }, { on := 11, ground := Ground.phase }], guard := none }) (v := .bool u) rfl (by kernel_rfl) (by kernel_rfl) (by kernel_rfl) (fun _ _ _ h => h) (Or.inl ⟨by rfl, by intro W hSw; go_simp⟩) hHeld ?_
  try simp only [Act.put, List.setIfInBounds_toArray, List.set_cons_zero, List.set_cons_succ]
  refine wpAnyH_done (by kernel_rfl) ?_ _
  go_wp2_with fail
  refine bodyPost_ret (v := .tuple #[.agg B, .bool u]) ?_ rfl ⟨rfl, HW2.out.below _ _ HBc.out (by omega)⟩
  exact results_row_tmp (p := 2) (q := 3) (ty := 32) rfl _ _ g2 32 B (0, 0) _ rfl HW2.out.row Tryd.underlying32 rfl HSB.out
set_option maxHeartbeats 8000000 in
theorem eTold_anchor (x : EnT) (ok : OkE x) (hk : x.k = 2) (w : World) (X B : Array Value) (HX : Hid (X = (ecells x).toArray)) (HB : Hid (B = (ecells (bareE x)).toArray)) :
    Calls Tryd.prog 25 #[.agg X] w fun e w' => e = .returned (.tuple #[.agg B, .bool (toldB x)]) ∧ Below w.heap.size w w' := by
  obtain ⟨Z, HZ, HA, HBZ, HNZ⟩ := noughtsE
  have HSX : Hid ((Tryd.prog.info? 32).map (·.size) = some X.size) := by show _ = _; rw [sizeE, HX.out]; simp [ecells_length _ ok]
  have HSB : Hid ((Tryd.prog.info? 32).map (·.size) = some B.size) := by show _ = _; rw [sizeE, HB.out]; simp [ecells_length _ (bareE_ok ok)]
  have H1B : Hid (B.all (·.oneCell') = true) := by show _ = _; rw [HB.out]; exact one_cellsE _
  have HZB : Hid (Z.size = B.size) := by show _ = _; rw [HNZ.out, HB.out]; simp [ecells_length _ (bareE_ok ok)]
  have HX0 : Hid ((w.alloc (.cells X 32)).heap[w.heap.size]? = some (.cells X 32 (0, 0))) := heap_alloc_new w _
  have HW0 : Hid (Below w.heap.size w (w.alloc (.cells X 32))) := (Below.refl _ _).alloc (Nat.le_refl _) _
  have ER : Hid (∀ W : World, W.heap[w.heap.size]? = some (.cells X 32 (0, 0)) → ERow W w.heap.size 0 x) := fun W h => erow_row ok HX h
  have K0 : Hid (∀ W : World, W.heap[w.heap.size]? = some (.cells X 32 (0, 0)) → W.cell? ⟨w.heap.size, 0, none⟩ = some (.int .i64 2)) := fun W h => by have := (ER.out W h).k; rwa [hk] at this
  obtain ⟨Q, HQ, HSQ, H1Q, H69Q⟩ := sign_row x.h ok.h ok.g
  have KQ : Hid (∀ W : World, W.heap[w.heap.size]? = some (.cells X 32 (0, 0)) → W.rangeAt w.heap.size 4 Q.toList) := fun W h => by have := (ER.out W h).h; rw [HQ.out]; simpa using this
  have BH : Hid (∀ W, (Instr.build 32 #[(0, .int .i64 2), (4, .agg Q)]).run Tryd.prog W = .ok (.agg B) W) := fun W => by
    refine run_build W 32 _ B (builtEh 2 x.h ok.h ok.g Q B HQ ?_)
    show _ = _
    rw [HB.out]
    unfold bareE
    rw [if_neg (by omega), if_pos hk, hk]
  obtain ⟨u, hu⟩ : ∃ u, u = mayS x.h := ⟨_, rfl⟩
  have U1 : Hid (∀ W, Calls Tryd.prog 48 #[.agg Q] W fun e w' => e = .returned (.bool u) ∧ Below W.heap.size W w') := fun W => by rw [hu]; exact eMay_any x.h ok.h W Q HQ
  rw [show toldB x = u by unfold toldB; rw [if_neg (by omega), if_pos hk, hu]]
  clear HX HB HZ HBZ HNZ ok hk hu ER HQ
  go_enter Tryd.func25, Tryd.ntmps25
  go_wp2_with (first
    | (show wpList _ _ _ ({ dst := some 2, op := _, type := _, pos := _, after := _, guard := _ } :: _) _ _; refine wpList_new_var rfl 32 rfl Z HA.out ?_; intro g2 w1 HM2; have c0 := K0.out w1 ((HM2.out.below.block _ (heap_lt HX0.out)).trans HX0.out); try simp only [Act.put, List.setIfInBounds_toArray, List.set_cons_zero, List.set_cons_succ])
    | fail)
  have hg2 : w.heap.size < g2 := by rw [HM2.out.new]; exact heap_lt HX0.out
  have HX1 := hidk ((HM2.out.below.block _ (heap_lt HX0.out)).trans HX0.out)
  have HR2 := hidk HM2.out.row
  have HB1 := hidk (HW0.out.trans (HM2.out.below.mono HW0.out.size))
  clear HM2 HX0 HW0 c0
  refine wp_region_held_drew (S := (fun W => W.heap[w.heap.size]? = some (.cells X 32 (0, 0)))) (by kernel_rfl) HX1.out (fun hHeld => ?_)
  refine wpAnyH_take (i := 0) (oi := { dst := some 21, op := Op.fieldAddr 32 (Operand.tmp 1) 0, type := 0, pos := "entry.go:122", after := #[], guard := none }) (v := .pointer (some ⟨w.heap.size, 0, none⟩)) rfl (by kernel_rfl) (by kernel_rfl) (by kernel_rfl) (fun _ _ _ h => h) (Or.inl ⟨by rfl, by intro W hSw; go_simp⟩) hHeld ?_
  try simp only [Act.put, List.setIfInBounds_toArray, List.set_cons_zero, List.set_cons_succ]
  refine wpAnyH_take (i := 1) (oi := { dst := some 22, op := Op.load 22 (Operand.tmp 21), type := 22, pos := "entry.go:122", after := #[{ on := 0, ground := Ground.data }], guard := none }) (v := .int .i64 2) rfl (by kernel_rfl) (by kernel_rfl) (by kernel_rfl) (fun _ _ _ h => h) (Or.inl ⟨by rfl, by intro W hSw; have h1 := K0.out W hSw; go_simp⟩) hHeld ?_
  try simp only [Act.put, List.setIfInBounds_toArray, List.set_cons_zero, List.set_cons_succ]
  refine wpAnyH_take (i := 2) (oi := { dst := some 23, op := Op.fieldAddr 32 (Operand.tmp 1) 4, type := 0, pos := "entry.go:122", after := #[], guard := none }) (v := .pointer (some ⟨w.heap.size, 4, none⟩)) rfl (by kernel_rfl) (by kernel_rfl) (by kernel_rfl) (fun _ _ _ h => h) (Or.inl ⟨by rfl, by intro W hSw; go_simp⟩) hHeld ?_
  try simp only [Act.put, List.setIfInBounds_toArray, List.set_cons_zero, List.set_cons_succ]
  refine wpAnyH_take (i := 3) (oi := { dst := some 24, op := Op.load 28 (Operand.tmp 23), type := 28, pos := "entry.go:122", after := #[{ on := 2, ground := Ground.data }], guard := none }) (v := .agg Q) rfl (by kernel_rfl) (by kernel_rfl) (by kernel_rfl) (fun _ _ _ h => h) (yieldsIf_mid (by rfl) 28 (.tmp 23) rfl w.heap.size 4 rfl Q _ (fun W h => KQ.out W h) Tryd.underlying28 rfl HSQ.out) hHeld ?_
  try simp only [Act.put, List.setIfInBounds_toArray, List.set_cons_zero, List.set_cons_succ]
  refine wpAnyH_take (i := 4) (oi := { dst := some 25, op := Op.build 32 #[(0, Operand.tmp 22), (4, Operand.tmp 24)], type := 32, pos := "entry.go:122", after := #[{ on := 1, ground := Ground.data }, { on := 3, ground := Ground.data }], guard := none }) (v := .agg B) rfl (by kernel_rfl) (by kernel_rfl) (by kernel_rfl) (fun _ _ _ h => h) (yieldsIf_build (by rfl) 32 _ rfl #[(0, .int .i64 2), (4, .agg Q)] rfl (.agg B) BH.out) hHeld ?_
  try simp only [Act.put, List.setIfInBounds_toArray, List.set_cons_zero, List.set_cons_succ]
  refine wpAnyH_take (i := 5) (oi := { dst := some 26, op := Op.fieldAddr 32 (Operand.tmp 1) 4, type := 0, pos := "entry.go:122", after := #[], guard := none }) (v := .pointer (some ⟨w.heap.size, 4, none⟩)) rfl (by kernel_rfl) (by kernel_rfl) (by kernel_rfl) (fun _ _ _ h => h) (Or.inl ⟨by rfl, by intro W hSw; go_simp⟩) hHeld ?_
  try simp only [Act.put, List.setIfInBounds_toArray, List.set_cons_zero, List.set_cons_succ]
  refine wpAnyH_take (i := 6) (oi := { dst := some 27, op := Op.load 28 (Operand.tmp 26), type := 28, pos := "entry.go:122", after := #[{ on := 5, ground := Ground.data }], guard := none }) (v := .agg Q) rfl (by kernel_rfl) (by kernel_rfl) (by kernel_rfl) (fun _ _ _ h => h) (yieldsIf_mid (by rfl) 28 (.tmp 26) rfl w.heap.size 4 rfl Q _ (fun W h => KQ.out W h) Tryd.underlying28 rfl HSQ.out) hHeld ?_
  try simp only [Act.put, List.setIfInBounds_toArray, List.set_cons_zero, List.set_cons_succ]
  refine wpAnyH_ready (rs := [7]) (by kernel_rfl) (by simp) ?_
  refine (AllReadyH.cons (o := { dst := some 28, op := Op.call { callee := Callee.value (Operand.func 48), args := #[Operand.tmp 27], argTypes := #[28] }, type := 4, pos := "entry.go:122", after := #[{ on := 6, ground := Ground.data }], guard := none }) rfl (fun K hK => ?_) AllReadyH.nil)
  go_simp
  refine (U1.out _).mono ?_
  rintro e w7 ⟨rfl, hbc⟩
  have HBc := hidk (HB1.out.drew.trans (hbc.mono HB1.out.size))
  have HR2c := hidk ((hbc.block g2 (heap_lt HR2.out)).trans HR2.out)
  go_wp2_with fail
  refine hK.out _ _ ((hbc.block _ (heap_lt HX1.out)).trans HX1.out) (fun hHeld => ?_)
  clear hK K
  try simp only [Act.put, List.setIfInBounds_toArray, List.set_cons_zero, List.set_cons_succ]
  refine wpAnyH_ready (rs := [8]) (by kernel_rfl) (by simp) ?_
  refine (AllReadyH.cons (o := { dst := none, op := Op.store 32 (Operand.tmp 2) (Operand.tmp 25), type := 0, pos := "entry.go:122", after := #[{ on := 4, ground := Ground.data }, { on := 7, ground := Ground.chain }, { on := 0, ground := Ground.phase }, { on := 1, ground := Ground.phase }, { on := 2, ground := Ground.phase }, { on := 3, ground := Ground.phase }, { on := 4, ground := Ground.phase }, { on := 5, ground := Ground.textOnly Departure.lateStores }, { on := 6, ground := Ground.textOnly Departure.lateStores }, { on := 7, ground := Ground.textOnly Departure.lateStoresUnsure }], guard := none }) rfl (fun K hK => ?_) AllReadyH.nil)
  refine step_set_var (by rfl) 32 (.tmp 2) (.tmp 25) rfl g2 B rfl rfl 32 Z HR2c.out HSB.out HZB.out H1B.out ?_
  intro wz HW2
  refine hK.out _ _ ((HW2.out.other _ (by omega)).trans hHeld) (fun hHeld => ?_)
  clear hK K
  try simp only [Act.put, List.setIfInBounds_toArray, List.set_cons_zero, List.set_cons_succ]
  refine wpAnyH_take (i := 9) (oi := { dst := some 3, op := Op.assign (Operand.tmp 28), type := 4, pos := "entry.go:122", after := #[{ on := 7, ground := Ground.data }, { on := 8, ground := Ground.chain }, { on := 0, ground := Ground.phase }, { on := 1, ground := Ground.phase }, { on := 2, ground := Ground.phase }, { on := 3, ground := Ground.phase }, { on := 4, ground := Ground.phase }, { on := 5, ground := Ground.phase }, { on := 6, ground := Ground.phase }, { on := 7, ground := Ground.phase }, { on := 8, ground := Ground.phase }], guard := none }) (v := .bool u) rfl (by kernel_rfl) (by kernel_rfl) (by kernel_rfl) (fun _ _ _ h => h) (Or.inl ⟨by rfl, by intro W hSw; go_simp⟩) hHeld ?_
  try simp only [Act.put, List.setIfInBounds_toArray, List.set_cons_zero, List.set_cons_succ]
  refine wpAnyH_done (by kernel_rfl) ?_ _
  go_wp2_with fail
  refine bodyPost_ret (v := .tuple #[.agg B, .bool u]) ?_ rfl ⟨rfl, HW2.out.below _ _ HBc.out (by omega)⟩
  exact results_row_tmp (p := 2) (q := 3) (ty := 32) rfl _ _ g2 32 B (0, 0) _ rfl HW2.out.row Tryd.underlying32 rfl HSB.out
set_option maxHeartbeats 8000000 in
theorem eTold_claim (x : EnT) (ok : OkE x) (hk : x.k = 3) (w : World) (X B : Array Value) (HX : Hid (X = (ecells x).toArray)) (HB : Hid (B = (ecells (bareE x)).toArray)) :
    Calls Tryd.prog 25 #[.agg X] w fun e w' => e = .returned (.tuple #[.agg B, .bool (toldB x)]) ∧ Below w.heap.size w w' := by
  obtain ⟨Z, HZ, HA, HBZ, HNZ⟩ := noughtsE
  have HSX : Hid ((Tryd.prog.info? 32).map (·.size) = some X.size) := by show _ = _; rw [sizeE, HX.out]; simp [ecells_length _ ok]
  have HSB : Hid ((Tryd.prog.info? 32).map (·.size) = some B.size) := by show _ = _; rw [sizeE, HB.out]; simp [ecells_length _ (bareE_ok ok)]
  have H1B : Hid (B.all (·.oneCell') = true) := by show _ = _; rw [HB.out]; exact one_cellsE _
  have HZB : Hid (Z.size = B.size) := by show _ = _; rw [HNZ.out, HB.out]; simp [ecells_length _ (bareE_ok ok)]
  have HX0 : Hid ((w.alloc (.cells X 32)).heap[w.heap.size]? = some (.cells X 32 (0, 0))) := heap_alloc_new w _
  have HW0 : Hid (Below w.heap.size w (w.alloc (.cells X 32))) := (Below.refl _ _).alloc (Nat.le_refl _) _
  have ER : Hid (∀ W : World, W.heap[w.heap.size]? = some (.cells X 32 (0, 0)) → ERow W w.heap.size 0 x) := fun W h => erow_row ok HX h
  have K0 : Hid (∀ W : World, W.heap[w.heap.size]? = some (.cells X 32 (0, 0)) → W.cell? ⟨w.heap.size, 0, none⟩ = some (.int .i64 3)) := fun W h => by have := (ER.out W h).k; rwa [hk] at this
  obtain ⟨Q, HQ, HSQ, H1Q, H36Q⟩ := claim_row5 x.m ok.m
  have KQ : Hid (∀ W : World, W.heap[w.heap.size]? = some (.cells X 32 (0, 0)) → W.rangeAt w.heap.size 73 Q.toList) := fun W h => by have := (ER.out W h).m; rw [HQ.out]; simpa using this
  have BH : Hid (∀ W, (Instr.build 32 #[(0, .int .i64 3), (5, .agg Q)]).run Tryd.prog W = .ok (.agg B) W) := fun W => by
    refine run_build W 32 _ B (builtEm 3 x.m ok.m Q B HQ ?_)
    show _ = _
    rw [HB.out]
    unfold bareE
    rw [if_neg (by omega), if_neg (by omega), if_pos hk, hk]
  obtain ⟨E, hE⟩ : ∃ u, u = cE x.m := ⟨_, rfl⟩
  have U1 : Hid (∀ W, Calls Tryd.prog 36 #[.agg Q] W fun e w' => e = .returned (.int .i64 E) ∧ Below W.heap.size W w') := fun W => by rw [hE]; exact eCheckC_any x.m W Q HQ
  obtain ⟨u, hu, huE⟩ : ∃ u, u = rightC x.m ∧ (E == 0) = u := ⟨_, rfl, by rw [hE]; unfold cE; cases rightC x.m <;> rfl⟩
  rw [show toldB x = u by unfold toldB; rw [if_neg (by omega), if_neg (by omega), if_pos hk, hu]]
  have HUE := hidk huE
  clear HX HB HZ HBZ HNZ ok hk hu ER HQ hE huE
  go_enter Tryd.func25, Tryd.ntmps25
  go_wp2_with (first
    | (show wpList _ _ _ ({ dst := some 2, op := _, type := _, pos := _, after := _, guard := _ } :: _) _ _; refine wpList_new_var rfl 32 rfl Z HA.out ?_; intro g2 w1 HM2; have c0 := K0.out w1 ((HM2.out.below.block _ (heap_lt HX0.out)).trans HX0.out); try simp only [Act.put, List.setIfInBounds_toArray, List.set_cons_zero, List.set_cons_succ])
    | fail)
  have hg2 : w.heap.size < g2 := by rw [HM2.out.new]; exact heap_lt HX0.out
  have HX1 := hidk ((HM2.out.below.block _ (heap_lt HX0.out)).trans HX0.out)
  have HR2 := hidk HM2.out.row
  have HB1 := hidk (HW0.out.trans (HM2.out.below.mono HW0.out.size))
  clear HM2 HX0 HW0 c0
  refine wp_region_held_drew (S := (fun W => W.heap[w.heap.size]? = some (.cells X 32 (0, 0)))) (by kernel_rfl) HX1.out (fun hHeld => ?_)
  refine wpAnyH_take (i := 0) (oi := { dst := some 31, op := Op.fieldAddr 32 (Operand.tmp 1) 0, type := 0, pos := "entry.go:124", after := #[], guard := none }) (v := .pointer (some ⟨w.heap.size, 0, none⟩)) rfl (by kernel_rfl) (by kernel_rfl) (by kernel_rfl) (fun _ _ _ h => h) (Or.inl ⟨by rfl, by intro W hSw; go_simp⟩) hHeld ?_
  try simp only [Act.put, List.setIfInBounds_toArray, List.set_cons_zero, List.set_cons_succ]
  refine wpAnyH_take (i := 1) (oi := { dst := some 32, op := Op.load 22 (Operand.tmp 31), type := 22, pos := "entry.go:124", after := #[{ on := 0, ground := Ground.data }], guard := none }) (v := .int .i64 3) rfl (by kernel_rfl) (by kernel_rfl) (by kernel_rfl) (fun _ _ _ h => h) (Or.inl ⟨by rfl, by intro W hSw; have h1 := K0.out W hSw; go_simp⟩) hHeld ?_
  try simp only [Act.put, List.setIfInBounds_toArray, List.set_cons_zero, List.set_cons_succ]
  refine wpAnyH_take (i := 2) (oi := { dst := some 33, op := Op.fieldAddr 32 (Operand.tmp 1) 5, type := 0, pos := "entry.go:124", after := #[], guard := none }) (v := .pointer (some ⟨w.heap.size, 73, none⟩)) rfl (by kernel_rfl) (by kernel_rfl) (by kernel_rfl) (fun _ _ _ h => h) (Or.inl ⟨by rfl, by intro W hSw; go_simp⟩) hHeld ?_
  try simp only [Act.put, List.setIfInBounds_toArray, List.set_cons_zero, List.set_cons_succ]
  refine wpAnyH_take (i := 3) (oi := { dst := some 34, op := Op.load 30 (Operand.tmp 33), type := 30, pos := "entry.go:124", after := #[{ on := 2, ground := Ground.data }], guard := none }) (v := .agg Q) rfl (by kernel_rfl) (by kernel_rfl) (by kernel_rfl) (fun _ _ _ h => h) (yieldsIf_mid (by rfl) 30 (.tmp 33) rfl w.heap.size 73 rfl Q _ (fun W h => KQ.out W h) Tryd.underlying30 rfl HSQ.out) hHeld ?_
  try simp only [Act.put, List.setIfInBounds_toArray, List.set_cons_zero, List.set_cons_succ]
  refine wpAnyH_take (i := 4) (oi := { dst := some 35, op := Op.build 32 #[(0, Operand.tmp 32), (5, Operand.tmp 34)], type := 32, pos := "entry.go:124", after := #[{ on := 1, ground := Ground.data }, { on := 3, ground := Ground.data }], guard := none }) (v := .agg B) rfl (by kernel_rfl) (by kernel_rfl) (by kernel_rfl) (fun _ _ _ h => h) (yieldsIf_build (by rfl) 32 _ rfl #[(0, .int .i64 3), (5, .agg Q)] rfl (.agg B) BH.out) hHeld ?_
  try simp only [Act.put, List.setIfInBounds_toArray, List.set_cons_zero, List.set_cons_succ]
  refine wpAnyH_take (i := 5) (oi := { dst := some 36, op := Op.fieldAddr 32 (Operand.tmp 1) 5, type := 0, pos := "entry.go:124", after := #[], guard := none }) (v := .pointer (some ⟨w.heap.size, 73, none⟩)) rfl (by kernel_rfl) (by kernel_rfl) (by kernel_rfl) (fun _ _ _ h => h) (Or.inl ⟨by rfl, by intro W hSw; go_simp⟩) hHeld ?_
  try simp only [Act.put, List.setIfInBounds_toArray, List.set_cons_zero, List.set_cons_succ]
  refine wpAnyH_take (i := 6) (oi := { dst := some 37, op := Op.load 30 (Operand.tmp 36), type := 30, pos := "entry.go:124", after := #[{ on := 5, ground := Ground.data }], guard := none }) (v := .agg Q) rfl (by kernel_rfl) (by kernel_rfl) (by kernel_rfl) (fun _ _ _ h => h) (yieldsIf_mid (by rfl) 30 (.tmp 36) rfl w.heap.size 73 rfl Q _ (fun W h => KQ.out W h) Tryd.underlying30 rfl HSQ.out) hHeld ?_
  try simp only [Act.put, List.setIfInBounds_toArray, List.set_cons_zero, List.set_cons_succ]
  refine wpAnyH_ready (rs := [7]) (by kernel_rfl) (by simp) ?_
  refine (AllReadyH.cons (o := { dst := some 38, op := Op.call { callee := Callee.value (Operand.func 36), args := #[Operand.tmp 37], argTypes := #[30] }, type := 34, pos := "entry.go:124", after := #[{ on := 6, ground := Ground.data }], guard := none }) rfl (fun K hK => ?_) AllReadyH.nil)
  go_simp
  refine (U1.out _).mono ?_
  rintro e w7 ⟨rfl, hbc⟩
  have HBc := hidk (HB1.out.drew.trans (hbc.mono HB1.out.size))
  have HR2c := hidk ((hbc.block g2 (heap_lt HR2.out)).trans HR2.out)
  go_wp2_with fail
  refine hK.out _ _ ((hbc.block _ (heap_lt HX1.out)).trans HX1.out) (fun hHeld => ?_)
  clear hK K
  try simp only [Act.put, List.setIfInBounds_toArray, List.set_cons_zero, List.set_cons_succ]
  refine wpAnyH_take (i := 8) (oi := { dst := some 39, op := Op.binOp BinOp.eql 34 (Operand.tmp 38) (Operand.const (Value.int IntKind.i64 0)) 34, type := 4, pos := "entry.go:124", after := #[{ on := 7, ground := Ground.data }, { on := 9, ground := Ground.gcOnly Departure.lateStores }], guard := none }) (v := .bool u) rfl (by kernel_rfl) (by kernel_rfl) (by kernel_rfl) (fun _ _ _ h => h) (Or.inl ⟨by rfl, by intro W hSw; have h1 := HUE.out; go_simp⟩) hHeld ?_
  try simp only [Act.put, List.setIfInBounds_toArray, List.set_cons_zero, List.set_cons_succ]
  refine wpAnyH_ready (rs := [9]) (by kernel_rfl) (by simp) ?_
  refine (AllReadyH.cons (o := { dst := none, op := Op.store 32 (Operand.tmp 2) (Operand.tmp 35), type := 0, pos := "entry.go:124", after := #[{ on := 4, ground := Ground.data }, { on := 7, ground := Ground.chain }, { on := 0, ground := Ground.phase }, { on := 1, ground := Ground.phase }, { on := 2, ground := Ground.phase }, { on := 3, ground := Ground.phase }, { on := 4, ground := Ground.phase }, { on := 5, ground := Ground.textOnly Departure.lateStores }, { on := 6, ground := Ground.textOnly Departure.lateStores }, { on := 7, ground := Ground.textOnly Departure.lateStoresUnsure }, { on := 8, ground := Ground.textOnly Departure.lateStores }], guard := none }) rfl (fun K hK => ?_) AllReadyH.nil)
  refine step_set_var (by rfl) 32 (.tmp 2) (.tmp 35) rfl g2 B rfl rfl 32 Z HR2c.out HSB.out HZB.out H1B.out ?_
  intro wz HW2
  refine hK.out _ _ ((HW2.out.other _ (by omega)).trans hHeld) (fun hHeld => ?_)
  clear hK K
  try simp only [Act.put, List.setIfInBounds_toArray, List.set_cons_zero, List.set_cons_succ]
  refine wpAnyH_take (i := 10) (oi := { dst := some 3, op := Op.assign (Operand.tmp 39), type := 4, pos := "entry.go:124", after := #[{ on := 8, ground := Ground.data }, { on := 9, ground := Ground.chain }, { on := 0, ground := Ground.phase }, { on := 1, ground := Ground.phase }, { on := 2, ground := Ground.phase }, { on := 3, ground := Ground.phase }, { on := 4, ground := Ground.phase }, { on := 5, ground := Ground.phase }, { on := 6, ground := Ground.phase }, { on := 7, ground := Ground.phase }, { on := 8, ground := Ground.phase }, { on := 9, ground := Ground.phase }], guard := none }) (v := .bool u) rfl (by kernel_rfl) (by kernel_rfl) (by kernel_rfl) (fun _ _ _ h => h) (Or.inl ⟨by rfl, by intro W hSw; go_simp⟩) hHeld ?_
  try simp only [Act.put, List.setIfInBounds_toArray, List.set_cons_zero, List.set_cons_succ]
  refine wpAnyH_done (by kernel_rfl) ?_ _
  go_wp2_with fail
  refine bodyPost_ret (v := .tuple #[.agg B, .bool u]) ?_ rfl ⟨rfl, HW2.out.below _ _ HBc.out (by omega)⟩
  exact results_row_tmp (p := 2) (q := 3) (ty := 32) rfl _ _ g2 32 B (0, 0) _ rfl HW2.out.row Tryd.underlying32 rfl HSB.out
set_option maxHeartbeats 8000000 in
theorem eTold_none (x : EnT) (ok : OkE x) (hk : ¬ x.k = 1 ∧ ¬ x.k = 2 ∧ ¬ x.k = 3) (w : World) (X B : Array Value) (HX : Hid (X = (ecells x).toArray)) (HB : Hid (B = (ecells (bareE x)).toArray)) :
    Calls Tryd.prog 25 #[.agg X] w fun e w' => e = .returned (.tuple #[.agg B, .bool (toldB x)]) ∧ Below w.heap.size w w' := by
  obtain ⟨Z, HZ, HA, HBZ, HNZ⟩ := noughtsE
  have HSX : Hid ((Tryd.prog.info? 32).map (·.size) = some X.size) := by show _ = _; rw [sizeE, HX.out]; simp [ecells_length _ ok]
  have HSB : Hid ((Tryd.prog.info? 32).map (·.size) = some B.size) := by show _ = _; rw [sizeE, HB.out]; simp [ecells_length _ (bareE_ok ok)]
  have H1B : Hid (B.all (·.oneCell') = true) := by show _ = _; rw [HB.out]; exact one_cellsE _
  have HZB : Hid (Z.size = B.size) := by show _ = _; rw [HNZ.out, HB.out]; simp [ecells_length _ (bareE_ok ok)]
  have HX0 : Hid ((w.alloc (.cells X 32)).heap[w.heap.size]? = some (.cells X 32 (0, 0))) := heap_alloc_new w _
  have HW0 : Hid (Below w.heap.size w (w.alloc (.cells X 32))) := (Below.refl _ _).alloc (Nat.le_refl _) _
  have ER : Hid (∀ W : World, W.heap[w.heap.size]? = some (.cells X 32 (0, 0)) → ERow W w.heap.size 0 x) := fun W h => erow_row ok HX h
  obtain ⟨h1, h2, h3⟩ := hk
  obtain rfl : B = Z := by rw [HB.out, HZ.out]; unfold bareE; rw [if_neg h1, if_neg h2, if_neg h3]
  rw [show toldB x = false by unfold toldB; rw [if_neg h1, if_neg h2, if_neg h3]]
  have q1 : (x.k == 1) = false := by rw [beq_eq_false_iff_ne]; exact h1
  have q2 : (x.k == 2) = false := by rw [beq_eq_false_iff_ne]; exact h2
  have q3 : (x.k == 3) = false := by rw [beq_eq_false_iff_ne]; exact h3
  have d1 : decide (x.k = 1) = false := by rw [decide_eq_false_iff_not]; exact h1
  have d2 : decide (x.k = 2) = false := by rw [decide_eq_false_iff_not]; exact h2
  have d3 : decide (x.k = 3) = false := by rw [decide_eq_false_iff_not]; exact h3
  obtain ⟨k, hk⟩ : ∃ k, k = x.k := ⟨_, rfl⟩
  rw [← hk] at q1 q2 q3 d1 d2 d3 h1 h2 h3
  have K0 : Hid (∀ W : World, W.heap[w.heap.size]? = some (.cells X 32 (0, 0)) → W.cell? ⟨w.heap.size, 0, none⟩ = some (.int .i64 k)) := fun W h => by have := (ER.out W h).k; rwa [← hk] at this
  clear HX HB HZ HNZ ok hk ER
  go_enter Tryd.func25, Tryd.ntmps25
  go_wp2_with (first
    | (show wpList _ _ _ ({ dst := some 2, op := _, type := _, pos := _, after := _, guard := _ } :: _) _ _; refine wpList_new_var rfl 32 rfl B HA.out ?_; intro g2 w1 HM2; have c0 := K0.out w1 ((HM2.out.below.block _ (heap_lt HX0.out)).trans HX0.out); try simp only [Act.put, List.setIfInBounds_toArray, List.set_cons_zero, List.set_cons_succ])
    | (show wpList _ _ _ ({ dst := some 40, op := _, type := _, pos := _, after := _, guard := _ } :: _) _ _; refine wpList_build_none rfl 32 rfl B HBZ.out ?_; try simp only [Act.put, List.setIfInBounds_toArray, List.set_cons_zero, List.set_cons_succ])
    | (refine wpList_set_var rfl 32 (.tmp 2) (.tmp 40) rfl g2 B rfl rfl 32 B HM2.out.row HSB.out rfl H1B.out ?_; intro wz HW2; try simp only [Act.put, List.setIfInBounds_toArray, List.set_cons_zero, List.set_cons_succ])
    | fail)
  have hg2 : w.heap.size < g2 := by rw [HM2.out.new]; exact heap_lt HX0.out
  have HB1 := hidk (HW0.out.trans (HM2.out.below.mono HW0.out.size))
  refine bodyPost_ret (v := .tuple #[.agg B, .bool false]) ?_ rfl ⟨rfl, HW2.out.below _ _ HB1.out (by omega)⟩
  exact results_row_tmp (p := 2) (q := 3) (ty := 32) rfl _ _ g2 32 B (0, 0) _ rfl HW2.out.row Tryd.underlying32 rfl HSB.out
theorem eTold_any (x : EnT) (ok : OkE x) (w : World) (X B : Array Value) (HX : Hid (X = (ecells x).toArray)) (HB : Hid (B = (ecells (bareE x)).toArray)) :
    Calls Tryd.prog 25 #[.agg X] w fun e w' => e = .returned (.tuple #[.agg B, .bool (toldB x)]) ∧ Below w.heap.size w w' := by
  by_cases h1 : x.k = 1
  · exact eTold_user x ok h1 w X B HX HB
  by_cases h2 : x.k = 2
  · exact eTold_anchor x ok h2 w X B HX HB
  by_cases h3 : x.k = 3
  · exact eTold_claim x ok h3 w X B HX HB
  exact eTold_none x ok ⟨h1, h2, h3⟩ w X B HX HB
set_option maxHeartbeats 4000000 in
theorem eCheck_any (x : EnT) (ok : OkE x) (w : World) (X : Array Value) (HX : Hid (X = (ecells x).toArray)) :
    Calls Tryd.prog 9 #[.agg X] w fun e w' => e = .returned (.int .i64 (eE x)) ∧ Below w.heap.size w w' := by
  have hnot : ∀ (x : Bool) (w : World), (Op.unary .not (.bool x)).run Tryd.prog w = .ok (.bool (!x)) w := fun _ _ => rfl
  obtain ⟨Z, HZ, HA, HBZ, HNZ⟩ := noughtsE
  obtain ⟨B, HB, HSB, H1B, HNB⟩ := entry_row (bareE x) (bareE_ok ok)
  have HSX : Hid ((Tryd.prog.info? 32).map (·.size) = some X.size) := by show _ = _; rw [sizeE, HX.out]; simp [ecells_length _ ok]
  have HZB : Hid (Z.size = B.size) := by show _ = _; rw [HNZ.out, HNB.out]
  have HX0 : Hid ((w.alloc (.cells X 32)).heap[w.heap.size]? = some (.cells X 32 (0, 0))) := heap_alloc_new w _
  have HW0 : Hid (Below w.heap.size w (w.alloc (.cells X 32))) := (Below.refl _ _).alloc (Nat.le_refl _) _
  obtain ⟨u, hu⟩ : ∃ u, u = toldB x := ⟨_, rfl⟩
  obtain ⟨q, hq⟩ : ∃ q : Bool, q = false ↔ bareE x = x := by
    by_cases h : bareE x = x
    · exact ⟨false, by simp [h]⟩
    · exact ⟨true, by simp [h]⟩
  have T1 : Hid (∀ W, Calls Tryd.prog 25 #[.agg X] W fun e w' => e = .returned (.tuple #[.agg B, .bool u]) ∧ Below W.heap.size W w') := fun W => by rw [hu]; exact eTold_any x ok W X B HX HB
  have NQ : ∀ W, (binOp .neq 32 (.agg B) (.agg X)).run Tryd.prog W = .ok (.bool q) W := fun W => neqEntry (bareE x) x (bareE_ok ok) ok B X HB HX q hq W
  have hE : eE x = if (u && !q) = true then 0 else 60 := by
    unfold eE
    congr 1
    rw [eq_iff_iff, told_right, hu, Bool.and_eq_true, ← hq]
    cases q <;> simp
  rw [hE]
  clear HX HB hE hu hq HZ HBZ HNZ HNB ok
  cases u
  · go_enter Tryd.func9, Tryd.ntmps9
    go_wp2_with (first
      | (show wpList _ _ _ ({ dst := some 6, op := _, type := _, pos := _, after := _, guard := _ } :: _) _ _; refine wpList_load_row rfl 32 (.tmp 1) rfl w.heap.size rfl 32 X (0, 0) _ HX0.out Tryd.underlying32 rfl HSX.out ?_; try simp only [Act.put, List.setIfInBounds_toArray, List.set_cons_zero, List.set_cons_succ])
      | fail)
    refine (T1.out _).mono ?_
    rintro e w1 ⟨rfl, hb1⟩
    have HB1 := hidk (HW0.out.trans (hb1.mono HW0.out.size))
    clear hb1 T1
    go_wp2_with (first
      | (show wpList _ _ _ ({ dst := some 3, op := _, type := _, pos := _, after := _, guard := _ } :: _) _ _; refine wpList_new_var rfl 32 rfl Z HA.out ?_; intro g3 w2 HM3; try simp only [Act.put, List.setIfInBounds_toArray, List.set_cons_zero, List.set_cons_succ])
      | (refine wpList_set_var rfl 32 (.tmp 3) (.tmp 8) rfl g3 B rfl rfl 32 Z HM3.out.row HSB.out HZB.out H1B.out ?_; intro w3 HW3; try simp only [Act.put, List.setIfInBounds_toArray, List.set_cons_zero, List.set_cons_succ])
      | fail)
    have h3 : w.heap.size ≤ g3 := by rw [HM3.out.new]; exact HB1.out.size
    go_ret
    exact ⟨rfl, HW3.out.below _ _ (HB1.out.trans (HM3.out.below.mono HB1.out.size)) h3⟩
  · go_enter Tryd.func9, Tryd.ntmps9
    go_wp2_with (first
      | (show wpList _ _ _ ({ dst := some 6, op := _, type := _, pos := _, after := _, guard := _ } :: _) _ _; refine wpList_load_row rfl 32 (.tmp 1) rfl w.heap.size rfl 32 X (0, 0) _ HX0.out Tryd.underlying32 rfl HSX.out ?_; try simp only [Act.put, List.setIfInBounds_toArray, List.set_cons_zero, List.set_cons_succ])
      | fail)
    refine (T1.out _).mono ?_
    rintro e w1 ⟨rfl, hb1⟩
    have HB1 := hidk (HW0.out.trans (hb1.mono HW0.out.size))
    have HX1 := hidk ((hb1.block _ (heap_lt HX0.out)).trans HX0.out)
    have hx1 := heap_lt HX1.out
    clear hb1 T1
    cases q
    all_goals
      go_wp2_with (first
        | (show wpList _ _ _ ({ dst := some 3, op := _, type := _, pos := _, after := _, guard := _ } :: _) _ _; refine wpList_new_var rfl 32 rfl Z HA.out ?_; intro g3 w2 HM3; try simp only [Act.put, List.setIfInBounds_toArray, List.set_cons_zero, List.set_cons_succ])
        | (refine wpList_set_var rfl 32 (.tmp 3) (.tmp 8) rfl g3 B rfl rfl 32 Z HM3.out.row HSB.out HZB.out H1B.out ?_; intro w3 HW3; try simp only [Act.put, List.setIfInBounds_toArray, List.set_cons_zero, List.set_cons_succ])
        | (show wpList _ _ _ ({ dst := some 13, op := _, type := _, pos := _, after := _, guard := _ } :: _) _ _; refine wpList_load_row_w (by rfl) 32 (.tmp 3) rfl g3 rfl 32 B (0, 0) _ HW3.out.row Tryd.underlying32 rfl HSB.out ?_; try simp only [Act.put, List.setIfInBounds_toArray, List.set_cons_zero, List.set_cons_succ])
        | (show wpList _ _ _ ({ dst := some 14, op := _, type := _, pos := _, after := _, guard := _ } :: _) _ _; refine wpList_load_row_w (by rfl) 32 (.tmp 1) rfl w.heap.size rfl 32 X (0, 0) _ ((HW3.out.other _ (by have e1 := HM3.out.new; omega)).trans ((HM3.out.below.block _ hx1).trans HX1.out)) Tryd.underlying32 rfl HSX.out ?_; try simp only [Act.put, List.setIfInBounds_toArray, List.set_cons_zero, List.set_cons_succ])
        | fail)
      have h3 : w.heap.size ≤ g3 := by rw [HM3.out.new]; exact HB1.out.size
      go_ret
      exact ⟨rfl, HW3.out.below _ _ (HB1.out.trans (HM3.out.below.mono HB1.out.size)) h3⟩
end Go.Proofs.YtgkfodmccfnaoaaDoor

/- What head.Put answers; a right head's bytes as a text, and what is signed of it. -/
namespace Go.Proofs.YtgkfodmccfnaoaaDoor
open Go.RowKit Sums Nums
set_option linter.unusedVariables false
set_option linter.unusedSimpArgs false
set_option maxRecDepth 100000
theorem reads_no (w : World) : Reads w none 0 0 [] := ⟨rfl, Nat.le_refl _, by decide, .inl ⟨rfl, rfl⟩⟩
theorem bytes_no (w : World) (E : Int) : BytesE [] E (.returned (.tuple #[.slice none 0 0, .int .i64 E])) w := ⟨none, 0, rfl, reads_no w⟩
theorem rowOf_ok {fs : List (Int × ByteArray)} (h : layE 0 fs = 0) : rowOf fs = rowB fs := by unfold rowOf; rw [if_pos h]
set_option maxHeartbeats 2000000 in
theorem hPut_no (h : HdT) (hd : h.d.length = 32) (hr : rightH h = false) (w : World) (C : Array Value) (HC : Hid (C = (hcells h).toArray)) :
    Calls Tryd.prog 95 #[.agg C] w fun e w' => BytesE [] 70 e w' ∧ Below w.heap.size w w' := by
  have HSC : Hid ((Tryd.prog.info? 26).map (·.size) = some C.size) := by show _ = _; rw [sizeH, HC.out]; simp [hcells_length h hd]
  have HR : Hid ((w.alloc (.cells C 26)).heap[w.heap.size]? = some (.cells C 26 (0, 0))) := heap_alloc_new w _
  have HB : Hid (Below w.heap.size w (w.alloc (.cells C 26))) := (Below.refl _ _).alloc (Nat.le_refl _) _
  have K1 : Hid (∀ W, Calls Tryd.prog 75 #[.agg C] W fun e w' => e = .returned (.int .i64 70) ∧ Below W.heap.size W w') := fun W => by
    have := hCheck_any h hd W C HC
    rwa [show putE h = 70 by unfold putE; rw [hr]; rfl] at this
  clear HC hr
  go_enter Tryd.func95, Tryd.ntmps95
  go_wp2_with (first
    | (show wpList _ _ _ ({ dst := some 5, op := _, type := _, pos := _, after := _, guard := _ } :: _) _ _; refine wpList_load_row rfl 26 (.tmp 1) rfl w.heap.size rfl 26 C (0, 0) _ HR.out Tryd.underlying26 rfl HSC.out ?_; try simp only [Act.put, List.setIfInBounds_toArray, List.set_cons_zero, List.set_cons_succ])
    | fail)
  refine (K1.out _).mono ?_
  rintro e w1 ⟨rfl, hb1⟩
  have HB1 := hidk (HB.out.trans (hb1.mono HB.out.size))
  clear hb1
  go_wp2
  go_ret2
  exact ⟨bytes_no _ _, HB1.out⟩
set_option maxHeartbeats 8000000 in
theorem hPut_yes (h : HdT) (hd : h.d.length = 32) (hr : rightH h = true) (w : World) (C : Array Value) (HC : Hid (C = (hcells h).toArray)) :
    Calls Tryd.prog 95 #[.agg C] w fun e w' => BytesE (headB h) 0 e w' ∧ Below w.heap.size w w' := by
  have HSC : Hid ((Tryd.prog.info? 26).map (·.size) = some C.size) := by show _ = _; rw [sizeH, HC.out]; simp [hcells_length h hd]
  have HRW : Hid ((w.alloc (.cells C 26)).heap[w.heap.size]? = some (.cells C 26 (0, 0))) := heap_alloc_new w _
  have K1 : Hid (∀ W, Calls Tryd.prog 75 #[.agg C] W fun e w' => e = .returned (.int .i64 0) ∧ Below W.heap.size W w') := fun W => by
    have := hCheck_any h hd W C HC
    rwa [show putE h = 0 by unfold putE; rw [hr]; rfl] at this
  obtain ⟨r, Hr⟩ : ∃ r, Hid (r = h.r) := ⟨h.r, hidk rfl⟩
  obtain ⟨e, He⟩ : ∃ r, Hid (r = h.e) := ⟨h.e, hidk rfl⟩
  obtain ⟨s, Hs⟩ : ∃ r, Hid (r = h.s) := ⟨h.s, hidk rfl⟩
  obtain ⟨t, Ht⟩ : ∃ r, Hid (r = h.t) := ⟨h.t, hidk rfl⟩
  obtain ⟨n1, Hn1⟩ : ∃ s : ByteArray, Hid (s = nOf r) := ⟨nOf r, hidk rfl⟩
  obtain ⟨n2, Hn2⟩ : ∃ s : ByteArray, Hid (s = nOf e) := ⟨nOf e, hidk rfl⟩
  obtain ⟨n3, Hn3⟩ : ∃ x : ByteArray, Hid (x = nOf s) := ⟨nOf s, hidk rfl⟩
  obtain ⟨n5, Hn5⟩ : ∃ s : ByteArray, Hid (s = nOf t) := ⟨nOf t, hidk rfl⟩
  obtain ⟨x4, HX⟩ : ∃ x : ByteArray, Hid (x = bA h.d) := ⟨bA h.d, hidk rfl⟩
  obtain ⟨l, Hl⟩ : ∃ l, Hid (l = headB h) := ⟨headB h, hidk rfl⟩
  obtain ⟨D, HD, HSD, H1D, H32D⟩ := dig_row' h.d hd
  have N1 : Hid (∀ W, Calls Tryd.prog 67 #[.int .i64 1, .int .i64 r] W fun e w' => e = .returned (.agg #[.int .i64 1, .string n1]) ∧ Below W.heap.size W w') := fun W => by rw [Hn1.out]; exact hNum_any 1 r W
  have N2 : Hid (∀ W, Calls Tryd.prog 67 #[.int .i64 2, .int .i64 e] W fun e w' => e = .returned (.agg #[.int .i64 2, .string n2]) ∧ Below W.heap.size W w') := fun W => by rw [Hn2.out]; exact hNum_any 2 e W
  have N3 : Hid (∀ W, Calls Tryd.prog 67 #[.int .i64 3, .int .i64 s] W fun e w' => e = .returned (.agg #[.int .i64 3, .string n3]) ∧ Below W.heap.size W w') := fun W => by rw [Hn3.out]; exact hNum_any 3 s W
  have N5 : Hid (∀ W, Calls Tryd.prog 67 #[.int .i64 5, .int .i64 t] W fun e w' => e = .returned (.agg #[.int .i64 5, .string n5]) ∧ Below W.heap.size W w') := fun W => by rw [Hn5.out]; exact hNum_any 5 t W
  have X4 : Hid (∀ W, Calls Tryd.prog 68 #[.int .i64 4, .agg D] W fun e w' => e = .returned (.agg #[.int .i64 4, .string x4]) ∧ Below W.heap.size W w') := fun W => by rw [HX.out]; exact hDig_any 4 h.d hd W D HD
  have hL5 : fieldsN (hL h) = [(1, n1), (2, n2), (3, n3), (4, x4), (5, n5)] := by rw [Hn1.out, Hn2.out, Hn3.out, Hn5.out, HX.out, Hr.out, He.out, Hs.out, Ht.out]; rfl
  have LY : Hid (∀ W, Calls Tryd.prog 21 #[.slice (some ⟨W.heap.size, 0, none⟩) 5 5] (W.alloc (.cells #[.int .i64 1, .string n1, .int .i64 2, .string n2, .int .i64 3, .string n3, .int .i64 4, .string x4, .int .i64 5, .string n5] 56)) fun e w' => ∃ a c, e = .returned (.tuple #[.slice a l.length c, .int .i64 0]) ∧ Reads w' a l.length c l ∧ Below W.heap.size W w') := fun W => by
    have hk := layE_hL h hd
    have hrw := rowOf_ok hk
    rw [hL5] at hk hrw
    have hm : ∀ f ∈ [((1 : Int), n1), (2, n2), (3, n3), (4, x4), (5, n5)], f.2.size ≤ maxLen := fun y hy => by
      simp only [List.mem_cons, List.not_mem_nil, or_false] at hy
      unfold maxLen
      rcases hy with rfl | rfl | rfl | rfl | rfl
      · have := nOf_size r; rw [← Hn1.out] at this; show n1.size ≤ _; omega
      · have := nOf_size e; rw [← Hn2.out] at this; show n2.size ≤ _; omega
      · have := nOf_size s; rw [← Hn3.out] at this; show n3.size ≤ _; omega
      · have := bA_size h.d; rw [← HX.out] at this; show x4.size ≤ _; omega
      · have := nOf_size t; rw [← Hn5.out] at this; show n5.size ≤ _; omega
    have hF := freads_lit W #[.int .i64 1, .string n1, .int .i64 2, .string n2, .int .i64 3, .string n3, .int .i64 4, .string x4, .int .i64 5, .string n5] (0, 0) [((1 : Int), n1), (2, n2), (3, n3), (4, x4), (5, n5)] rfl (by show 5 ≤ 1048576; decide) hm
    rw [← alloc_size W (.cells #[.int .i64 1, .string n1, .int .i64 2, .string n2, .int .i64 3, .string n3, .int .i64 4, .string x4, .int .i64 5, .string n5] 56)] at hF
    refine (lay_reads (some ⟨W.heap.size, 0, none⟩) 5 5 [((1 : Int), n1), (2, n2), (3, n3), (4, x4), (5, n5)] _ hF (by decide) (k := 0) (l := l) hk (by rw [hrw, Hl.out, ← hL5]; rfl)).mono ?_
    rintro e w' ⟨a, c, he, hrd, hb⟩
    exact ⟨a, c, he, hrd, ((Below.refl _ _).alloc (Nat.le_refl _) _).trans (hb.mono (by simp))⟩
  have HR := hidk (hrow_new w h hd C HC 26)
  have HB : Hid (Below w.heap.size w (w.alloc (.cells C 26))) := (Below.refl _ _).alloc (Nat.le_refl _) _
  have HDL : Hid (D.toList = cellsOf h.d) := by show _ = _; rw [HD.out]
  rw [← Hl.out]
  clear HC HX hL5 HD Hn1 Hn2 Hn3 Hn5 Hl hr
  go_enter Tryd.func95, Tryd.ntmps95
  go_wp2_with (first
    | (show wpList _ _ _ ({ dst := some 5, op := _, type := _, pos := _, after := _, guard := _ } :: _) _ _; refine wpList_load_row rfl 26 (.tmp 1) rfl w.heap.size rfl 26 C (0, 0) _ HRW.out Tryd.underlying26 rfl HSC.out ?_; try simp only [Act.put, List.setIfInBounds_toArray, List.set_cons_zero, List.set_cons_succ])
    | fail)
  refine (K1.out _).mono ?_
  rintro e w0 ⟨rfl, hb0⟩
  have HB0 := hidk (HB.out.trans (hb0.mono HB.out.size))
  have HR0 := hidk (HR.out.keep hb0)
  clear hb0 HB HR HRW K1
  go_wp2
  refine wp_region_held_drew (S := (fun W => HRow W w.heap.size 0 h)) (by kernel_rfl) (show HRow w0.drew w.heap.size 0 h from HR0.out.keep (Below.refl _ _).drew) (fun hHeld => ?_)
  refine wpAnyH_take (i := 0) (oi := { dst := some 10, op := Op.fieldAddr 26 (Operand.tmp 1) 0, type := 0, pos := "head.go:46", after := #[], guard := none }) (v := .pointer (some ⟨w.heap.size, 0, none⟩)) rfl (by kernel_rfl) (by kernel_rfl) (by kernel_rfl) (fun _ _ _ h => h) (Or.inl ⟨by rfl, by intro W hSw; go_simp⟩) hHeld ?_
  try simp only [Act.put, List.setIfInBounds_toArray, List.set_cons_zero, List.set_cons_succ]
  refine wpAnyH_take (i := 1) (oi := { dst := some 11, op := Op.load 3 (Operand.tmp 10), type := 3, pos := "head.go:46", after := #[{ on := 0, ground := Ground.data }], guard := none }) (v := .int .i64 r) rfl (by kernel_rfl) (by kernel_rfl) (by kernel_rfl) (fun _ _ _ h => h) (Or.inl ⟨by rfl, by intro W hSw; have h1 := hSw.r; rw [← Hr.out] at h1; go_simp⟩) hHeld ?_
  try simp only [Act.put, List.setIfInBounds_toArray, List.set_cons_zero, List.set_cons_succ]
  refine wpAnyH_take (i := 3) (oi := { dst := some 13, op := Op.fieldAddr 26 (Operand.tmp 1) 1, type := 0, pos := "head.go:46", after := #[], guard := none }) (v := .pointer (some ⟨w.heap.size, 1, none⟩)) rfl (by kernel_rfl) (by kernel_rfl) (by kernel_rfl) (fun _ _ _ h => h) (Or.inl ⟨by rfl, by intro W hSw; go_simp⟩) hHeld ?_
  try simp only [Act.put, List.setIfInBounds_toArray, List.set_cons_zero, List.set_cons_succ]
  refine wpAnyH_take (i := 4) (oi := { dst := some 14, op := Op.load 3 (Operand.tmp 13), type := 3, pos := "head.go:46", after := #[{ on := 3, ground := Ground.data }], guard := none }) (v := .int .i64 e) rfl (by kernel_rfl) (by kernel_rfl) (by kernel_rfl) (fun _ _ _ h => h) (Or.inl ⟨by rfl, by intro W hSw; have h1 := hSw.e; rw [← He.out, Nat.zero_add] at h1; go_simp⟩) hHeld ?_
  try simp only [Act.put, List.setIfInBounds_toArray, List.set_cons_zero, List.set_cons_succ]
  refine wpAnyH_take (i := 6) (oi := { dst := some 16, op := Op.fieldAddr 26 (Operand.tmp 1) 2, type := 0, pos := "head.go:46", after := #[], guard := none }) (v := .pointer (some ⟨w.heap.size, 2, none⟩)) rfl (by kernel_rfl) (by kernel_rfl) (by kernel_rfl) (fun _ _ _ h => h) (Or.inl ⟨by rfl, by intro W hSw; go_simp⟩) hHeld ?_
  try simp only [Act.put, List.setIfInBounds_toArray, List.set_cons_zero, List.set_cons_succ]
  refine wpAnyH_take (i := 7) (oi := { dst := some 17, op := Op.load 3 (Operand.tmp 16), type := 3, pos := "head.go:46", after := #[{ on := 6, ground := Ground.data }], guard := none }) (v := .int .i64 s) rfl (by kernel_rfl) (by kernel_rfl) (by kernel_rfl) (fun _ _ _ h => h) (Or.inl ⟨by rfl, by intro W hSw; have h1 := hSw.s; rw [← Hs.out, Nat.zero_add] at h1; go_simp⟩) hHeld ?_
  try simp only [Act.put, List.setIfInBounds_toArray, List.set_cons_zero, List.set_cons_succ]
  refine wpAnyH_take (i := 9) (oi := { dst := some 19, op := Op.fieldAddr 26 (Operand.tmp 1) 3, type := 0, pos := "head.go:46", after := #[], guard := none }) (v := .pointer (some ⟨w.heap.size, 3, none⟩)) rfl (by kernel_rfl) (by kernel_rfl) (by kernel_rfl) (fun _ _ _ h => h) (Or.inl ⟨by rfl, by intro W hSw; go_simp⟩) hHeld ?_
  try simp only [Act.put, List.setIfInBounds_toArray, List.set_cons_zero, List.set_cons_succ]
  refine wpAnyH_take (i := 10) (oi := { dst := some 20, op := Op.load 24 (Operand.tmp 19), type := 24, pos := "head.go:46", after := #[{ on := 9, ground := Ground.data }], guard := none }) (v := .agg D) rfl (by kernel_rfl) (by kernel_rfl) (by kernel_rfl) (fun _ _ _ h => h) (yieldsIf_mid (by rfl) 24 (.tmp 19) rfl w.heap.size 3 rfl D _ (fun _ h => by rw [HDL.out]; have := h.d; rwa [Nat.zero_add] at this) Tryd.underlying24 rfl HSD.out) hHeld ?_
  try simp only [Act.put, List.setIfInBounds_toArray, List.set_cons_zero, List.set_cons_succ]
  refine wpAnyH_take (i := 12) (oi := { dst := some 22, op := Op.fieldAddr 26 (Operand.tmp 1) 4, type := 0, pos := "head.go:46", after := #[], guard := none }) (v := .pointer (some ⟨w.heap.size, 35, none⟩)) rfl (by kernel_rfl) (by kernel_rfl) (by kernel_rfl) (fun _ _ _ h => h) (Or.inl ⟨by rfl, by intro W hSw; go_simp⟩) hHeld ?_
  try simp only [Act.put, List.setIfInBounds_toArray, List.set_cons_zero, List.set_cons_succ]
  refine wpAnyH_take (i := 13) (oi := { dst := some 23, op := Op.load 3 (Operand.tmp 22), type := 3, pos := "head.go:46", after := #[{ on := 12, ground := Ground.data }], guard := none }) (v := .int .i64 t) rfl (by kernel_rfl) (by kernel_rfl) (by kernel_rfl) (fun _ _ _ h => h) (Or.inl ⟨by rfl, by intro W hSw; have h1 := hSw.t; rw [← Ht.out, Nat.zero_add] at h1; go_simp⟩) hHeld ?_
  try simp only [Act.put, List.setIfInBounds_toArray, List.set_cons_zero, List.set_cons_succ]
  refine wpAnyH_ready (rs := [2]) (by kernel_rfl) (by simp) ?_
  refine (AllReadyH.cons (o := { dst := some 12, op := Op.call { callee := Callee.value (Operand.func 67), args := #[Operand.const (Value.int IntKind.i64 1), Operand.tmp 11], argTypes := #[3, 3] }, type := 56, pos := "head.go:47", after := #[{ on := 1, ground := Ground.data }], guard := none }) rfl (fun K hK => ?_) AllReadyH.nil)
  go_simp
  refine (N1.out _).mono ?_
  rintro e w2 ⟨rfl, hb1⟩
  have HB1 := hidk (HB0.out.drew.trans (hb1.mono HB0.out.size))
  go_wp2_with fail
  refine hK.out _ _ (hHeld.keep hb1) (fun hHeld => ?_)
  clear hK K
  try simp only [Act.put, List.setIfInBounds_toArray, List.set_cons_zero, List.set_cons_succ]
  refine wpAnyH_ready (rs := [5]) (by kernel_rfl) (by simp) ?_
  refine (AllReadyH.cons (o := { dst := some 15, op := Op.call { callee := Callee.value (Operand.func 67), args := #[Operand.const (Value.int IntKind.i64 2), Operand.tmp 14], argTypes := #[3, 3] }, type := 56, pos := "head.go:48", after := #[{ on := 4, ground := Ground.data }, { on := 2, ground := Ground.chain }], guard := none }) rfl (fun K hK => ?_) AllReadyH.nil)
  go_simp
  refine (N2.out _).mono ?_
  rintro e w5 ⟨rfl, hb2⟩
  have HB2 := hidk (HB1.out.trans (hb2.mono HB1.out.size))
  go_wp2_with fail
  refine hK.out _ _ (hHeld.keep hb2) (fun hHeld => ?_)
  clear hK K
  try simp only [Act.put, List.setIfInBounds_toArray, List.set_cons_zero, List.set_cons_succ]
  refine wpAnyH_ready (rs := [8]) (by kernel_rfl) (by simp) ?_
  refine (AllReadyH.cons (o := { dst := some 18, op := Op.call { callee := Callee.value (Operand.func 67), args := #[Operand.const (Value.int IntKind.i64 3), Operand.tmp 17], argTypes := #[3, 3] }, type := 56, pos := "head.go:49", after := #[{ on := 7, ground := Ground.data }, { on := 5, ground := Ground.chain }], guard := none }) rfl (fun K hK => ?_) AllReadyH.nil)
  go_simp
  refine (N3.out _).mono ?_
  rintro e w8 ⟨rfl, hb3⟩
  have HB3 := hidk (HB2.out.trans (hb3.mono HB2.out.size))
  go_wp2_with fail
  refine hK.out _ _ (hHeld.keep hb3) (fun hHeld => ?_)
  clear hK K
  try simp only [Act.put, List.setIfInBounds_toArray, List.set_cons_zero, List.set_cons_succ]
  refine wpAnyH_ready (rs := [11]) (by kernel_rfl) (by simp) ?_
  refine (AllReadyH.cons (o := { dst := some 21, op := Op.call { callee := Callee.value (Operand.func 68), args := #[Operand.const (Value.int IntKind.i64 4), Operand.tmp 20], argTypes := #[3, 24] }, type := 56, pos := "head.go:50", after := #[{ on := 10, ground := Ground.data }, { on := 8, ground := Ground.chain }], guard := none }) rfl (fun K hK => ?_) AllReadyH.nil)
  go_simp
  refine (X4.out _).mono ?_
  rintro e w11 ⟨rfl, hb4⟩
  have HB4 := hidk (HB3.out.trans (hb4.mono HB3.out.size))
  go_wp2_with fail
  refine hK.out _ _ (hHeld.keep hb4) (fun hHeld => ?_)
  clear hK K
  try simp only [Act.put, List.setIfInBounds_toArray, List.set_cons_zero, List.set_cons_succ]
  refine wpAnyH_ready (rs := [14]) (by kernel_rfl) (by simp) ?_
  refine (AllReadyH.cons (o := { dst := some 24, op := Op.call { callee := Callee.value (Operand.func 67), args := #[Operand.const (Value.int IntKind.i64 5), Operand.tmp 23], argTypes := #[3, 3] }, type := 56, pos := "head.go:51", after := #[{ on := 13, ground := Ground.data }, { on := 11, ground := Ground.chain }], guard := none }) rfl (fun K hK => ?_) AllReadyH.nil)
  go_simp
  refine (N5.out _).mono ?_
  rintro e w14 ⟨rfl, hb5⟩
  have HB5 := hidk (HB4.out.trans (hb5.mono HB4.out.size))
  go_wp2_with fail
  refine hK.out _ _ (hHeld.keep hb5) (fun hHeld => ?_)
  clear hK K
  try simp only [Act.put, List.setIfInBounds_toArray, List.set_cons_zero, List.set_cons_succ]
  refine wpAnyH_ready (rs := [15]) (by kernel_rfl) (by simp) ?_
  refine (AllReadyH.cons (o := { dst := some 25, op := Op.buildSlice 58 5 #[(0, Operand.tmp 12), (1, Operand.tmp 15), (2, Operand.tmp 18), (3, Operand.tmp 21), (4, Operand.tmp 24)], type := 58, pos := "head.go:46", after := #[{ on := 2, ground := Ground.data }, { on := 5, ground := Ground.data }, { on := 8, ground := Ground.data }, { on := 11, ground := Ground.data }, { on := 14, ground := Ground.data }], guard := none }) rfl (fun K hK => ?_) AllReadyH.nil)
  have HR14 := hidk hHeld
  go_simp
  refine hK.out _ _ (hHeld.keep ((Below.refl _ _).alloc (Nat.le_refl _) _)) (fun hHeld => ?_)
  clear hK K
  try simp only [Act.put, List.setIfInBounds_toArray, List.set_cons_zero, List.set_cons_succ]
  refine wpAnyH_ready (rs := [16]) (by kernel_rfl) (by simp) ?_
  refine (AllReadyH.cons (o := { dst := some 26, op := Op.call { callee := Callee.value (Operand.func 21), args := #[Operand.tmp 25], argTypes := #[58] }, type := 35, pos := "head.go:46", after := #[{ on := 15, ground := Ground.data }, { on := 14, ground := Ground.chain }], guard := none }) rfl (fun K hK => ?_) AllReadyH.nil)
  go_simp
  refine (LY.out _).mono ?_
  rintro e w16 ⟨a16, c16, rfl, hrd, hb6⟩
  have HRD := hidk hrd
  have HBF := hidk (HB5.out.trans (hb6.mono HB5.out.size))
  go_wp2_with fail
  refine hK.out _ _ (HR14.out.keep hb6) (fun hHeld => ?_)
  clear hK K
  try simp only [Act.put, List.setIfInBounds_toArray, List.set_cons_zero, List.set_cons_succ]
  refine wpAnyH_take (i := 17) (oi := { dst := some 27, op := Op.extract (Operand.tmp 26) 0, type := 33, pos := "head.go:46", after := #[{ on := 16, ground := Ground.data }], guard := none }) (v := .slice a16 l.length c16) rfl (by kernel_rfl) (by kernel_rfl) (by kernel_rfl) (fun _ _ _ h => h) (Or.inl ⟨by rfl, by intro W hSw; go_simp⟩) hHeld ?_
  try simp only [Act.put, List.setIfInBounds_toArray, List.set_cons_zero, List.set_cons_succ]
  refine wpAnyH_take (i := 18) (oi := { dst := some 28, op := Op.extract (Operand.tmp 26) 1, type := 34, pos := "head.go:46", after := #[{ on := 16, ground := Ground.data }], guard := none }) (v := .int .i64 0) rfl (by kernel_rfl) (by kernel_rfl) (by kernel_rfl) (fun _ _ _ h => h) (Or.inl ⟨by rfl, by intro W hSw; go_simp⟩) hHeld ?_
  try simp only [Act.put, List.setIfInBounds_toArray, List.set_cons_zero, List.set_cons_succ]
  refine wpAnyH_take (i := 19) (oi := { dst := some 2, op := Op.assign (Operand.tmp 27), type := 33, pos := "head.go:46", after := #[{ on := 17, ground := Ground.data }, { on := 16, ground := Ground.chain }, { on := 0, ground := Ground.phase }, { on := 1, ground := Ground.phase }, { on := 2, ground := Ground.phase }, { on := 3, ground := Ground.phase }, { on := 4, ground := Ground.phase }, { on := 5, ground := Ground.phase }, { on := 6, ground := Ground.phase }, { on := 7, ground := Ground.phase }, { on := 8, ground := Ground.phase }, { on := 9, ground := Ground.phase }, { on := 10, ground := Ground.phase }, { on := 11, ground := Ground.phase }, { on := 12, ground := Ground.phase }, { on := 13, ground := Ground.phase }, { on := 14, ground := Ground.phase }, { on := 15, ground := Ground.phase }, { on := 16, ground := Ground.phase }, { on := 17, ground := Ground.phase }, { on := 18, ground := Ground.phase }], guard := none }) (v := .slice a16 l.length c16) rfl (by kernel_rfl) (by kernel_rfl) (by kernel_rfl) (fun _ _ _ h => h) (Or.inl ⟨by rfl, by intro W hSw; go_simp⟩) hHeld ?_
  try simp only [Act.put, List.setIfInBounds_toArray, List.set_cons_zero, List.set_cons_succ]
  refine wpAnyH_take (i := 20) (oi := { dst := some 3, op := Op.assign (Operand.tmp 28), type := 34, pos := "head.go:46", after := #[{ on := 18, ground := Ground.data }, { on := 19, ground := Ground.chain }, { on := 0, ground := Ground.phase }, { on := 1, ground := Ground.phase }, { on := 2, ground := Ground.phase }, { on := 3, ground := Ground.phase }, { on := 4, ground := Ground.phase }, { on := 5, ground := Ground.phase }, { on := 6, ground := Ground.phase }, { on := 7, ground := Ground.phase }, { on := 8, ground := Ground.phase }, { on := 9, ground := Ground.phase }, { on := 10, ground := Ground.phase }, { on := 11, ground := Ground.phase }, { on := 12, ground := Ground.phase }, { on := 13, ground := Ground.phase }, { on := 14, ground := Ground.phase }, { on := 15, ground := Ground.phase }, { on := 16, ground := Ground.phase }, { on := 17, ground := Ground.phase }, { on := 18, ground := Ground.phase }, { on := 19, ground := Ground.phase }], guard := none }) (v := .int .i64 0) rfl (by kernel_rfl) (by kernel_rfl) (by kernel_rfl) (fun _ _ _ h => h) (Or.inl ⟨by rfl, by intro W hSw; go_simp⟩) hHeld ?_
  try simp only [Act.put, List.setIfInBounds_toArray, List.set_cons_zero, List.set_cons_succ]
  refine wpAnyH_done (by kernel_rfl) ?_ _
  go_wp2
  go_ret2
  exact ⟨⟨_, _, rfl, HRD.out⟩, HBF.out⟩
theorem hPut_any (h : HdT) (hd : h.d.length = 32) (w : World) (C : Array Value) (HC : Hid (C = (hcells h).toArray)) :
    Calls Tryd.prog 95 #[.agg C] w fun e w' => BytesE (putB h) (putE h) e w' ∧ Below w.heap.size w w' := by
  unfold putB putE
  cases hr : rightH h
  · exact hPut_no h hd hr w C HC
  · exact hPut_yes h hd hr w C HC
set_option maxHeartbeats 2000000 in
theorem hLaid_any (h : HdT) (hd : h.d.length = 32) (w : World) (C : Array Value) (HC : Hid (C = (hcells h).toArray)) :
    Calls Tryd.prog 66 #[.agg C] w fun e w' => e = .returned (.string (bA (putB h))) ∧ Below w.heap.size w w' := by
  have HSC : Hid ((Tryd.prog.info? 26).map (·.size) = some C.size) := by show _ = _; rw [sizeH, HC.out]; simp [hcells_length h hd]
  have HR : Hid ((w.alloc (.cells C 26)).heap[w.heap.size]? = some (.cells C 26 (0, 0))) := heap_alloc_new w _
  have HB : Hid (Below w.heap.size w (w.alloc (.cells C 26))) := (Below.refl _ _).alloc (Nat.le_refl _) _
  have P1 : Hid (∀ W, Calls Tryd.prog 95 #[.agg C] W fun e w' => BytesE (putB h) (putE h) e w' ∧ Below W.heap.size W w') := fun W => hPut_any h hd W C HC
  obtain ⟨l, hl⟩ : ∃ l, l = putB h := ⟨_, rfl⟩
  obtain ⟨E, hE⟩ : ∃ l, l = putE h := ⟨_, rfl⟩
  obtain ⟨x, Hx⟩ : ∃ x : ByteArray, Hid (x = bA l) := ⟨bA l, hidk rfl⟩
  rw [← hl, ← hE] at P1
  rw [← hl, ← Hx.out]
  clear HC hl hE
  go_enter Tryd.func66, Tryd.ntmps66
  go_wp2_with (first
    | (show wpList _ _ _ ({ dst := some 6, op := _, type := _, pos := _, after := _, guard := _ } :: _) _ _; refine wpList_load_row rfl 26 (.tmp 1) rfl w.heap.size rfl 26 C (0, 0) _ HR.out Tryd.underlying26 rfl HSC.out ?_; try simp only [Act.put, List.setIfInBounds_toArray, List.set_cons_zero, List.set_cons_succ])
    | fail)
  refine (P1.out _).mono ?_
  rintro e w1 ⟨⟨a1, c1, rfl, hr1⟩, hb1⟩
  have HB1 := hidk (HB.out.trans (hb1.mono HB.out.size))
  have hcv := conv_reads hr1
  rw [show (⟨l.toArray⟩ : ByteArray) = x from Hx.out.symm] at hcv
  clear hb1 hr1
  go_wp2
  go_ret
  exact ⟨rfl, HB1.out⟩
end Go.Proofs.YtgkfodmccfnaoaaDoor

/- What head.Verify and head.PutSigned answer. -/
namespace Go.Proofs.YtgkfodmccfnaoaaDoor
open Go.RowKit Sums Nums
set_option linter.unusedVariables false
set_option linter.unusedSimpArgs false
set_option maxRecDepth 100000
set_option maxHeartbeats 2000000 in
theorem hPutS_no (s : SgT) (hs : InS s) (hm : mayS s = false) (w : World) (C : Array Value) (HC : Hid (C = (scells s).toArray)) :
    Calls Tryd.prog 41 #[.agg C] w fun e w' => BytesE [] 70 e w' ∧ Below w.heap.size w w' := by
  have hnot : ∀ (x : Bool) (w : World), (Op.unary .not (.bool x)).run Tryd.prog w = .ok (.bool (!x)) w := fun _ _ => rfl
  have HSC : Hid ((Tryd.prog.info? 28).map (·.size) = some C.size) := by show _ = _; rw [sizeS, HC.out]; simp [scells_length s hs.h.d hs.g]
  have HR : Hid ((w.alloc (.cells C 28)).heap[w.heap.size]? = some (.cells C 28 (0, 0))) := heap_alloc_new w _
  have HB : Hid (Below w.heap.size w (w.alloc (.cells C 28))) := (Below.refl _ _).alloc (Nat.le_refl _) _
  have K1 : Hid (∀ W, Calls Tryd.prog 65 #[.agg C] W fun e w' => e = .returned (.bool false) ∧ Below W.heap.size W w') := fun W => by
    have := hMay_any s hs.h.d W C HC
    rwa [hm] at this
  clear HC hm hs
  go_enter Tryd.func41, Tryd.ntmps41
  go_wp2_with (first
    | (show wpList _ _ _ ({ dst := some 4, op := _, type := _, pos := _, after := _, guard := _ } :: _) _ _; refine wpList_load_row rfl 28 (.tmp 1) rfl w.heap.size rfl 28 C (0, 0) _ HR.out Tryd.underlying28 rfl HSC.out ?_; try simp only [Act.put, List.setIfInBounds_toArray, List.set_cons_zero, List.set_cons_succ])
    | fail)
  refine (K1.out _).mono ?_
  rintro e w1 ⟨rfl, hb1⟩
  have HB1 := hidk (HB.out.trans (hb1.mono HB.out.size))
  clear hb1
  go_wp2
  go_ret2
  exact ⟨bytes_no _ _, HB1.out⟩
set_option maxHeartbeats 8000000 in
theorem hPutS_yes (s : SgT) (hs : InS s) (hm : mayS s = true) (w : World) (C : Array Value) (HC : Hid (C = (scells s).toArray)) :
    Calls Tryd.prog 41 #[.agg C] w fun e w' => BytesE (signB s) 0 e w' ∧ Below w.heap.size w w' := by
  have hnot : ∀ (x : Bool) (w : World), (Op.unary .not (.bool x)).run Tryd.prog w = .ok (.bool (!x)) w := fun _ _ => rfl
  have hd := hs.h.d
  have hg := hs.g
  have hrt := ((mayS_iff s).1 hm).1
  have HSC : Hid ((Tryd.prog.info? 28).map (·.size) = some C.size) := by show _ = _; rw [sizeS, HC.out]; simp [scells_length s hd hg]
  have HRW : Hid ((w.alloc (.cells C 28)).heap[w.heap.size]? = some (.cells C 28 (0, 0))) := heap_alloc_new w _
  have K1 : Hid (∀ W, Calls Tryd.prog 65 #[.agg C] W fun e w' => e = .returned (.bool true) ∧ Below W.heap.size W w') := fun W => by
    have := hMay_any s hd W C HC
    rwa [hm] at this
  have HR := hidk (srow_new w s hd C HC 28)
  have HB : Hid (Below w.heap.size w (w.alloc (.cells C 28))) := (Below.refl _ _).alloc (Nat.le_refl _) _
  obtain ⟨HCs, HHC, HSH, H36⟩ := head_row s.h hd
  obtain ⟨D, HD, HSD, H1D, H32D⟩ := dig_row' s.g hg
  obtain ⟨n, Hn⟩ : ∃ n, Hid (n = s.n) := ⟨s.n, hidk rfl⟩
  obtain ⟨n2, Hn2⟩ : ∃ x : ByteArray, Hid (x = nOf n) := ⟨nOf n, hidk rfl⟩
  obtain ⟨x1, HX1⟩ : ∃ x : ByteArray, Hid (x = bA (headB s.h)) := ⟨bA (headB s.h), hidk rfl⟩
  obtain ⟨x3, HX3⟩ : ∃ x : ByteArray, Hid (x = bA s.g) := ⟨bA s.g, hidk rfl⟩
  obtain ⟨l, Hl⟩ : ∃ l, Hid (l = signB s) := ⟨signB s, hidk rfl⟩
  have B1 : Hid (∀ W, Calls Tryd.prog 66 #[.agg HCs] W fun e w' => e = .returned (.string x1) ∧ Below W.heap.size W w') := fun W => by
    have := hLaid_any s.h hd W HCs HHC
    rwa [show putB s.h = headB s.h by unfold putB; rw [if_pos hrt], ← HX1.out] at this
  have N2 : Hid (∀ W, Calls Tryd.prog 67 #[.int .i64 2, .int .i64 n] W fun e w' => e = .returned (.agg #[.int .i64 2, .string n2]) ∧ Below W.heap.size W w') := fun W => by rw [Hn2.out]; exact hNum_any 2 n W
  have X3 : Hid (∀ W, Calls Tryd.prog 68 #[.int .i64 3, .agg D] W fun e w' => e = .returned (.agg #[.int .i64 3, .string x3]) ∧ Below W.heap.size W w') := fun W => by rw [HX3.out]; exact hDig_any 3 s.g hg W D HD
  have hL3 : fieldsN (sL s) = [(1, x1), (2, n2), (3, x3)] := by rw [HX1.out, Hn2.out, HX3.out, Hn.out]; rfl
  have LY : Hid (∀ W, Calls Tryd.prog 21 #[.slice (some ⟨W.heap.size, 0, none⟩) 3 3] (W.alloc (.cells #[.int .i64 1, .string x1, .int .i64 2, .string n2, .int .i64 3, .string x3] 56)) fun e w' => ∃ a c, e = .returned (.tuple #[.slice a l.length c, .int .i64 0]) ∧ Reads w' a l.length c l ∧ Below W.heap.size W w') := fun W => by
    have hk := layE_sL s hd hg
    have hrw := rowOf_ok hk
    rw [hL3] at hk hrw
    have hmm : ∀ f ∈ [((1 : Int), x1), (2, n2), (3, x3)], f.2.size ≤ maxLen := fun y hy => by
      simp only [List.mem_cons, List.not_mem_nil, or_false] at hy
      unfold maxLen
      rcases hy with rfl | rfl | rfl
      · have := bA_size (headB s.h); rw [← HX1.out] at this; have := headB_length s.h hd; show x1.size ≤ _; omega
      · have := nOf_size n; rw [← Hn2.out] at this; show n2.size ≤ _; omega
      · have := bA_size s.g; rw [← HX3.out] at this; show x3.size ≤ _; omega
    have hF := freads_lit W #[.int .i64 1, .string x1, .int .i64 2, .string n2, .int .i64 3, .string x3] (0, 0) [((1 : Int), x1), (2, n2), (3, x3)] rfl (by show 3 ≤ 1048576; decide) hmm
    rw [← alloc_size W (.cells #[.int .i64 1, .string x1, .int .i64 2, .string n2, .int .i64 3, .string x3] 56)] at hF
    refine (lay_reads (some ⟨W.heap.size, 0, none⟩) 3 3 [((1 : Int), x1), (2, n2), (3, x3)] _ hF (by decide) (k := 0) (l := l) hk (by rw [hrw, Hl.out, ← hL3]; rfl)).mono ?_
    rintro e w' ⟨a, c, he, hrd, hb⟩
    exact ⟨a, c, he, hrd, ((Below.refl _ _).alloc (Nat.le_refl _) _).trans (hb.mono (by simp))⟩
  have HDL : Hid (D.toList = cellsOf s.g) := by show _ = _; rw [HD.out]
  have HHL : Hid (HCs.toList = hcells s.h) := by show _ = _; rw [HHC.out]
  rw [← Hl.out]
  clear HC hL3 HX1 HX3 HD Hn2 Hl hm hrt
  go_enter Tryd.func41, Tryd.ntmps41
  go_wp2_with (first
    | (show wpList _ _ _ ({ dst := some 4, op := _, type := _, pos := _, after := _, guard := _ } :: _) _ _; refine wpList_load_row rfl 28 (.tmp 1) rfl w.heap.size rfl 28 C (0, 0) _ HRW.out Tryd.underlying28 rfl HSC.out ?_; try simp only [Act.put, List.setIfInBounds_toArray, List.set_cons_zero, List.set_cons_succ])
    | fail)
  refine (K1.out _).mono ?_
  rintro e w0 ⟨rfl, hb0⟩
  have HB0 := hidk (HB.out.trans (hb0.mono HB.out.size))
  have HR0 := hidk (HR.out.keep hb0)
  clear hb0 HB HR HRW K1
  go_wp2
  refine wp_region_held_drew (S := (fun W => SRow W w.heap.size 0 s)) (by kernel_rfl) (show SRow w0.drew w.heap.size 0 s from HR0.out.keep (Below.refl _ _).drew) (fun hHeld => ?_)
  refine wpAnyH_take (i := 0) (oi := { dst := some 7, op := Op.fieldAddr 28 (Operand.tmp 1) 0, type := 0, pos := "head.go:96", after := #[], guard := none }) (v := .pointer (some ⟨w.heap.size, 0, none⟩)) rfl (by kernel_rfl) (by kernel_rfl) (by kernel_rfl) (fun _ _ _ h => h) (Or.inl ⟨by rfl, by intro W hSw; go_simp⟩) hHeld ?_
  try simp only [Act.put, List.setIfInBounds_toArray, List.set_cons_zero, List.set_cons_succ]
  refine wpAnyH_take (i := 1) (oi := { dst := some 8, op := Op.load 26 (Operand.tmp 7), type := 26, pos := "head.go:96", after := #[{ on := 0, ground := Ground.data }], guard := none }) (v := .agg HCs) rfl (by kernel_rfl) (by kernel_rfl) (by kernel_rfl) (fun _ _ _ h => h) (yieldsIf_mid (by rfl) 26 (.tmp 7) rfl w.heap.size 0 rfl HCs _ (fun _ h => by rw [HHL.out]; exact h.h) Tryd.underlying26 rfl HSH.out) hHeld ?_
  try simp only [Act.put, List.setIfInBounds_toArray, List.set_cons_zero, List.set_cons_succ]
  refine wpAnyH_take (i := 4) (oi := { dst := some 11, op := Op.fieldAddr 28 (Operand.tmp 1) 1, type := 0, pos := "head.go:96", after := #[], guard := none }) (v := .pointer (some ⟨w.heap.size, 36, none⟩)) rfl (by kernel_rfl) (by kernel_rfl) (by kernel_rfl) (fun _ _ _ h => h) (Or.inl ⟨by rfl, by intro W hSw; go_simp⟩) hHeld ?_
  try simp only [Act.put, List.setIfInBounds_toArray, List.set_cons_zero, List.set_cons_succ]
  refine wpAnyH_take (i := 5) (oi := { dst := some 12, op := Op.load 3 (Operand.tmp 11), type := 3, pos := "head.go:96", after := #[{ on := 4, ground := Ground.data }], guard := none }) (v := .int .i64 n) rfl (by kernel_rfl) (by kernel_rfl) (by kernel_rfl) (fun _ _ _ h => h) (Or.inl ⟨by rfl, by intro W hSw; have h1 := hSw.n; rw [← Hn.out, Nat.zero_add] at h1; go_simp⟩) hHeld ?_
  try simp only [Act.put, List.setIfInBounds_toArray, List.set_cons_zero, List.set_cons_succ]
  refine wpAnyH_take (i := 7) (oi := { dst := some 14, op := Op.fieldAddr 28 (Operand.tmp 1) 2, type := 0, pos := "head.go:96", after := #[], guard := none }) (v := .pointer (some ⟨w.heap.size, 37, none⟩)) rfl (by kernel_rfl) (by kernel_rfl) (by kernel_rfl) (fun _ _ _ h => h) (Or.inl ⟨by rfl, by intro W hSw; go_simp⟩) hHeld ?_
  try simp only [Act.put, List.setIfInBounds_toArray, List.set_cons_zero, List.set_cons_succ]
  refine wpAnyH_take (i := 8) (oi := { dst := some 15, op := Op.load 24 (Operand.tmp 14), type := 24, pos := "head.go:96", after := #[{ on := 7, ground := Ground.data }], guard := none }) (v := .agg D) rfl (by kernel_rfl) (by kernel_rfl) (by kernel_rfl) (fun _ _ _ h => h) (yieldsIf_mid (by rfl) 24 (.tmp 14) rfl w.heap.size 37 rfl D _ (fun _ h => by rw [HDL.out]; have := h.g; rwa [Nat.zero_add] at this) Tryd.underlying24 rfl HSD.out) hHeld ?_
  try simp only [Act.put, List.setIfInBounds_toArray, List.set_cons_zero, List.set_cons_succ]
  refine wpAnyH_ready (rs := [2]) (by kernel_rfl) (by simp) ?_
  refine (AllReadyH.cons (o := { dst := some 9, op := Op.call { callee := Callee.value (Operand.func 66), args := #[Operand.tmp 8], argTypes := #[26] }, type := 9, pos := "head.go:97", after := #[{ on := 1, ground := Ground.data }], guard := none }) rfl (fun K hK => ?_) AllReadyH.nil)
  go_simp
  refine (B1.out _).mono ?_
  rintro e w2 ⟨rfl, hb1⟩
  have HBc := hidk (HB0.out.drew.trans (hb1.mono HB0.out.size))
  go_wp2_with fail
  refine hK.out _ _ (hHeld.keep hb1) (fun hHeld => ?_)
  clear hK K
  try simp only [Act.put, List.setIfInBounds_toArray, List.set_cons_zero, List.set_cons_succ]
  refine wpAnyH_take (i := 3) (oi := { dst := some 10, op := Op.build 56 #[(0, Operand.const (Value.int IntKind.i64 1)), (1, Operand.tmp 9)], type := 56, pos := "head.go:96", after := #[{ on := 2, ground := Ground.data }], guard := none }) (v := .agg #[.int .i64 1, .string x1]) rfl (by kernel_rfl) (by kernel_rfl) (by kernel_rfl) (fun _ _ _ h => h) (Or.inl ⟨by rfl, by intro W hSw; go_simp⟩) hHeld ?_
  try simp only [Act.put, List.setIfInBounds_toArray, List.set_cons_zero, List.set_cons_succ]
  refine wpAnyH_ready (rs := [6]) (by kernel_rfl) (by simp) ?_
  refine (AllReadyH.cons (o := { dst := some 13, op := Op.call { callee := Callee.value (Operand.func 67), args := #[Operand.const (Value.int IntKind.i64 2), Operand.tmp 12], argTypes := #[3, 3] }, type := 56, pos := "head.go:98", after := #[{ on := 5, ground := Ground.data }, { on := 2, ground := Ground.chain }], guard := none }) rfl (fun K hK => ?_) AllReadyH.nil)
  go_simp
  refine (N2.out _).mono ?_
  rintro e w6 ⟨rfl, hb2⟩
  replace HBc := hidk (HBc.out.trans (hb2.mono HBc.out.size))
  go_wp2_with fail
  refine hK.out _ _ (hHeld.keep hb2) (fun hHeld => ?_)
  clear hK K
  try simp only [Act.put, List.setIfInBounds_toArray, List.set_cons_zero, List.set_cons_succ]
  refine wpAnyH_ready (rs := [9]) (by kernel_rfl) (by simp) ?_
  refine (AllReadyH.cons (o := { dst := some 16, op := Op.call { callee := Callee.value (Operand.func 68), args := #[Operand.const (Value.int IntKind.i64 3), Operand.tmp 15], argTypes := #[3, 24] }, type := 56, pos := "head.go:99", after := #[{ on := 8, ground := Ground.data }, { on := 6, ground := Ground.chain }], guard := none }) rfl (fun K hK => ?_) AllReadyH.nil)
  go_simp
  refine (X3.out _).mono ?_
  rintro e w9 ⟨rfl, hb3⟩
  replace HBc := hidk (HBc.out.trans (hb3.mono HBc.out.size))
  go_wp2_with fail
  refine hK.out _ _ (hHeld.keep hb3) (fun hHeld => ?_)
  clear hK K
  try simp only [Act.put, List.setIfInBounds_toArray, List.set_cons_zero, List.set_cons_succ]
  refine wpAnyH_ready (rs := [10]) (by kernel_rfl) (by simp) ?_
  refine (AllReadyH.cons (o := { dst := some 17, op := Op.buildSlice 58 3 #[(0, Operand.tmp 10), (1, Operand.tmp 13), (2, Operand.tmp 16)], type := 58, pos := "head.go:96", after := #[{ on := 3, ground := Ground.data }, { on := 6, ground := Ground.data }, { on := 9, ground := Ground.data }], guard := none }) rfl (fun K hK => ?_) AllReadyH.nil)
  have HRc := hidk hHeld
  go_simp
  refine hK.out _ _ (hHeld.keep ((Below.refl _ _).alloc (Nat.le_refl _) _)) (fun hHeld => ?_)
  clear hK K
  try simp only [Act.put, List.setIfInBounds_toArray, List.set_cons_zero, List.set_cons_succ]
  refine wpAnyH_ready (rs := [11]) (by kernel_rfl) (by simp) ?_
  refine (AllReadyH.cons (o := { dst := some 18, op := Op.call { callee := Callee.value (Operand.func 21), args := #[Operand.tmp 17], argTypes := #[58] }, type := 35, pos := "head.go:96", after := #[{ on := 10, ground := Ground.data }, { on := 9, ground := Ground.chain }], guard := none }) rfl (fun K hK => ?_) AllReadyH.nil)
  go_simp
  refine (LY.out _).mono ?_
  rintro e w11 ⟨a11, c11, rfl, hrd, hb6⟩
  have HRD := hidk hrd
  have HBF := hidk (HBc.out.trans (hb6.mono HBc.out.size))
  go_wp2_with fail
  refine hK.out _ _ (HRc.out.keep hb6) (fun hHeld => ?_)
  clear hK K
  try simp only [Act.put, List.setIfInBounds_toArray, List.set_cons_zero, List.set_cons_succ]
  refine wpAnyH_take (i := 12) (oi := { dst := some 19, op := Op.extract (Operand.tmp 18) 0, type := 33, pos := "head.go:96", after := #[{ on := 11, ground := Ground.data }], guard := none }) (v := .slice a11 l.length c11) rfl (by kernel_rfl) (by kernel_rfl) (by kernel_rfl) (fun _ _ _ h => h) (Or.inl ⟨by rfl, by intro W hSw; go_simp⟩) hHeld ?_
  try simp only [Act.put, List.setIfInBounds_toArray, List.set_cons_zero, List.set_cons_succ]
  refine wpAnyH_take (i := 13) (oi := { dst := some 20, op := Op.extract (Operand.tmp 18) 1, type := 34, pos := "head.go:96", after := #[{ on := 11, ground := Ground.data }], guard := none }) (v := .int .i64 0) rfl (by kernel_rfl) (by kernel_rfl) (by kernel_rfl) (fun _ _ _ h => h) (Or.inl ⟨by rfl, by intro W hSw; go_simp⟩) hHeld ?_
  try simp only [Act.put, List.setIfInBounds_toArray, List.set_cons_zero, List.set_cons_succ]
  refine wpAnyH_take (i := 14) (oi := { dst := some 2, op := Op.assign (Operand.tmp 19), type := 33, pos := "head.go:96", after := #[{ on := 12, ground := Ground.data }, { on := 11, ground := Ground.chain }, { on := 0, ground := Ground.phase }, { on := 1, ground := Ground.phase }, { on := 2, ground := Ground.phase }, { on := 3, ground := Ground.phase }, { on := 4, ground := Ground.phase }, { on := 5, ground := Ground.phase }, { on := 6, ground := Ground.phase }, { on := 7, ground := Ground.phase }, { on := 8, ground := Ground.phase }, { on := 9, ground := Ground.phase }, { on := 10, ground := Ground.phase }, { on := 11, ground := Ground.phase }, { on := 12, ground := Ground.phase }, { on := 13, ground := Ground.phase }], guard := none }) (v := .slice a11 l.length c11) rfl (by kernel_rfl) (by kernel_rfl) (by kernel_rfl) (fun _ _ _ h => h) (Or.inl ⟨by rfl, by intro W hSw; go_simp⟩) hHeld ?_
  try simp only [Act.put, List.setIfInBounds_toArray, List.set_cons_zero, List.set_cons_succ]
  refine wpAnyH_take (i := 15) (oi := { dst := some 3, op := Op.assign (Operand.tmp 20), type := 34, pos := "head.go:96", after := #[{ on := 13, ground := Ground.data }, { on := 14, ground := Ground.chain }, { on := 0, ground := Ground.phase }, { on := 1, ground := Ground.phase }, { on := 2, ground := Ground.phase }, { on := 3, ground := Ground.phase }, { on := 4, ground := Ground.phase }, { on := 5, ground := Ground.phase }, { on := 6, ground := Ground.phase }, { on := 7, ground := Ground.phase }, { on := 8, ground := Ground.phase }, { on := 9, ground := Ground.phase }, { on := 10, ground := Ground.phase }, { on := 11, ground := Ground.phase }, { on := 12, ground := Ground.phase }, { on := 13, ground := Ground.phase }, { on := 14, ground := Ground.phase }], guard := none }) (v := .int .i64 0) rfl (by kernel_rfl) (by kernel_rfl) (by kernel_rfl) (fun _ _ _ h => h) (Or.inl ⟨by rfl, by intro W hSw; go_simp⟩) hHeld ?_
  try simp only [Act.put, List.setIfInBounds_toArray, List.set_cons_zero, List.set_cons_succ]
  refine wpAnyH_done (by kernel_rfl) ?_ _
  go_wp2
  go_ret2
  exact ⟨⟨_, _, rfl, HRD.out⟩, HBF.out⟩
theorem hPutS_any (s : SgT) (hs : InS s) (w : World) (C : Array Value) (HC : Hid (C = (scells s).toArray)) :
    Calls Tryd.prog 41 #[.agg C] w fun e w' => BytesE (putSB s) (putSE s) e w' ∧ Below w.heap.size w w' := by
  unfold putSB putSE
  cases hr : mayS s
  · exact hPutS_no s hs hr w C HC
  · exact hPutS_yes s hs hr w C HC
end Go.Proofs.YtgkfodmccfnaoaaDoor

/- What entry.Put answers. -/
namespace Go.Proofs.YtgkfodmccfnaoaaDoor
open Go.RowKit Sums Nums
set_option linter.unusedVariables false
set_option linter.unusedSimpArgs false
set_option maxRecDepth 100000
def restE (x : EnT) : List (Int × ByteArray) := if x.k = 1 then [(2, nOf x.c), (3, nOf x.s), (4, x.t)] else if x.k = 2 then [(5, bA (signB x.h))] else if x.k = 3 then [(6, bA (claimB x.m))] else []
theorem fieldsE_rest (x : EnT) : fieldsE x = (1, nOf x.k) :: restE x := rfl
/-- What fields answers: a new row. -/
def RowF (w : World) (cs : Array Value) (m : Nat) (e : Ending) (w' : World) : Prop := ∃ g, e = .returned (.slice (some ⟨g, 0, none⟩) m m) ∧ w'.heap[g]? = some (.cells cs 56 (0, 0)) ∧ w.heap.size ≤ g ∧ Below w.heap.size w w'
set_option maxHeartbeats 8000000 in
theorem eFields_user (x : EnT) (ok : OkE x) (hk : x.k = 1) (w : World) (X cs : Array Value) (HX : Hid (X = (ecells x).toArray)) (HC : Hid (cs.toList = fcells (restE x))) :
    Calls Tryd.prog 22 #[.agg X] w fun e w' => RowF w cs 3 e w' := by
  have HR := hidk (erow_new w x ok X HX 32)
  have HB : Hid (Below w.heap.size w (w.alloc (.cells X 32))) := (Below.refl _ _).alloc (Nat.le_refl _) _
  have c0 := HR.out.k
  rw [hk] at c0
  obtain ⟨c, Hc⟩ : ∃ c, Hid (c = x.c) := ⟨_, hidk rfl⟩
  obtain ⟨s, Hs⟩ : ∃ c, Hid (c = x.s) := ⟨_, hidk rfl⟩
  obtain ⟨t, Ht⟩ : ∃ c, Hid (c = x.t) := ⟨_, hidk rfl⟩
  obtain ⟨n2, Hn2⟩ : ∃ n, Hid (n = nOf c) := ⟨_, hidk rfl⟩
  obtain ⟨n3, Hn3⟩ : ∃ n, Hid (n = nOf s) := ⟨_, hidk rfl⟩
  have N2 : Hid (∀ W, Calls Tryd.prog 20 #[.int .i64 2, .int .i64 c] W fun e w' => e = .returned (.agg #[.int .i64 2, .string n2]) ∧ Below W.heap.size W w') := fun W => by rw [Hn2.out]; exact eNum_any 2 c W
  have N3 : Hid (∀ W, Calls Tryd.prog 20 #[.int .i64 3, .int .i64 s] W fun e w' => e = .returned (.agg #[.int .i64 3, .string n3]) ∧ Below W.heap.size W w') := fun W => by rw [Hn3.out]; exact eNum_any 3 s W
  have HCS : Hid (cs = #[.int .i64 2, .string n2, .int .i64 3, .string n3, .int .i64 4, .string t]) := by
    show _ = _
    apply Array.ext'
    rw [HC.out, Hn2.out, Hn3.out, Hc.out, Hs.out, Ht.out]
    unfold restE
    rw [if_pos hk]
    rfl
  clear HX HC Hn2 Hn3 ok hk
  go_enter Tryd.func22, Tryd.ntmps22
  go_wp2
  refine wp_region_held_drew (S := (fun W => ERow W w.heap.size 0 x)) (by kernel_rfl) (HR.out.keep (Below.refl _ _).drew) (fun hHeld => ?_)
  refine wpAnyH_take (i := 0) (oi := { dst := some 11, op := Op.fieldAddr 32 (Operand.tmp 1) 1, type := 0, pos := "entry.go:133", after := #[], guard := none }) (v := .pointer (some ⟨w.heap.size, 1, none⟩)) rfl (by kernel_rfl) (by kernel_rfl) (by kernel_rfl) (fun _ _ _ h => h) (Or.inl ⟨by rfl, by intro W hSw; go_simp⟩) hHeld ?_
  try simp only [Act.put, List.setIfInBounds_toArray, List.set_cons_zero, List.set_cons_succ]
  refine wpAnyH_take (i := 1) (oi := { dst := some 12, op := Op.load 3 (Operand.tmp 11), type := 3, pos := "entry.go:133", after := #[{ on := 0, ground := Ground.data }], guard := none }) (v := .int .i64 c) rfl (by kernel_rfl) (by kernel_rfl) (by kernel_rfl) (fun _ _ _ h => h) (Or.inl ⟨by rfl, by intro W hSw; have h1 := hSw.c; rw [← Hc.out, Nat.zero_add] at h1; go_simp⟩) hHeld ?_
  try simp only [Act.put, List.setIfInBounds_toArray, List.set_cons_zero, List.set_cons_succ]
  refine wpAnyH_take (i := 3) (oi := { dst := some 14, op := Op.fieldAddr 32 (Operand.tmp 1) 2, type := 0, pos := "entry.go:133", after := #[], guard := none }) (v := .pointer (some ⟨w.heap.size, 2, none⟩)) rfl (by kernel_rfl) (by kernel_rfl) (by kernel_rfl) (fun _ _ _ h => h) (Or.inl ⟨by rfl, by intro W hSw; go_simp⟩) hHeld ?_
  try simp only [Act.put, List.setIfInBounds_toArray, List.set_cons_zero, List.set_cons_succ]
  refine wpAnyH_take (i := 4) (oi := { dst := some 15, op := Op.load 3 (Operand.tmp 14), type := 3, pos := "entry.go:133", after := #[{ on := 3, ground := Ground.data }], guard := none }) (v := .int .i64 s) rfl (by kernel_rfl) (by kernel_rfl) (by kernel_rfl) (fun _ _ _ h => h) (Or.inl ⟨by rfl, by intro W hSw; have h1 := hSw.s; rw [← Hs.out, Nat.zero_add] at h1; go_simp⟩) hHeld ?_
  try simp only [Act.put, List.setIfInBounds_toArray, List.set_cons_zero, List.set_cons_succ]
  refine wpAnyH_take (i := 6) (oi := { dst := some 17, op := Op.fieldAddr 32 (Operand.tmp 1) 3, type := 0, pos := "entry.go:133", after := #[], guard := none }) (v := .pointer (some ⟨w.heap.size, 3, none⟩)) rfl (by kernel_rfl) (by kernel_rfl) (by kernel_rfl) (fun _ _ _ h => h) (Or.inl ⟨by rfl, by intro W hSw; go_simp⟩) hHeld ?_
  try simp only [Act.put, List.setIfInBounds_toArray, List.set_cons_zero, List.set_cons_succ]
  refine wpAnyH_take (i := 7) (oi := { dst := some 18, op := Op.load 9 (Operand.tmp 17), type := 9, pos := "entry.go:133", after := #[{ on := 6, ground := Ground.data }], guard := none }) (v := .string t) rfl (by kernel_rfl) (by kernel_rfl) (by kernel_rfl) (fun _ _ _ h => h) (Or.inl ⟨by rfl, by intro W hSw; have h1 := hSw.t; rw [← Ht.out, Nat.zero_add] at h1; go_simp⟩) hHeld ?_
  try simp only [Act.put, List.setIfInBounds_toArray, List.set_cons_zero, List.set_cons_succ]
  refine wpAnyH_take (i := 8) (oi := { dst := some 19, op := Op.build 56 #[(0, Operand.const (Value.int IntKind.i64 4)), (1, Operand.tmp 18)], type := 56, pos := "entry.go:133", after := #[{ on := 7, ground := Ground.data }], guard := none }) (v := .agg #[.int .i64 4, .string t]) rfl (by kernel_rfl) (by kernel_rfl) (by kernel_rfl) (fun _ _ _ h => h) (Or.inl ⟨by rfl, by intro W hSw; go_simp⟩) hHeld ?_
  try simp only [Act.put, List.setIfInBounds_toArray, List.set_cons_zero, List.set_cons_succ]
  refine wpAnyH_ready (rs := [2]) (by kernel_rfl) (by simp) ?_
  refine (AllReadyH.cons (o := { dst := some 13, op := Op.call { callee := Callee.value (Operand.func 20), args := #[Operand.const (Value.int IntKind.i64 2), Operand.tmp 12], argTypes := #[3, 3] }, type := 56, pos := "entry.go:134", after := #[{ on := 1, ground := Ground.data }], guard := none }) rfl (fun K hK => ?_) AllReadyH.nil)
  go_simp
  refine (N2.out _).mono ?_
  rintro e w2 ⟨rfl, hb2⟩
  have HB2 := hidk (HB.out.drew.trans (hb2.mono HB.out.size))
  go_wp2_with fail
  refine hK.out _ _ (hHeld.keep hb2) (fun hHeld => ?_)
  clear hK K
  try simp only [Act.put, List.setIfInBounds_toArray, List.set_cons_zero, List.set_cons_succ]
  refine wpAnyH_ready (rs := [5]) (by kernel_rfl) (by simp) ?_
  refine (AllReadyH.cons (o := { dst := some 16, op := Op.call { callee := Callee.value (Operand.func 20), args := #[Operand.const (Value.int IntKind.i64 3), Operand.tmp 15], argTypes := #[3, 3] }, type := 56, pos := "entry.go:135", after := #[{ on := 4, ground := Ground.data }, { on := 2, ground := Ground.chain }], guard := none }) rfl (fun K hK => ?_) AllReadyH.nil)
  go_simp
  refine (N3.out _).mono ?_
  rintro e w5 ⟨rfl, hb5⟩
  have HB5 := hidk (HB2.out.trans (hb5.mono HB2.out.size))
  go_wp2_with fail
  refine hK.out _ _ (hHeld.keep hb5) (fun hHeld => ?_)
  clear hK K
  try simp only [Act.put, List.setIfInBounds_toArray, List.set_cons_zero, List.set_cons_succ]
  refine wpAnyH_ready (rs := [9]) (by kernel_rfl) (by simp) ?_
  refine (AllReadyH.cons (o := { dst := some 20, op := Op.buildSlice 58 3 #[(0, Operand.tmp 13), (1, Operand.tmp 16), (2, Operand.tmp 19)], type := 58, pos := "entry.go:133", after := #[{ on := 2, ground := Ground.data }, { on := 5, ground := Ground.data }, { on := 8, ground := Ground.data }], guard := none }) rfl (fun K hK => ?_) AllReadyH.nil)
  go_simp
  refine hK.out _ _ (hHeld.keep ((Below.refl _ _).alloc (Nat.le_refl _) _)) (fun hHeld => ?_)
  clear hK K
  try simp only [Act.put, List.setIfInBounds_toArray, List.set_cons_zero, List.set_cons_succ]
  refine wpAnyH_take (i := 10) (oi := { dst := some 2, op := Op.assign (Operand.tmp 20), type := 58, pos := "entry.go:133", after := #[{ on := 9, ground := Ground.data }, { on := 5, ground := Ground.chain }, { on := 0, ground := Ground.phase }, { on := 1, ground := Ground.phase }, { on := 2, ground := Ground.phase }, { on := 3, ground := Ground.phase }, { on := 4, ground := Ground.phase }, { on := 5, ground := Ground.phase }, { on := 6, ground := Ground.phase }, { on := 7, ground := Ground.phase }, { on := 8, ground := Ground.phase }, { on := 9, ground := Ground.phase }], guard := none }) (v := .slice (some ⟨w5.heap.size, 0, none⟩) 3 3) rfl (by kernel_rfl) (by kernel_rfl) (by kernel_rfl) (fun _ _ _ h => h) (Or.inl ⟨by rfl, by intro W hSw; go_simp⟩) hHeld ?_
  try simp only [Act.put, List.setIfInBounds_toArray, List.set_cons_zero, List.set_cons_succ]
  refine wpAnyH_done (by kernel_rfl) ?_ _
  go_wp2
  go_ret
  refine ⟨w5.heap.size, rfl, ?_, HB5.out.size, HB5.out.trans (((Below.refl _ _).alloc (Nat.le_refl _) _).mono HB5.out.size)⟩
  rw [HCS.out]
  exact heap_alloc_new w5 _
set_option maxHeartbeats 4000000 in
theorem eFields_anchor (x : EnT) (ok : OkE x) (hk : x.k = 2) (hin : InS x.h) (hm : mayS x.h = true) (w : World) (X cs : Array Value) (HX : Hid (X = (ecells x).toArray)) (HC : Hid (cs.toList = fcells (restE x))) :
    Calls Tryd.prog 22 #[.agg X] w fun e w' => RowF w cs 1 e w' := by
  have HR := erow_new w x ok X HX 32
  have HB : Hid (Below w.heap.size w (w.alloc (.cells X 32))) := (Below.refl _ _).alloc (Nat.le_refl _) _
  have c0 := HR.k
  rw [hk] at c0
  obtain ⟨Q, HQ, HSQ, H1Q, HNQ⟩ := sign_row x.h ok.h ok.g
  have RQ : Hid ((w.alloc (.cells X 32)).rangeAt w.heap.size 4 Q.toList) := by have := HR.h; show World.rangeAt _ _ _ _; rw [HQ.out]; simpa using this
  obtain ⟨l, Hl⟩ : ∃ l, Hid (l = signB x.h) := ⟨_, hidk rfl⟩
  obtain ⟨y, Hy⟩ : ∃ y : ByteArray, Hid (y = bA l) := ⟨_, hidk rfl⟩
  have P1 : Hid (∀ W, Calls Tryd.prog 41 #[.agg Q] W fun e w' => (∃ a c, e = .returned (.tuple #[.slice a l.length c, .int .i64 0]) ∧ Reads w' a l.length c l) ∧ Below W.heap.size W w') := fun W => by
    rw [Hl.out]
    have := hPutS_any x.h hin W Q HQ
    unfold putSB putSE at this; rw [if_pos hm, if_pos hm] at this
    exact this
  have HCS : Hid (cs = #[.int .i64 5, .string y]) := by
    show _ = _
    apply Array.ext'
    rw [HC.out, Hy.out, Hl.out]
    unfold restE
    rw [if_neg (by omega), if_pos hk]
    rfl
  clear HX HC HR HQ Hl
  go_enter Tryd.func22, Tryd.ntmps22
  go_wp2_with (first
    | (show wpList _ _ _ ({ dst := some 25, op := _, type := _, pos := _, after := _, guard := _ } :: _) _ _; refine wpList_mid rfl 28 (.tmp 24) rfl w.heap.size 4 rfl Q _ RQ.out Tryd.underlying28 rfl HSQ.out ?_; try simp only [Act.put, List.setIfInBounds_toArray, List.set_cons_zero, List.set_cons_succ])
    | fail)
  refine (P1.out _).mono ?_
  rintro e w1 ⟨⟨a1, c1, rfl, hr1⟩, hb1⟩
  have HB1 := hidk (HB.out.trans (hb1.mono HB.out.size))
  have hcv := conv_reads hr1
  rw [show (⟨l.toArray⟩ : ByteArray) = y from Hy.out.symm] at hcv
  clear hb1 hr1
  go_wp2
  go_ret
  refine ⟨w1.heap.size, rfl, ?_, HB1.out.size, HB1.out.trans (((Below.refl _ _).alloc (Nat.le_refl _) _).mono HB1.out.size)⟩
  rw [HCS.out]
  exact heap_alloc_new w1 _
set_option maxHeartbeats 4000000 in
theorem eFields_claim (x : EnT) (ok : OkE x) (hk : x.k = 3) (hm : rightC x.m = true) (w : World) (X cs : Array Value) (HX : Hid (X = (ecells x).toArray)) (HC : Hid (cs.toList = fcells (restE x))) :
    Calls Tryd.prog 22 #[.agg X] w fun e w' => RowF w cs 1 e w' := by
  have HR := erow_new w x ok X HX 32
  have HB : Hid (Below w.heap.size w (w.alloc (.cells X 32))) := (Below.refl _ _).alloc (Nat.le_refl _) _
  have c0 := HR.k
  rw [hk] at c0
  obtain ⟨Q, HQ, HSQ, H1Q, HNQ⟩ := claim_row5 x.m ok.m
  have RQ : Hid ((w.alloc (.cells X 32)).rangeAt w.heap.size 73 Q.toList) := by have := HR.m; show World.rangeAt _ _ _ _; rw [HQ.out]; simpa using this
  obtain ⟨l, Hl⟩ : ∃ l, Hid (l = claimB x.m) := ⟨_, hidk rfl⟩
  obtain ⟨y, Hy⟩ : ∃ y : ByteArray, Hid (y = bA l) := ⟨_, hidk rfl⟩
  have P1 : Hid (∀ W, Calls Tryd.prog 18 #[.agg Q] W fun e w' => (∃ a c, e = .returned (.tuple #[.slice a l.length c, .int .i64 0]) ∧ Reads w' a l.length c l) ∧ Below W.heap.size W w') := fun W => by
    rw [Hl.out]
    have := ePutC_any x.m ok.m W Q HQ
    unfold cB cE at this; rw [if_pos hm, if_pos hm] at this
    exact this
  have HCS : Hid (cs = #[.int .i64 6, .string y]) := by
    show _ = _
    apply Array.ext'
    rw [HC.out, Hy.out, Hl.out]
    unfold restE
    rw [if_neg (by omega), if_neg (by omega), if_pos hk]
    rfl
  clear HX HC HR HQ Hl
  go_enter Tryd.func22, Tryd.ntmps22
  go_wp2_with (first
    | (show wpList _ _ _ ({ dst := some 37, op := _, type := _, pos := _, after := _, guard := _ } :: _) _ _; refine wpList_mid rfl 30 (.tmp 36) rfl w.heap.size 73 rfl Q _ RQ.out Tryd.underlying30 rfl HSQ.out ?_; try simp only [Act.put, List.setIfInBounds_toArray, List.set_cons_zero, List.set_cons_succ])
    | fail)
  refine (P1.out _).mono ?_
  rintro e w1 ⟨⟨a1, c1, rfl, hr1⟩, hb1⟩
  have HB1 := hidk (HB.out.trans (hb1.mono HB.out.size))
  have hcv := conv_reads hr1
  rw [show (⟨l.toArray⟩ : ByteArray) = y from Hy.out.symm] at hcv
  clear hb1 hr1
  go_wp2
  go_ret
  refine ⟨w1.heap.size, rfl, ?_, HB1.out.size, HB1.out.trans (((Below.refl _ _).alloc (Nat.le_refl _) _).mono HB1.out.size)⟩
  rw [HCS.out]
  exact heap_alloc_new w1 _
theorem restE_len {x : EnT} (h : rightE x = true) : (restE x).length = if x.k = 1 then 3 else 1 := by
  rcases right_kinds h with ⟨hk, _⟩ | ⟨hk, _⟩ | ⟨hk, _⟩
  · unfold restE; rw [if_pos hk, if_pos hk]; rfl
  · unfold restE; rw [if_neg (by omega), if_pos hk, if_neg (by omega)]; rfl
  · unfold restE; rw [if_neg (by omega), if_neg (by omega), if_pos hk, if_neg (by omega)]; rfl
theorem eFields_any (x : EnT) (hin : InE x) (h : rightE x = true) (w : World) (X cs : Array Value) (HX : Hid (X = (ecells x).toArray)) (HC : Hid (cs.toList = fcells (restE x))) :
    Calls Tryd.prog 22 #[.agg X] w fun e w' => RowF w cs (restE x).length e w' := by
  have hl := restE_len h
  rcases right_kinds h with ⟨hk, _⟩ | ⟨hk, _, _, _, hm, _⟩ | ⟨hk, _, _, _, _, hm⟩
  · rw [hl, if_pos hk]; exact eFields_user x hin.ok hk w X cs HX HC
  · rw [hl, if_neg (by omega)]; exact eFields_anchor x hin.ok hk hin.h hm w X cs HX HC
  · rw [hl, if_neg (by omega)]; exact eFields_claim x hin.ok hk hm w X cs HX HC
theorem eField_small {x : EnT} (ok : OkE x) (h : rightE x = true) : (∀ f ∈ fieldsE x, f.2.size ≤ maxLen) ∧ (fieldsE x).length ≤ 400 := fieldsE_small ok h
theorem fcells_one : ∀ (fs : List (Int × ByteArray)), ∀ v ∈ fcells fs, v.oneCell' = true
  | [], v, hv => by simp [fcells] at hv
  | f :: r, v, hv => by
    have e : fcells (f :: r) = [.int .i64 f.1, .string f.2] ++ fcells r := rfl
    rw [e] at hv
    simp only [List.mem_append, List.mem_cons, List.not_mem_nil, or_false] at hv
    rcases hv with (rfl | rfl) | hv
    · rfl
    · rfl
    · exact fcells_one r v hv
theorem fcells_len : ∀ (fs : List (Int × ByteArray)), (fcells fs).length = fs.length * 2
  | [] => rfl
  | f :: r => by
    have e : fcells (f :: r) = [.int .i64 f.1, .string f.2] ++ fcells r := rfl
    rw [e, List.length_append, fcells_len r]
    simp
    omega
/-- The kind's field, and the others appended. -/
theorem eAppend (w W : World) (gk g : Nat) (n1 : ByteArray) (fs : List (Int × ByteArray)) (cs : Array Value) (HC : Hid (cs.toList = fcells fs)) (h1 : W.heap[gk]? = some (.cells #[.int .i64 1, .string n1] 56 (0, 0))) (h2 : W.heap[g]? = some (.cells cs 56 (0, 0))) (hk : w.heap.size ≤ gk) (hb : Below w.heap.size w W) (hl : fs.length ≤ 100) (hm : ∀ f ∈ ((1 : Int), n1) :: fs, f.2.size ≤ maxLen) :
    ∃ a c w', (Builtin.append_ #[58, 58] 58 #[.slice (some ⟨gk, 0, none⟩) 1 1, .slice (some ⟨g, 0, none⟩) fs.length fs.length]).run Tryd.prog W = .ok (.slice a (((1 : Int), n1) :: fs).length c) w' ∧ FReads w'.heap.size w' a (((1 : Int), n1) :: fs).length c (((1 : Int), n1) :: fs) ∧ Below w.heap.size w w' := by
  obtain ⟨i0, hi, hz0, hz1, hz2⟩ := info_parts info37
  have hgk := heap_lt h1
  have hown : W.ownsRow w.heap.size 56 2 (.slice (some ⟨gk, 0, none⟩) 1 1) 1 (fcells [((1 : Int), n1)]) := ⟨rfl, .inr ⟨gk, 1, #[.int .i64 1, .string n1], rfl, hk, h1, Nat.le_refl _, by unfold maxLen; decide, rfl, rfl⟩⟩
  have hn : ∀ (j : Nat) (u : Value), (fcells fs)[j]? = some u → W.cell? ((⟨g, 0, none⟩ : Addr).add j) = some u := by
    intro j u hj
    rw [add_plain, Nat.zero_add, cell_of_row W g j cs 56 (0, 0) h2]
    rw [← HC.out] at hj
    simpa using hj
  obtain ⟨v', w', hr, ho, hg, _⟩ := run_append_own (P := Tryd.prog) W w.heap.size 58 58 56 i0 (.agg #[.int .i64 0, .string ⟨#[]⟩]) 2 24 Tryd.underlying58 hi hz0 hz1 hz2 rfl (by decide) _ 1 _ hown ⟨g, 0, none⟩ fs.length fs.length (fcells fs) (fcells_len fs) hn (fcells_one fs) (by unfold maxLen; omega) (by omega) (by omega)
  have e1 : fcells [((1 : Int), n1)] ++ fcells fs = fcells (((1 : Int), n1) :: fs) := rfl
  have e2 : 1 + fs.length = (((1 : Int), n1) :: fs).length := by simp; omega
  rw [e1, e2] at ho
  obtain ⟨a, c, rfl, hrd⟩ := freads_own ho hm
  exact ⟨a, c, w', hr, hrd, hb.grown hg hb.size (by intro k hk'; cases hk'; exact hk)⟩
set_option maxHeartbeats 2000000 in
theorem ePutE_no (x : EnT) (ok : OkE x) (hr : rightE x = false) (w : World) (X : Array Value) (HX : Hid (X = (ecells x).toArray)) :
    Calls Tryd.prog 7 #[.agg X] w fun e w' => BytesE [] 60 e w' ∧ Below w.heap.size w w' := by
  have HSX : Hid ((Tryd.prog.info? 32).map (·.size) = some X.size) := by show _ = _; rw [sizeE, HX.out]; simp [ecells_length _ ok]
  have HX0 : Hid ((w.alloc (.cells X 32)).heap[w.heap.size]? = some (.cells X 32 (0, 0))) := heap_alloc_new w _
  have HB : Hid (Below w.heap.size w (w.alloc (.cells X 32))) := (Below.refl _ _).alloc (Nat.le_refl _) _
  have K1 : Hid (∀ W, Calls Tryd.prog 9 #[.agg X] W fun e w' => e = .returned (.int .i64 60) ∧ Below W.heap.size W w') := fun W => by
    have := eCheck_any x ok W X HX
    rwa [show eE x = 60 by unfold eE; rw [hr]; rfl] at this
  clear HX hr
  go_enter Tryd.func7, Tryd.ntmps7
  go_wp2_with (first
    | (show wpList _ _ _ ({ dst := some 6, op := _, type := _, pos := _, after := _, guard := _ } :: _) _ _; refine wpList_load_row rfl 32 (.tmp 1) rfl w.heap.size rfl 32 X (0, 0) _ HX0.out Tryd.underlying32 rfl HSX.out ?_; try simp only [Act.put, List.setIfInBounds_toArray, List.set_cons_zero, List.set_cons_succ])
    | fail)
  refine (K1.out _).mono ?_
  rintro e w1 ⟨rfl, hb1⟩
  have HB1 := hidk (HB.out.trans (hb1.mono HB.out.size))
  clear hb1
  go_wp2
  go_ret2
  exact ⟨eBytes_no _ _, HB1.out⟩
set_option maxHeartbeats 4000000 in
theorem ePutE_yes (x : EnT) (hin : InE x) (hr : rightE x = true) (w : World) (X : Array Value) (HX : Hid (X = (ecells x).toArray)) :
    Calls Tryd.prog 7 #[.agg X] w fun e w' => BytesE (entryB x) 0 e w' ∧ Below w.heap.size w w' := by
  have ok := hin.ok
  have HSX : Hid ((Tryd.prog.info? 32).map (·.size) = some X.size) := by show _ = _; rw [sizeE, HX.out]; simp [ecells_length _ ok]
  have HX0 : Hid ((w.alloc (.cells X 32)).heap[w.heap.size]? = some (.cells X 32 (0, 0))) := heap_alloc_new w _
  have HB : Hid (Below w.heap.size w (w.alloc (.cells X 32))) := (Below.refl _ _).alloc (Nat.le_refl _) _
  have K1 : Hid (∀ W, Calls Tryd.prog 9 #[.agg X] W fun e w' => e = .returned (.int .i64 0) ∧ Below W.heap.size W w') := fun W => by
    have := eCheck_any x ok W X HX
    rwa [show eE x = 0 by unfold eE; rw [hr]; rfl] at this
  obtain ⟨k, Hk⟩ : ∃ k, Hid (k = x.k) := ⟨_, hidk rfl⟩
  obtain ⟨n1, Hn1⟩ : ∃ n, Hid (n = nOf k) := ⟨_, hidk rfl⟩
  have N1 : Hid (∀ W, Calls Tryd.prog 20 #[.int .i64 1, .int .i64 k] W fun e w' => e = .returned (.agg #[.int .i64 1, .string n1]) ∧ Below W.heap.size W w') := fun W => by rw [Hn1.out]; exact eNum_any 1 k W
  have KK : Hid (∀ W : World, W.heap[w.heap.size]? = some (.cells X 32 (0, 0)) → W.cell? ⟨w.heap.size, 0, none⟩ = some (.int .i64 k)) := fun W h => by have := (erow_row ok HX h).k; rwa [← Hk.out] at this
  obtain ⟨fs, hfs⟩ : ∃ fs, fs = restE x := ⟨_, rfl⟩
  obtain ⟨cs, HC⟩ : ∃ cs : Array Value, Hid (cs.toList = fcells fs) := ⟨(fcells fs).toArray, hidk rfl⟩
  have hfl : fs.length ≤ 100 := by rw [hfs, restE_len hr]; split <;> omega
  have F1 : Hid (∀ W, Calls Tryd.prog 22 #[.agg X] W fun e w' => RowF W cs fs.length e w') := fun W => by rw [hfs]; exact eFields_any x hin hr W X cs HX (by rw [← hfs]; exact HC)
  have hall : fieldsE x = (1, n1) :: fs := by rw [fieldsE_rest, Hn1.out, Hk.out, hfs]
  have hsm := (eField_small ok hr).1
  rw [hall] at hsm
  have AP : Hid (∀ W gk g, W.heap[gk]? = some (.cells #[.int .i64 1, .string n1] 56 (0, 0)) → W.heap[g]? = some (.cells cs 56 (0, 0)) → w.heap.size ≤ gk → Below w.heap.size w W →
      ∃ a c w', (Builtin.append_ #[58, 58] 58 #[.slice (some ⟨gk, 0, none⟩) 1 1, .slice (some ⟨g, 0, none⟩) fs.length fs.length]).run Tryd.prog W = .ok (.slice a (((1 : Int), n1) :: fs).length c) w' ∧ FReads w'.heap.size w' a (((1 : Int), n1) :: fs).length c (((1 : Int), n1) :: fs) ∧ Below w.heap.size w w') := fun W gk g h1 h2 h3 h4 => eAppend w W gk g n1 fs cs HC h1 h2 h3 h4 hfl hsm
  obtain ⟨l, Hl⟩ : ∃ l, Hid (l = entryB x) := ⟨_, hidk rfl⟩
  have hk0 := layE_entry hr ok
  rw [hall] at hk0
  have LY : Hid (∀ W a n c, n = (((1 : Int), n1) :: fs).length → FReads W.heap.size W a n c (((1 : Int), n1) :: fs) → Calls Tryd.prog 21 #[.slice a n c] W fun e w' => (∃ a' c', e = .returned (.tuple #[.slice a' l.length c', .int .i64 0]) ∧ Reads w' a' l.length c' l) ∧ Below W.heap.size W w') := fun W a n c hn h => by
    subst hn
    refine (lay_reads a _ c _ W h (by simp; omega) (k := 0) (l := l) hk0 (by rw [eRow_ok hk0, Hl.out, ← hall]; rfl)).mono ?_
    rintro e w' ⟨a', c', he, hrd, hb⟩
    exact ⟨⟨a', c', he, hrd⟩, hb⟩
  obtain ⟨nn, Hnn⟩ : ∃ n, Hid (n = (((1 : Int), n1) :: fs).length) := ⟨_, hidk rfl⟩
  obtain ⟨m, Hm⟩ : ∃ m, Hid (m = fs.length) := ⟨_, hidk rfl⟩
  rw [← Hl.out]
  rw [← Hnn.out] at AP
  rw [← Hm.out] at AP F1
  clear HX hr hall hsm hk0 Hn1 hfs HC ok hin
  go_enter Tryd.func7, Tryd.ntmps7
  go_wp2_with (first
    | (show wpList _ _ _ ({ dst := some 6, op := _, type := _, pos := _, after := _, guard := _ } :: _) _ _; refine wpList_load_row rfl 32 (.tmp 1) rfl w.heap.size rfl 32 X (0, 0) _ HX0.out Tryd.underlying32 rfl HSX.out ?_; try simp only [Act.put, List.setIfInBounds_toArray, List.set_cons_zero, List.set_cons_succ])
    | fail)
  refine (K1.out _).mono ?_
  rintro e w1 ⟨rfl, hb1⟩
  have HB1 := hidk (HB.out.trans (hb1.mono HB.out.size))
  have HX1 := hidk ((hb1.block _ (heap_lt HX0.out)).trans HX0.out)
  have c0 := KK.out w1 HX1.out
  clear hb1 HB HX0 K1 KK
  go_wp2_with fail
  refine (N1.out _).mono ?_
  rintro e w2 ⟨rfl, hb2⟩
  have HB2 := hidk (HB1.out.trans (hb2.mono HB1.out.size))
  have HX2 := hidk ((hb2.block _ (heap_lt HX1.out)).trans HX1.out)
  have HX3 := hidk (heap_keep (o' := .cells #[.int .i64 1, .string n1] 56) HX2.out)
  have HK3 := hidk (heap_alloc_new w2 (.cells #[.int .i64 1, .string n1] 56))
  have HB3 := hidk (HB2.out.trans (((Below.refl _ _).alloc (Nat.le_refl _) (.cells #[.int .i64 1, .string n1] 56)).mono HB2.out.size))
  clear hb2 HB1 HX1 HX2 N1 c0
  go_wp2_with (first
    | (show wpList _ _ _ ({ dst := some 16, op := _, type := _, pos := _, after := _, guard := _ } :: _) _ _; refine wpList_load_row rfl 32 (.tmp 1) rfl w.heap.size rfl 32 X (0, 0) _ HX3.out Tryd.underlying32 rfl HSX.out ?_; try simp only [Act.put, List.setIfInBounds_toArray, List.set_cons_zero, List.set_cons_succ])
    | fail)
  refine (F1.out _).mono ?_
  rintro e w4 ⟨g4, rfl, hg4, _, hb4⟩
  obtain ⟨a5, c5, w5, hrun, hfr, hb5⟩ := AP.out w4 w2.heap.size g4 ((hb4.block _ (heap_lt HK3.out)).trans HK3.out) hg4 HB2.out.size (HB3.out.trans (hb4.mono HB3.out.size))
  have HRUN := hidk hrun
  have HFR := hidk hfr
  have HB5 := hidk hb5
  clear hrun hfr hb5 hb4 hg4 HK3 HX3 HB3 HB2 F1 AP
  go_wp2_with (first
    | (show wpList _ _ _ ({ dst := some 18, op := _, type := _, pos := _, after := _, guard := _ } :: _) _ _; refine wpList_append_run rfl (.tmp 15) (.tmp 17) 58 58 rfl _ _ _ w5 rfl rfl HRUN.out ?_; try simp only [Act.put, List.setIfInBounds_toArray, List.set_cons_zero, List.set_cons_succ])
    | fail)
  refine (LY.out w5 a5 nn c5 Hnn.out (by rw [Hnn.out]; rw [Hnn.out] at HFR; exact HFR.out)).mono ?_
  rintro e w6 ⟨⟨a6, c6, rfl, hr6⟩, hb6⟩
  have HR6 := hidk hr6
  have HB6 := hidk (HB5.out.trans (hb6.mono HB5.out.size))
  clear hr6 hb6
  go_wp2
  go_ret2
  exact ⟨⟨_, _, rfl, HR6.out⟩, HB6.out⟩
theorem ePutE_any (x : EnT) (hin : InE x) (w : World) (X : Array Value) (HX : Hid (X = (ecells x).toArray)) :
    Calls Tryd.prog 7 #[.agg X] w fun e w' => BytesE (eB x) (eE x) e w' ∧ Below w.heap.size w w' := by
  unfold eB eE
  cases hr : rightE x
  · exact ePutE_no x hin.ok hr w X HX
  · exact ePutE_yes x hin hr w X HX
end Go.Proofs.YtgkfodmccfnaoaaDoor

/- What a reader's own calls answer: what is left of a row, field by field. -/
namespace Go.Proofs.YtgkfodmccfnaoaaDoor
open Go.RowKit Sums Nums
set_option linter.unusedVariables false
set_option linter.unusedSimpArgs false
set_option maxRecDepth 100000
theorem grownBy_set0 (W : World) (b : Nat) (v : Value) : W.grownBy (W.setCell ⟨b, 0, none⟩ v) (some b) :=
  ⟨rfl, rfl, rfl, by simp [World.setCell], fun k _ hk => Below.heap_setCell W ⟨b, 0, none⟩ v k (fun e => hk (by rw [e]))⟩
/-- The fields that are left of a row, by a reader's variable g; they lie in a block from lo on, below g. -/
def Rd (W : World) (lo g : Nat) (fs : List (Int × ByteArray)) : Prop :=
  ∃ a cap, W.heap[g]? = some (.cells #[.slice a fs.length cap] 115 (0, 0)) ∧ lo ≤ g ∧ fs.length ≤ cap ∧ cap ≤ 9223372036854775807 ∧ (∀ f ∈ fs, f.2.size ≤ maxLen) ∧
    (fs = [] ∨ ∃ b off, a = some ⟨b, off, none⟩ ∧ lo ≤ b ∧ b < g ∧ ∀ (i : Nat) (h : i < fs.length), W.cell? ⟨b, off + i * 2, none⟩ = some (.int .i64 fs[i].1) ∧ W.cell? ⟨b, off + i * 2 + 1, none⟩ = some (.string fs[i].2))
theorem Rd.keep {W W' : World} {lo g : Nat} {fs : List (Int × ByteArray)} (h : Rd W lo g fs) (hb : ∀ k, lo ≤ k → k ≤ g → W'.heap[k]? = W.heap[k]?) : Rd W' lo g fs := by
  obtain ⟨a, cap, h1, h2, h3, h4, h5, h6⟩ := h
  refine ⟨a, cap, (hb g h2 (Nat.le_refl _)).trans h1, h2, h3, h4, h5, ?_⟩
  rcases h6 with h6 | ⟨b, off, e, hl, hg, hc⟩
  · exact .inl h6
  · have hk := hb b hl (by omega)
    exact .inr ⟨b, off, e, hl, hg, fun i hi => ⟨(World.cell?_of_block (a := ⟨b, off + i * 2, none⟩) hk).trans (hc i hi).1, (World.cell?_of_block (a := ⟨b, off + i * 2 + 1, none⟩) hk).trans (hc i hi).2⟩⟩
theorem Rd.lt {W : World} {lo g : Nat} {fs : List (Int × ByteArray)} (h : Rd W lo g fs) : g < W.heap.size := by
  obtain ⟨a, cap, h1, _⟩ := h
  exact heap_lt h1
theorem Rd.below {W W' : World} {lo g : Nat} {fs : List (Int × ByteArray)} (h : Rd W lo g fs) (hb : Below W.heap.size W W') : Rd W' lo g fs :=
  h.keep fun k _ hk => hb.block k (Nat.lt_of_le_of_lt hk h.lt)
theorem Rd.wrote {W W' : World} {lo g k : Nat} {D : Array Value} {t : TypeId} {fs : List (Int × ByteArray)} (h : Rd W lo g fs) (hw : Wrote k D t W W') (hk : k < lo ∨ g < k) : Rd W' lo g fs :=
  h.keep fun i hi hg => hw.other i (by omega)
def tkD (tag : Int) (fs : List (Int × ByteArray)) : ByteArray := match fs with
  | f :: _ => if f.1 = tag then f.2 else ⟨#[]⟩
  | [] => ⟨#[]⟩
def tkB (tag : Int) (fs : List (Int × ByteArray)) : Bool := match fs with
  | f :: _ => decide (f.1 = tag)
  | [] => false
def tkR (tag : Int) (fs : List (Int × ByteArray)) : List (Int × ByteArray) := match fs with
  | f :: r => if f.1 = tag then r else f :: r
  | [] => []
theorem ended_any (W : World) (lo g : Nat) (fs : List (Int × ByteArray)) (h : Rd W lo g fs) (x : Bool) (hx : x = decide (fs.length = 0)) :
    Calls Tryd.prog 85 #[.pointer (some ⟨g, 0, none⟩)] W fun e w' => e = .returned (.bool x) ∧ w' = W := by
  obtain ⟨a, cap, h1, h2, h3, h4, h5, h6⟩ := h
  have hc : W.cell? ⟨g, 0, none⟩ = some (.slice a fs.length cap) := by rw [cell_of_row W g 0 _ _ (0, 0) h1]; rfl
  have hm : fs.length ≤ 9223372036854775807 := by omega
  subst hx
  cases fs with
  | nil =>
    clear h1 h2 h3 h5 h6
    simp only [List.length_nil] at hc
    go_enter Tryd.func85, Tryd.ntmps85
    go_wp2
    go_ret
    exact ⟨rfl, rfl⟩
  | cons f r =>
    clear h1 h2 h3 h5 h6
    simp only [List.length_cons] at hc hm
    go_enter Tryd.func85, Tryd.ntmps85
    go_wp2
    go_ret
    exact ⟨by simp; omega, rfl⟩
set_option maxHeartbeats 2000000 in
theorem data_any (W : World) (lo g : Nat) (fs : List (Int × ByteArray)) (tag : Int) (h : Rd W lo g fs) :
    Calls Tryd.prog 100 #[.pointer (some ⟨g, 0, none⟩), .int .i64 tag] W fun e w' => e = .returned (.tuple #[.string (tkD tag fs), .bool (tkB tag fs)]) ∧ W.grownBy w' (some g) ∧ Rd w' lo g (tkR tag fs) := by
  obtain ⟨x, hx⟩ : ∃ x, x = decide (fs.length = 0) := ⟨_, rfl⟩
  have E1 : Hid (Calls Tryd.prog 85 #[.pointer (some ⟨g, 0, none⟩)] W fun e w' => e = .returned (.bool x) ∧ w' = W) := ended_any W lo g fs h x hx
  have HR := hidk h
  obtain ⟨a, cap, h1, h2, h3, h4, h5, h6⟩ := h
  have hc : W.cell? ⟨g, 0, none⟩ = some (.slice a fs.length cap) := by rw [cell_of_row W g 0 _ _ (0, 0) h1]; rfl
  have hm : fs.length ≤ 9223372036854775807 := by omega
  cases fs with
  | nil =>
    obtain rfl : x = true := by rw [hx]; rfl
    clear h1 h2 h3 h5 h6 hx hc hm
    go_enter Tryd.func100, Tryd.ntmps100
    go_wp2_with fail
    refine E1.out.mono ?_
    rintro e w1 ⟨rfl, rfl⟩
    go_wp2
    go_ret2
    exact ⟨rfl, World.grownBy.refl _ _, HR.out⟩
  | cons f r =>
    obtain rfl : x = false := by rw [hx]; simp
    rcases h6 with h6 | ⟨b, off, rfl, hl, hg, hcs⟩
    · cases h6
    have c0 := (hcs 0 (by simp)).1
    have c1 := (hcs 0 (by simp)).2
    simp only [Nat.zero_mul, Nat.add_zero, List.getElem_cons_zero] at c0 c1
    simp only [List.length_cons] at hc hm h3
    have hfz : W.frozen? ⟨g, 0, none⟩ = false := frozen_of_row W g 0 _ _ h1
    by_cases ht : f.1 = tag
    · have HE : Hid (tkD tag (f :: r) = f.2 ∧ tkB tag (f :: r) = true ∧ tkR tag (f :: r) = r) := ⟨if_pos ht, by show decide _ = true; simpa using ht, if_pos ht⟩
      rw [HE.out.1, HE.out.2.1, HE.out.2.2]
      obtain ⟨d, hd⟩ : ∃ d, d = f.2 := ⟨_, rfl⟩
      rw [ht] at c0
      rw [← hd] at c1 ⊢
      clear HE ht hd
      by_cases hcap : cap = 1
      · obtain rfl : r = [] := List.eq_nil_of_length_eq_zero (by omega)
        subst hcap
        have HG := hidk (grownBy_set0 W g (.slice (some ⟨b, off, none⟩) 0 0))
        have HN : Hid (Rd (W.setCell ⟨g, 0, none⟩ (.slice (some ⟨b, off, none⟩) 0 0)) lo g []) :=
          ⟨some ⟨b, off, none⟩, 0, Go.heap_setCell_same W g 0 _ _ _ h1, h2, Nat.le_refl _, by omega, fun y hy => by simp at hy, .inl rfl⟩
        simp only [List.length_nil, Nat.zero_add] at hc
        clear h1 h2 h5 hx HR hcs h3 hm
        go_enter Tryd.func100, Tryd.ntmps100
        go_wp2_with fail
        refine E1.out.mono ?_
        rintro e w1 ⟨rfl, rfl⟩
        go_wp2
        go_ret2
        exact ⟨rfl, HG.out, HN.out⟩
      · have HG := hidk (grownBy_set0 W g (.slice (some ⟨b, off + 2, none⟩) r.length (cap - 1)))
        have HN : Hid (Rd (W.setCell ⟨g, 0, none⟩ (.slice (some ⟨b, off + 2, none⟩) r.length (cap - 1))) lo g r) := by
          refine ⟨some ⟨b, off + 2, none⟩, cap - 1, ?_, h2, by omega, by omega, fun y hy => h5 y (List.mem_cons_of_mem _ hy), .inr ⟨b, off + 2, rfl, hl, hg, fun i hi => ?_⟩⟩
          · exact Go.heap_setCell_same W g 0 _ _ _ h1
          · have hk := Below.heap_setCell W ⟨g, 0, none⟩ (.slice (some ⟨b, off + 2, none⟩) r.length (cap - 1)) b (by show b ≠ g; omega)
            have hh := hcs (i + 1) (by simpa using hi)
            rw [show off + (i + 1) * 2 = off + 2 + i * 2 by omega] at hh
            exact ⟨(World.cell?_of_block (a := ⟨b, off + 2 + i * 2, none⟩) hk).trans hh.1, (World.cell?_of_block (a := ⟨b, off + 2 + i * 2 + 1, none⟩) hk).trans hh.2⟩
        have hcap' : ¬ cap - 1 = 0 := by omega
        clear h1 h2 h5 hx HR hcs
        go_enter Tryd.func100, Tryd.ntmps100
        go_wp2_with fail
        refine E1.out.mono ?_
        rintro e w1 ⟨rfl, rfl⟩
        go_wp2
        go_ret2
        exact ⟨rfl, HG.out, HN.out⟩
    · have HE : Hid (tkD tag (f :: r) = ⟨#[]⟩ ∧ tkB tag (f :: r) = false ∧ tkR tag (f :: r) = f :: r) := ⟨if_neg ht, by show decide _ = false; simpa using ht, if_neg ht⟩
      rw [HE.out.1, HE.out.2.1, HE.out.2.2]
      obtain ⟨t, hd⟩ : ∃ d, d = f.1 := ⟨_, rfl⟩
      rw [← hd] at c0 ht
      clear h1 h2 h5 hx hcs HE hd c1
      go_enter Tryd.func100, Tryd.ntmps100
      go_wp2_with fail
      refine E1.out.mono ?_
      rintro e w1 ⟨rfl, rfl⟩
      go_wp2
      go_ret2
      exact ⟨rfl, World.grownBy.refl _ _, HR.out⟩
end Go.Proofs.YtgkfodmccfnaoaaDoor

/- What a reader takes: numbers, digests; what fills a place by it. -/
namespace Go.Proofs.YtgkfodmccfnaoaaDoor
open Go.RowKit Sums Nums
set_option linter.unusedVariables false
set_option linter.unusedSimpArgs false
set_option maxRecDepth 100000
theorem Rd.small {W : World} {lo g : Nat} {fs : List (Int × ByteArray)} (h : Rd W lo g fs) (tag : Int) : (tkD tag fs).size ≤ maxLen := by
  obtain ⟨a, cap, h1, h2, h3, h4, h5, h6⟩ := h
  cases fs with
  | nil => show (⟨#[]⟩ : ByteArray).size ≤ maxLen; unfold maxLen; decide
  | cons f r =>
    unfold tkD
    split
    · rename_i hh
      split
      · have := List.cons.inj hh
        rw [← this.1]
        exact h5 f (List.mem_cons_self ..)
      · show (⟨#[]⟩ : ByteArray).size ≤ maxLen; unfold maxLen; decide
    · show (⟨#[]⟩ : ByteArray).size ≤ maxLen; unfold maxLen; decide
theorem grown_trans {a b c : World} {r : Option Nat} (h : a.grownBy b r) (k : b.grownBy c r) : a.grownBy c r :=
  ⟨k.os.trans h.os, k.tape.trans h.tape, k.output.trans h.output, Nat.le_trans h.size k.size, fun i hi hr => (k.block i (Nat.lt_of_lt_of_le hi h.size) hr).trans (h.block i hi hr)⟩
theorem grown_below {a b : World} {r : Option Nat} (h : Below a.heap.size a b) : a.grownBy b r := ⟨h.os, h.tape, h.output, h.size, fun k hk _ => h.block k hk⟩
/-- A write above what was there. -/
theorem grown_wrote {a b c : World} {r : Option Nat} {g : Nat} {D : Array Value} {t : TypeId} (h : a.grownBy b r) (hw : Wrote g D t b c) (hg : a.heap.size ≤ g) : a.grownBy c r := by
  have hb : Below a.heap.size b c := hw.below a.heap.size b (Below.refl _ _) hg
  exact ⟨hb.os.trans h.os, hb.tape.trans h.tape, hb.output.trans h.output, Nat.le_trans h.size hb.size, fun i hi hr => (hb.block i hi).trans (h.block i hi hr)⟩
def nV (tag : Int) (fs : List (Int × ByteArray)) : Int := vOf (tkD tag fs).data.toList
def nB (tag : Int) (fs : List (Int × ByteArray)) : Bool := tkB tag fs && isNum (tkD tag fs).data.toList
set_option maxHeartbeats 2000000 in
theorem rnum_any (W : World) (lo g : Nat) (fs : List (Int × ByteArray)) (tag : Int) (h : Rd W lo g fs) :
    Calls Tryd.prog 82 #[.pointer (some ⟨g, 0, none⟩), .int .i64 tag] W fun e w' => e = .returned (.tuple #[.int .i64 (nV tag fs), .bool (nB tag fs)]) ∧ W.grownBy w' (some g) ∧ Rd w' lo g (tkR tag fs) := by
  have D1 := hidk (data_any W lo g fs tag h)
  have hs := h.small tag
  unfold nV nB
  obtain ⟨d, hd⟩ : ∃ d, d = tkD tag fs := ⟨_, rfl⟩
  obtain ⟨b, hb⟩ : ∃ b, b = tkB tag fs := ⟨_, rfl⟩
  obtain ⟨r, hr⟩ : ∃ r, r = tkR tag fs := ⟨_, rfl⟩
  rw [← hd] at hs ⊢
  rw [← hd, ← hb, ← hr] at D1
  rw [← hb, ← hr]
  obtain ⟨n, hn⟩ : ∃ n, n = vOf d.data.toList := ⟨_, rfl⟩
  obtain ⟨E, hE⟩ : ∃ n, n = eOf d.data.toList := ⟨_, rfl⟩
  have V1 : Hid (∀ W, Calls Tryd.prog 77 #[.string d] W fun e w' => e = .returned (.tuple #[.int .i64 n, .int .i64 E]) ∧ W = w') := fun W => by rw [hn, hE]; exact value_any d W hs
  rw [← hn]
  have hE2 : (E = 0 ∧ isNum d.data.toList = true) ∨ (E = 11 ∧ isNum d.data.toList = false) := by
    rw [hE]
    cases hq : isNum d.data.toList
    · exact .inr ⟨(v_no hq).2, rfl⟩
    · exact .inl ⟨(v_yes hq).2, rfl⟩
  clear hd hb hr hn hE hs h
  rcases hE2 with ⟨rfl, hq⟩ | ⟨rfl, hq⟩
  all_goals
    rw [hq]
    clear hq
    cases b
    all_goals
      go_enter Tryd.func82, Tryd.ntmps82
      go_wp2_with fail
      refine D1.out.mono ?_
      rintro e w1 ⟨rfl, hg1, hr1⟩
      have HG := hidk hg1
      have HR := hidk hr1
      clear hg1 hr1
      go_wp2_with fail
      refine (V1.out _).mono ?_
      rintro e w2 ⟨rfl, rfl⟩
      go_wp2
      go_ret2
      exact ⟨rfl, HG.out, HR.out⟩
/-- A digest's bytes copied out of a text. -/
theorem wpList_copy_text {ops : Array Oper} {rest : List Oper} {o : Oper} {a : Act} {w : World} {Q : Exit → Act → World → Prop} (hgd : o.guard = none) (s x : Operand) (hop : o.op = Op.call { callee := Callee.builtin Builtin.copy, args := #[s, x], argTypes := #[33, 9] })
    (g : Nat) (t : TypeId) (hs : a.eval s = .slice (some ⟨g, 0, none⟩) 32 32) (u : ByteArray) (hx : a.eval x = .string u) (hu : u.size = 32) (Z D : Array Value) (hZ : Z.size = 32) (HD : Hid (D = (cellsOf u.data.toList).toArray)) (hg : w.heap[g]? = some (.cells Z t (0, 0)))
    (h : ∀ w', Hid (Wrote g D t w w') → wpList Tryd.prog ops Q rest (a.put o.dst (.int .i64 32)) w') : wpList Tryd.prog ops Q (o :: rest) a w := by
  refine wpList_plain hgd fun K hK => ?_
  have hrun := Lib.run_copy_row_string (P := Tryd.prog) w 33 9 o.type 5 g 0 32 32 u Z t Tryd.underlying33 (by kernel_rfl) hg (by omega) (by omega)
  have e : (Z.toList.take 0 ++ Lib.byteCells u.data.toList ++ Z.toList.drop (0 + u.size)).toArray = D := by
    rw [HD.out, List.take_zero, List.nil_append, List.drop_of_length_le (by rw [Array.length_toList]; omega), List.append_nil]
    rfl
  rw [e, hu] at hrun
  unfold Oper.wp
  simp [execOp, hop, resolve, invoke, builtin, hs, hx, hrun, Result.andThen, goInt]
  exact hK _ _ (h _ (wrote_row hg))
def dB (tag : Int) (fs : List (Int × ByteArray)) : Bool := tkB tag fs && decide ((tkD tag fs).size = 32)
def dV (tag : Int) (fs : List (Int × ByteArray)) : List UInt8 := if dB tag fs = true then (tkD tag fs).data.toList else List.replicate 32 0
theorem dV_length (tag : Int) (fs : List (Int × ByteArray)) : (dV tag fs).length = 32 := by
  unfold dV
  split
  · rename_i h
    unfold dB at h
    simp only [Bool.and_eq_true, decide_eq_true_eq] at h
    exact h.2
  · rfl
set_option maxHeartbeats 4000000 in
theorem rdig_any (W : World) (lo g : Nat) (fs : List (Int × ByteArray)) (tag : Int) (h : Rd W lo g fs) (D : Array Value) (HD : Hid (D = (cellsOf (dV tag fs)).toArray)) :
    Calls Tryd.prog 84 #[.pointer (some ⟨g, 0, none⟩), .int .i64 tag] W fun e w' => e = .returned (.tuple #[.agg D, .bool (dB tag fs)]) ∧ W.grownBy w' (some g) ∧ Rd w' lo g (tkR tag fs) := by
  obtain ⟨Z, HZ, HA, HS, H1, H32⟩ := noughts27
  have HH := hidk h
  have D1 : Hid (∀ V, Rd V lo g fs → Calls Tryd.prog 100 #[.pointer (some ⟨g, 0, none⟩), .int .i64 tag] V fun e w' => e = .returned (.tuple #[.string (tkD tag fs), .bool (tkB tag fs)]) ∧ V.grownBy w' (some g) ∧ Rd w' lo g (tkR tag fs)) := fun V hV => data_any V lo g fs tag hV
  have hs := h.small tag
  have hlt := h.lt
  have HSD : Hid ((Tryd.prog.info? 24).map (·.size) = some D.size) := by show _ = _; rw [size23, HD.out]; simp [cellsOf_length, dV_length]
  have H1D : Hid (D.all (·.oneCell') = true) := by show _ = _; rw [HD.out]; exact cellsOf_all _
  have HZD : Hid (Z.size = D.size) := by show _ = _; rw [H32.out, HD.out]; simp [cellsOf_length, dV_length]
  have h32 : Z.size = 32 := H32.out
  have HSZ := HS
  have HDV : dB tag fs = true → Hid (D = (cellsOf (tkD tag fs).data.toList).toArray) := fun hq => by
    show _ = _
    rw [HD.out]; unfold dV; rw [if_pos hq]
  have HDZ : dB tag fs = false → Hid (D = Z) := fun hq => by
    show _ = _
    rw [HD.out, HZ.out]; unfold dV; rw [if_neg (by rw [hq]; simp)]
  have hnot : ∀ (x : Bool) (w : World), (Op.unary .not (.bool x)).run Tryd.prog w = .ok (.bool (!x)) w := fun _ _ => rfl
  unfold dB at HDV HDZ ⊢
  clear HD HZ
  obtain ⟨d, hd⟩ : ∃ d, d = tkD tag fs := ⟨_, rfl⟩
  obtain ⟨b, hb⟩ : ∃ b, b = tkB tag fs := ⟨_, rfl⟩
  obtain ⟨r, hr⟩ : ∃ r, r = tkR tag fs := ⟨_, rfl⟩
  rw [← hd] at hs
  simp only [← hd, ← hb, ← hr] at D1 HDV HDZ ⊢
  unfold maxLen at hs
  clear hd hb hr h
  cases b
  · obtain rfl := (HDZ rfl).out
    clear HDV HDZ
    go_enter Tryd.func84, Tryd.ntmps84
    go_wp2_with (first
      | (show wpList _ _ _ ({ dst := some 4, op := _, type := _, pos := _, after := _, guard := _ } :: _) _ _; refine wpList_new_var rfl 24 rfl D HA.out ?_; intro g4 w1 HM4; try simp only [Act.put, List.setIfInBounds_toArray, List.set_cons_zero, List.set_cons_succ])
      | (show wpList _ _ _ ({ dst := some 6, op := _, type := _, pos := _, after := _, guard := _ } :: _) _ _; refine wpList_new_var rfl 24 rfl D HA.out ?_; intro g6 w2 HM6; try simp only [Act.put, List.setIfInBounds_toArray, List.set_cons_zero, List.set_cons_succ])
      | fail)
    have HB2 : Hid (Below W.heap.size W w2) := HM4.out.below.trans (HM6.out.below.mono HM4.out.below.size)
    refine (D1.out w2 (HH.out.below HB2.out)).mono ?_
    rintro e w3 ⟨rfl, hg3, hr3⟩
    have HG3 := hidk (grown_trans (grown_below HB2.out) hg3)
    have HR3 := hidk hr3
    have h4 : W.heap.size ≤ g4 := Nat.le_of_eq HM4.out.new.symm
    have h6 : g4 < g6 := by have e1 := HM6.out.new; have := heap_lt HM4.out.row; omega
    have HR4 : Hid (w3.heap[g4]? = some (.cells D 24 (0, 0))) := by
      have q : w2.heap[g4]? = some (.cells D 24 (0, 0)) := (HM6.out.below.block _ (heap_lt HM4.out.row)).trans HM4.out.row
      exact (hg3.block _ (heap_lt q) (by intro e; cases e; omega)).trans q
    have HR6 : Hid (w3.heap[g6]? = some (.cells D 24 (0, 0))) := (hg3.block _ (heap_lt HM6.out.row) (by intro e; cases e; omega)).trans HM6.out.row
    clear HM4 HM6 HB2 hg3 hr3 D1 HH
    go_wp2_with (first
      | (show wpList _ _ _ ({ dst := some 22, op := _, type := _, pos := _, after := _, guard := _ } :: _) _ _; refine wpList_load_row rfl 24 (.tmp 6) rfl g6 rfl 24 D (0, 0) _ HR6.out Tryd.underlying24 rfl HSD.out ?_; try simp only [Act.put, List.setIfInBounds_toArray, List.set_cons_zero, List.set_cons_succ])
      | (refine wpList_set_var rfl 24 (.tmp 4) (.tmp 22) rfl g4 D rfl rfl 24 D HR4.out HSD.out rfl H1D.out ?_; intro w4 HW4; try simp only [Act.put, List.setIfInBounds_toArray, List.set_cons_zero, List.set_cons_succ])
      | fail)
    refine bodyPost_ret (v := .tuple #[.agg D, .bool false]) ?_ rfl ⟨rfl, ?_, HR3.out.wrote HW4.out (.inr (by omega))⟩
    · exact results_row_tmp (p := 4) (q := 5) (ty := 24) rfl _ _ g4 24 D (0, 0) _ rfl HW4.out.row Tryd.underlying24 rfl HSD.out
    · exact grown_wrote HG3.out HW4.out (by omega)
  · by_cases h2 : d.size = 32
    · have HDD := HDV (by simpa using h2)
      have hd : decide (d.size = 32) = true := by simpa using h2
      rw [hd]
      clear HDV HDZ hd
      go_enter Tryd.func84, Tryd.ntmps84
      go_wp2_with (first
        | (show wpList _ _ _ ({ dst := some 4, op := _, type := _, pos := _, after := _, guard := _ } :: _) _ _; refine wpList_new_var rfl 24 rfl Z HA.out ?_; intro g4 w1 HM4; try simp only [Act.put, List.setIfInBounds_toArray, List.set_cons_zero, List.set_cons_succ])
        | (show wpList _ _ _ ({ dst := some 6, op := _, type := _, pos := _, after := _, guard := _ } :: _) _ _; refine wpList_new_var rfl 24 rfl Z HA.out ?_; intro g6 w2 HM6; try simp only [Act.put, List.setIfInBounds_toArray, List.set_cons_zero, List.set_cons_succ])
        | fail)
      have HB2 : Hid (Below W.heap.size W w2) := HM4.out.below.trans (HM6.out.below.mono HM4.out.below.size)
      refine (D1.out w2 (HH.out.below HB2.out)).mono ?_
      rintro e w3 ⟨rfl, hg3, hr3⟩
      have HG3 := hidk (grown_trans (grown_below HB2.out) hg3)
      have HR3 := hidk hr3
      have h4 : W.heap.size ≤ g4 := Nat.le_of_eq HM4.out.new.symm
      have h6 : g4 < g6 := by have e1 := HM6.out.new; have := heap_lt HM4.out.row; omega
      have HR4 : Hid (w3.heap[g4]? = some (.cells Z 24 (0, 0))) := by
        have q : w2.heap[g4]? = some (.cells Z 24 (0, 0)) := (HM6.out.below.block _ (heap_lt HM4.out.row)).trans HM4.out.row
        exact (hg3.block _ (heap_lt q) (by intro e; cases e; omega)).trans q
      have HR6 : Hid (w3.heap[g6]? = some (.cells Z 24 (0, 0))) := (hg3.block _ (heap_lt HM6.out.row) (by intro e; cases e; omega)).trans HM6.out.row
      have hsl := slice_at w3 g6 0
      have hd2 : (d.size : Int) = 32 := by omega
      clear HM4 HM6 HB2 hg3 hr3 D1 HH hs
      go_wp2_with (first
        | (refine wpList_copy_text rfl (.tmp 23) (.tmp 24) rfl g6 24 rfl d rfl h2 Z D h32 HDD HR6.out ?_; intro w4 HW6; try simp only [Act.put, List.setIfInBounds_toArray, List.set_cons_zero, List.set_cons_succ])
        | (show wpList _ _ _ ({ dst := some 26, op := _, type := _, pos := _, after := _, guard := _ } :: _) _ _; refine wpList_load_row rfl 24 (.tmp 6) rfl g6 rfl 24 D (0, 0) _ HW6.out.row Tryd.underlying24 rfl HSD.out ?_; try simp only [Act.put, List.setIfInBounds_toArray, List.set_cons_zero, List.set_cons_succ])
        | (refine wpList_set_var rfl 24 (.tmp 4) (.tmp 26) rfl g4 D rfl rfl 24 Z ((HW6.out.other _ (by omega)).trans HR4.out) HSD.out HZD.out H1D.out ?_; intro w5 HW4; try simp only [Act.put, List.setIfInBounds_toArray, List.set_cons_zero, List.set_cons_succ])
        | fail)
      refine bodyPost_ret (v := .tuple #[.agg D, .bool true]) ?_ rfl ⟨rfl, ?_, (HR3.out.wrote HW6.out (.inr (by omega))).wrote HW4.out (.inr (by omega))⟩
      · exact results_row_tmp (p := 4) (q := 5) (ty := 24) rfl _ _ g4 24 D (0, 0) _ rfl HW4.out.row Tryd.underlying24 rfl HSD.out
      · exact grown_wrote (grown_wrote HG3.out HW6.out (by omega)) HW4.out (by omega)
    · have hd : decide (d.size = 32) = false := by simpa using h2
      rw [hd] at HDZ ⊢
      obtain rfl := (HDZ rfl).out
      clear HDV HDZ hd
      have hd2 : ¬ (d.size : Int) = 32 := by omega
      go_enter Tryd.func84, Tryd.ntmps84
      go_wp2_with (first
        | (show wpList _ _ _ ({ dst := some 4, op := _, type := _, pos := _, after := _, guard := _ } :: _) _ _; refine wpList_new_var rfl 24 rfl D HA.out ?_; intro g4 w1 HM4; try simp only [Act.put, List.setIfInBounds_toArray, List.set_cons_zero, List.set_cons_succ])
        | (show wpList _ _ _ ({ dst := some 6, op := _, type := _, pos := _, after := _, guard := _ } :: _) _ _; refine wpList_new_var rfl 24 rfl D HA.out ?_; intro g6 w2 HM6; try simp only [Act.put, List.setIfInBounds_toArray, List.set_cons_zero, List.set_cons_succ])
        | fail)
      have HB2 : Hid (Below W.heap.size W w2) := HM4.out.below.trans (HM6.out.below.mono HM4.out.below.size)
      refine (D1.out w2 (HH.out.below HB2.out)).mono ?_
      rintro e w3 ⟨rfl, hg3, hr3⟩
      have HG3 := hidk (grown_trans (grown_below HB2.out) hg3)
      have HR3 := hidk hr3
      have h4 : W.heap.size ≤ g4 := Nat.le_of_eq HM4.out.new.symm
      have h6 : g4 < g6 := by have e1 := HM6.out.new; have := heap_lt HM4.out.row; omega
      have HR4 : Hid (w3.heap[g4]? = some (.cells D 24 (0, 0))) := by
        have q : w2.heap[g4]? = some (.cells D 24 (0, 0)) := (HM6.out.below.block _ (heap_lt HM4.out.row)).trans HM4.out.row
        exact (hg3.block _ (heap_lt q) (by intro e; cases e; omega)).trans q
      have HR6 : Hid (w3.heap[g6]? = some (.cells D 24 (0, 0))) := (hg3.block _ (heap_lt HM6.out.row) (by intro e; cases e; omega)).trans HM6.out.row
      clear HM4 HM6 HB2 hg3 hr3 D1 HH h2
      go_wp2_with (first
        | (show wpList _ _ _ ({ dst := some 22, op := _, type := _, pos := _, after := _, guard := _ } :: _) _ _; refine wpList_load_row rfl 24 (.tmp 6) rfl g6 rfl 24 D (0, 0) _ HR6.out Tryd.underlying24 rfl HSD.out ?_; try simp only [Act.put, List.setIfInBounds_toArray, List.set_cons_zero, List.set_cons_succ])
        | (refine wpList_set_var rfl 24 (.tmp 4) (.tmp 22) rfl g4 D rfl rfl 24 D HR4.out HSD.out rfl H1D.out ?_; intro w4 HW4; try simp only [Act.put, List.setIfInBounds_toArray, List.set_cons_zero, List.set_cons_succ])
        | fail)
      refine bodyPost_ret (v := .tuple #[.agg D, .bool false]) ?_ rfl ⟨rfl, ?_, HR3.out.wrote HW4.out (.inr (by omega))⟩
      · exact results_row_tmp (p := 4) (q := 5) (ty := 24) rfl _ _ g4 24 D (0, 0) _ rfl HW4.out.row Tryd.underlying24 rfl HSD.out
      · exact grown_wrote HG3.out HW4.out (by omega)
end Go.Proofs.YtgkfodmccfnaoaaDoor

/- A place that is filled by a reader's number or digest; a row that is opened. -/
namespace Go.Proofs.YtgkfodmccfnaoaaDoor
open Go.RowKit Sums Nums
set_option linter.unusedVariables false
set_option linter.unusedSimpArgs false
set_option maxRecDepth 100000
/-- What is left as it was where one variable and a reader were written. -/
structure Went (gh g : Nat) (W W' : World) : Prop where
  below : ∀ B a, Below B a W → B ≤ gh → B ≤ g → Below B a W'
  other : ∀ k, k < W.heap.size → k ≠ gh → k ≠ g → W'.heap[k]? = W.heap[k]?
theorem went_of {gh g : Nat} {W W1 W' : World} {D : Array Value} {t : TypeId} (h : W.grownBy W1 (some g)) (hw : Wrote gh D t W1 W') (hg : g < W.heap.size) : Went gh g W W' :=
  ⟨fun B a hb h1 h2 => hw.below B a (hb.grown h (by omega) (by intro k hk; cases hk; exact h2)) h1,
   fun k hk h1 h2 => (hw.other k h1).trans (h.block k hk (by intro e; cases e; exact h2 rfl))⟩
/-- A number stored in a place of a variable. -/
theorem wpList_put64 {P : Program} {ops : Array Oper} {rest : List Oper} {o : Oper} {a : Act} {w : World} {Q : Exit → Act → World → Prop} (hgd : o.guard = none) (t : TypeId) (x y : Operand) (ho : o.op = .store t x y) (hs : ∀ w, (sizeOf t).run P w = .ok 1 w)
    (g i : Nat) (n : Int) (hx : a.eval x = .pointer (some ⟨g, i, none⟩)) (hy : a.eval y = .int .i64 n) (cs : Array Value) (t' : TypeId) (hg : w.heap[g]? = some (.cells cs t' (0, 0))) (hi : i < cs.size)
    (h : ∀ w', Hid (Wrote g (cs.setIfInBounds i (.int .i64 n)) t' w w') → wpList P ops Q rest (a.put o.dst undef) w') : wpList P ops Q (o :: rest) a w := by
  refine wpList_plain hgd fun K hK => ?_
  have hc : w.cell? ⟨g, i, none⟩ = some cs[i] := by rw [cell_of_row w g i cs t' (0, 0) hg, Array.getElem?_eq_getElem hi]
  have hf : w.frozen? ⟨g, i, none⟩ = false := frozen_of_row w g i cs t' hg
  have hrun : (Instr.storeAt t (.pointer (some ⟨g, i, none⟩)) (.int .i64 n)).run P w = .ok () (w.setCell ⟨g, i, none⟩ (.int .i64 n)) := by
    simp [go_sem, hc, hf, hs]
  unfold Oper.wp execOp
  simp only [ho, hx, hy, hrun, Sem.run_bind, Result.andThen_ok]
  exact hK _ _ (h _ (wrote_cell _ hg))
theorem sizeOf3 (w : World) : (sizeOf 3).run Tryd.prog w = .ok 1 w := by
  have h : (Tryd.prog.info? 3).map (·.size) = some 1 := by kernel_rfl
  cases hq : Tryd.prog.info? 3 with
  | none => rw [hq] at h; cases h
  | some i =>
    rw [hq] at h
    simp only [Option.map_some, Option.some.injEq] at h
    simp [sizeOf, typeInfo, hq, h]
set_option maxHeartbeats 2000000 in
theorem into_int (W : World) (lo g gh off : Nat) (fs : List (Int × ByteArray)) (tag : Int) (h : Rd W lo g fs) (C C' : Array Value) (t : TypeId) (hC : W.heap[gh]? = some (.cells C t (0, 0))) (ho : off < C.size) (hl : gh < lo) (HC' : Hid (C' = C.setIfInBounds off (.int .i64 (nV tag fs)))) :
    Calls Tryd.prog 81 #[.pointer (some ⟨gh, off, none⟩), .int .i64 tag, .func (.func 82) #[.pointer (some ⟨g, 0, none⟩)] #[]] W fun e w' =>
      e = .returned (.bool (nB tag fs)) ∧ w'.heap[gh]? = some (.cells C' t (0, 0)) ∧ Rd w' lo g (tkR tag fs) ∧ Went gh g W w' := by
  have N1 := hidk (rnum_any W lo g fs tag h)
  have hlt := h.lt
  have hgg : gh ≠ g := by obtain ⟨_, _, _, q, _⟩ := h; omega
  rw [HC'.out]
  have HC := hidk hC
  obtain ⟨n, hn⟩ : ∃ n, n = nV tag fs := ⟨_, rfl⟩
  obtain ⟨b, hb⟩ : ∃ n, n = nB tag fs := ⟨_, rfl⟩
  rw [← hn, ← hb] at N1
  rw [← hn, ← hb]
  clear HC' hn hb h hC
  go_enter Tryd.func81, Tryd.ntmps81
  go_wp2_with fail
  refine N1.out.mono ?_
  rintro e w1 ⟨rfl, hg1, hr1⟩
  have HG := hidk hg1
  have HR := hidk hr1
  have HC1 := hidk ((hg1.block _ (heap_lt HC.out) (by intro e; cases e; exact hgg rfl)).trans HC.out)
  clear hg1 hr1 HC
  go_wp2_with (first
    | (refine wpList_put64 rfl 3 (.tmp 17) (.tmp 16) rfl sizeOf3 gh off n rfl rfl C t HC1.out ho ?_; intro w2 HW; try simp only [Act.put, List.setIfInBounds_toArray, List.set_cons_zero, List.set_cons_succ])
    | fail)
  go_ret
  exact ⟨rfl, HW.out.row, HR.out.wrote HW.out (.inl hl), went_of HG.out HW.out hlt⟩
set_option maxHeartbeats 2000000 in
theorem into_dig (W : World) (lo g gh off : Nat) (fs : List (Int × ByteArray)) (tag : Int) (h : Rd W lo g fs) (C C' D : Array Value) (t : TypeId) (hC : W.heap[gh]? = some (.cells C t (0, 0))) (ho : off + 32 ≤ C.size) (hl : gh < lo) (HD : Hid (D = (cellsOf (dV tag fs)).toArray)) (HC' : Hid (C' = (C.toList.take off ++ D.toList ++ C.toList.drop (off + 32)).toArray)) :
    Calls Tryd.prog 83 #[.pointer (some ⟨gh, off, none⟩), .int .i64 tag, .func (.func 84) #[.pointer (some ⟨g, 0, none⟩)] #[]] W fun e w' =>
      e = .returned (.bool (dB tag fs)) ∧ w'.heap[gh]? = some (.cells C' t (0, 0)) ∧ Rd w' lo g (tkR tag fs) ∧ Went gh g W w' := by
  obtain ⟨Z, HZ, HA, HS, H1, H32⟩ := noughts27
  have N1 := hidk (rdig_any W lo g fs tag h D HD)
  have hlt := h.lt
  have HSD : Hid ((Tryd.prog.info? 24).map (·.size) = some D.size) := by show _ = _; rw [size23, HD.out]; simp [cellsOf_length, dV_length]
  have H1D : Hid (D.all (·.oneCell') = true) := by show _ = _; rw [HD.out]; exact cellsOf_all _
  have HZD : Hid (Z.size = D.size) := by show _ = _; rw [H32.out, HD.out]; simp [cellsOf_length, dV_length]
  have HD32 : Hid (D.size = 32) := by show _ = _; rw [HD.out]; simp [cellsOf_length, dV_length]
  have hgg : gh ≠ g := by obtain ⟨_, _, _, q, _⟩ := h; omega
  have HCC : Hid (C' = (C.toList.take off ++ D.toList ++ C.toList.drop (off + D.size)).toArray) := by show _ = _; rw [HD32.out, HC'.out]
  have HOO : Hid (off + D.size ≤ C.size) := by show _ ≤ _; rw [HD32.out]; exact ho
  have HC := hidk hC
  obtain ⟨b, hb⟩ : ∃ n, n = dB tag fs := ⟨_, rfl⟩
  rw [← hb] at N1
  rw [← hb]
  clear HC' hb hC HD HD32 HZ ho
  go_enter Tryd.func83, Tryd.ntmps83
  go_wp2_with fail
  refine N1.out.mono ?_
  rintro e w1 ⟨rfl, hg1, hr1⟩
  have HG := hidk hg1
  have HR := hidk hr1
  have HC1 := hidk ((hg1.block _ (heap_lt HC.out) (by intro e; cases e; exact hgg rfl)).trans HC.out)
  have hs1 := hg1.size
  clear hg1 hr1 h
  go_wp2_with (first
    | (show wpList _ _ _ ({ dst := some 7, op := _, type := _, pos := _, after := _, guard := _ } :: _) _ _; refine wpList_new_var rfl 24 rfl Z HA.out ?_; intro g7 w2 HM7; try simp only [Act.put, List.setIfInBounds_toArray, List.set_cons_zero, List.set_cons_succ])
    | (refine wpList_set_var rfl 24 (.tmp 7) (.tmp 13) rfl g7 D rfl rfl 24 Z HM7.out.row HSD.out HZD.out H1D.out ?_; intro w3 HW7; try simp only [Act.put, List.setIfInBounds_toArray, List.set_cons_zero, List.set_cons_succ])
    | (show wpList _ _ _ ({ dst := some 16, op := _, type := _, pos := _, after := _, guard := _ } :: _) _ _; refine wpList_load_row rfl 24 (.tmp 7) rfl g7 rfl 24 D (0, 0) _ HW7.out.row Tryd.underlying24 rfl HSD.out ?_; try simp only [Act.put, List.setIfInBounds_toArray, List.set_cons_zero, List.set_cons_succ])
    | (refine wpList_set_mid rfl 24 (.tmp 17) (.tmp 16) rfl gh off D rfl rfl t C ((HW7.out.other _ (by have e1 := HM7.out.new; have := heap_lt HC1.out; omega)).trans ((HM7.out.below.block _ (heap_lt HC1.out)).trans HC1.out)) HOO.out HSD.out H1D.out ?_; intro w4 HW; try simp only [Act.put, List.setIfInBounds_toArray, List.set_cons_zero, List.set_cons_succ])
    | fail)
  have h7 : w1.heap.size ≤ g7 := Nat.le_of_eq HM7.out.new.symm
  have HG2 := hidk (grown_wrote (grown_trans HG.out (grown_below HM7.out.below)) HW7.out (Nat.le_trans HG.out.size h7))
  have hb1 := HR.out.lt
  go_ret
  refine ⟨rfl, ?_, ((HR.out.below HM7.out.below).wrote HW7.out (.inr (by omega))).wrote HW.out (.inl hl), went_of HG2.out HW.out hlt⟩
  rw [HCC.out]
  exact HW.out.row
/-- A row that is opened: its fields lie in a new block. -/
def Lie (W : World) (lo : Nat) (a : Option Addr) (cap : Nat) (fs : List (Int × ByteArray)) : Prop :=
  fs.length ≤ cap ∧ cap ≤ 9223372036854775807 ∧ (∀ f ∈ fs, f.2.size ≤ maxLen) ∧
    (fs = [] ∨ ∃ b off, a = some ⟨b, off, none⟩ ∧ lo ≤ b ∧ b < W.heap.size ∧ ∀ (i : Nat) (h : i < fs.length), W.cell? ⟨b, off + i * 2, none⟩ = some (.int .i64 fs[i].1) ∧ W.cell? ⟨b, off + i * 2 + 1, none⟩ = some (.string fs[i].2))
theorem rd_new {W : World} {lo : Nat} {a : Option Addr} {cap : Nat} {fs : List (Int × ByteArray)} (h : Lie W lo a cap fs) (hl : lo ≤ W.heap.size) : Rd (W.alloc (.cells #[.slice a fs.length cap] 115)) lo W.heap.size fs := by
  obtain ⟨h1, h2, h3, h4⟩ := h
  refine ⟨a, cap, heap_alloc_new W _, hl, h1, h2, h3, ?_⟩
  rcases h4 with h4 | ⟨b, off, e, hlo, hlt, hc⟩
  · exact .inl h4
  · have hk := Below.heap_alloc W (.cells #[.slice a fs.length cap] 115) b hlt
    exact .inr ⟨b, off, e, hlo, hlt, fun i hi => ⟨(World.cell?_of_block (a := ⟨b, off + i * 2, none⟩) hk).trans (hc i hi).1, (World.cell?_of_block (a := ⟨b, off + i * 2 + 1, none⟩) hk).trans (hc i hi).2⟩⟩
theorem lie_own {w : World} {B : Nat} {v : Value} {fs : List (Int × ByteArray)} (h : w.ownsRow B 56 2 v fs.length (fcells fs)) (hm : ∀ f ∈ fs, f.2.size ≤ maxLen) : ∃ a cap, v = .slice a fs.length cap ∧ Lie w B a cap fs := by
  obtain ⟨a, cap, rfl, h1, h2, h3, h4, h5⟩ := freads_own h hm
  refine ⟨a, cap, rfl, h2, h3, hm, ?_⟩
  cases fs with
  | nil => exact .inl rfl
  | cons f r =>
    rcases h5 with ⟨rfl, e⟩ | ⟨ad, rfl, e⟩ | ⟨b, off, rfl, hlt, hc⟩
    · simp at h2; omega
    · simp at e
    · refine .inr ⟨b, off, rfl, ?_, hlt, hc⟩
      rcases h.2 with ⟨e, h0⟩ | ⟨g, cap', cur, e, hb, _⟩
      · simp at h0
      · cases e; exact hb
set_option maxHeartbeats 2000000 in
theorem open_any (a : Option Addr) (len cap : Nat) (bs : List UInt8) (w : World) (hR : Reads w a len cap bs) (hl : len ≤ 1000000) :
    Calls Tryd.prog 78 #[.slice a len cap] w fun e w' => ∃ x c, e = .returned (.slice x (readF bs).length c) ∧ Lie w' w.heap.size x c (readF bs) ∧ Below w.heap.size w w' := by
  have R1 : Hid (Calls Tryd.prog 49 #[.slice a len cap] w fun e W' => ∃ x c, e = .returned (.tuple #[.slice x (readF bs).length c, .int .i64 (readE bs)]) ∧ Lie W' w.heap.size x c (readF bs) ∧ Below w.heap.size w W') := by
    refine (read_any a len cap bs w hR hl).mono ?_
    rintro e W' ⟨v, rfl, hown, hb⟩
    obtain ⟨x, c, rfl, hlie⟩ := lie_own hown (readF_small bs)
    exact ⟨x, c, rfl, hlie, hb⟩
  obtain ⟨fs, hfs⟩ : ∃ fs, fs = readF bs := ⟨_, rfl⟩
  obtain ⟨E, hE⟩ : ∃ E : Int, E = readE bs := ⟨_, rfl⟩
  rw [← hfs, ← hE] at R1
  rw [← hfs]
  clear hfs hE hR
  go_enter Tryd.func78, Tryd.ntmps78
  go_wp2_with fail
  refine R1.out.mono ?_
  rintro e w1 ⟨x, c, rfl, hl1, hb1⟩
  have HL := hidk hl1
  have HB := hidk hb1
  clear hl1 hb1
  go_wp2
  go_ret
  exact ⟨x, c, rfl, HL.out, HB.out⟩
end Go.Proofs.YtgkfodmccfnaoaaDoor

/- What head.Get answers. -/
namespace Go.Proofs.YtgkfodmccfnaoaaDoor
open Go.RowKit Sums Nums
set_option linter.unusedVariables false
set_option linter.unusedSimpArgs false
set_option maxRecDepth 100000
theorem tk_shape {tag : Int} {fs : List (Int × ByteArray)} (h : tkB tag fs = true) : fs = (tag, tkD tag fs) :: tkR tag fs := by
  cases fs with
  | nil => cases h
  | cons f r =>
    have e : f.1 = tag := by simpa [tkB] using h
    have e1 : tkD tag (f :: r) = f.2 := if_pos e
    have e2 : tkR tag (f :: r) = r := if_pos e
    rw [e1, e2, ← e]
theorem tkB_hit (tag : Int) (d : ByteArray) (r : List (Int × ByteArray)) : tkB tag ((tag, d) :: r) = true := by simp [tkB]
theorem tkD_hit (tag : Int) (d : ByteArray) (r : List (Int × ByteArray)) : tkD tag ((tag, d) :: r) = d := if_pos rfl
theorem tkR_hit (tag : Int) (d : ByteArray) (r : List (Int × ByteArray)) : tkR tag ((tag, d) :: r) = r := if_pos rfl
theorem nB_hit (tag : Int) (d : ByteArray) (r : List (Int × ByteArray)) : nB tag ((tag, d) :: r) = isNum d.data.toList := by unfold nB; rw [tkB_hit, tkD_hit, Bool.true_and]
theorem nV_hit (tag : Int) (d : ByteArray) (r : List (Int × ByteArray)) : nV tag ((tag, d) :: r) = vOf d.data.toList := by unfold nV; rw [tkD_hit]
theorem dB_hit (tag : Int) (d : ByteArray) (r : List (Int × ByteArray)) : dB tag ((tag, d) :: r) = decide (d.size = 32) := by unfold dB; rw [tkB_hit, tkD_hit, Bool.true_and]
theorem nB_tk {tag : Int} {fs : List (Int × ByteArray)} (h : nB tag fs = true) : tkB tag fs = true ∧ isNum (tkD tag fs).data.toList = true := by unfold nB at h; simpa using h
theorem dB_tk {tag : Int} {fs : List (Int × ByteArray)} (h : dB tag fs = true) : tkB tag fs = true ∧ (tkD tag fs).size = 32 := by unfold dB at h; simpa using h
theorem nV_val {tag : Int} {fs : List (Int × ByteArray)} (h : nB tag fs = true) : nV tag fs = valO (tkD tag fs).data.toList := by
  unfold nV vOf valO
  rw [if_pos (nB_tk h).2, if_pos (nB_tk h).2]
theorem valO_num {l : List UInt8} (h : 0 ≤ valO l) : isNum l = true := by
  unfold valO at h
  split at h
  · assumption
  · omega
theorem dV_yes {tag : Int} {fs : List (Int × ByteArray)} (h : dB tag fs = true) : dV tag fs = (tkD tag fs).data.toList := if_pos h
theorem readF_none {bs : List UInt8} (h : readE bs ≠ 0) : readF bs = [] := by unfold readF; rw [if_neg h]
theorem partsO_fields {bs : List UInt8} {n : Nat} {l : List ByteArray} (h : partsO bs n = some l) : readE bs = 0 ∧ readF bs = fieldsN l ∧ l.length = n := by
  obtain ⟨h1, _, _⟩ := row_parts h
  unfold partsO at h
  split at h
  · rename_i hh
    have hl : (readF bs).map (·.2) = l := Option.some.inj h
    refine ⟨hh.1, ?_, h1⟩
    unfold fieldsN
    rw [h1, ← hh.2, ← hl, zip_fst_snd]
  · cases h
theorem partsO_of {bs : List UInt8} {l : List ByteArray} (h : readE bs = 0) (hf : readF bs = fieldsN l) : partsO bs l.length = some l := by
  unfold partsO
  rw [hf, if_pos ⟨h, fieldsN_fst l⟩, fieldsN_snd]
/-- What is filled in, one behind the other. -/
def seqH (f0 : List (Int × ByteArray)) : HdT := ⟨nV 1 f0, nV 2 (tkR 1 f0), nV 3 (tkR 2 (tkR 1 f0)), dV 4 (tkR 3 (tkR 2 (tkR 1 f0))), nV 5 (tkR 4 (tkR 3 (tkR 2 (tkR 1 f0))))⟩
def allH (f0 : List (Int × ByteArray)) : Bool := nB 1 f0 && (nB 2 (tkR 1 f0) && (nB 3 (tkR 2 (tkR 1 f0)) && (dB 4 (tkR 3 (tkR 2 (tkR 1 f0))) && (nB 5 (tkR 4 (tkR 3 (tkR 2 (tkR 1 f0)))) && (decide ((tkR 5 (tkR 4 (tkR 3 (tkR 2 (tkR 1 f0))))).length = 0) && rightH (seqH f0))))))
theorem get_seq (bs : List UInt8) : getO bs = if allH (readF bs) = true then some (seqH (readF bs)) else none := by
  by_cases h0 : readE bs = 0
  · by_cases ha : allH (readF bs) = true
    · rw [if_pos ha]
      obtain ⟨f0, hf0⟩ : ∃ f, f = readF bs := ⟨_, rfl⟩
      rw [← hf0] at ha ⊢
      have ha' := ha
      unfold allH at ha
      simp only [Bool.and_eq_true, decide_eq_true_eq] at ha
      obtain ⟨a1, a2, a3, a4, a5, a6, a7⟩ := ha
      have s1 := tk_shape (nB_tk a1).1
      have s2 := tk_shape (nB_tk a2).1
      have s3 := tk_shape (nB_tk a3).1
      have s4 := tk_shape (dB_tk a4).1
      have s5 := tk_shape (nB_tk a5).1
      have s6 := List.eq_nil_of_length_eq_zero a6
      have hh : seqH f0 = headOf (tkD 1 f0) (tkD 2 (tkR 1 f0)) (tkD 3 (tkR 2 (tkR 1 f0))) (tkD 4 (tkR 3 (tkR 2 (tkR 1 f0)))) (tkD 5 (tkR 4 (tkR 3 (tkR 2 (tkR 1 f0))))) := by
        unfold seqH headOf
        rw [nV_val a1, nV_val a2, nV_val a3, nV_val a5, dV_yes a4]
      have hx := (dB_tk a4).2
      obtain ⟨x1, e1⟩ : ∃ x, x = tkD 1 f0 := ⟨_, rfl⟩
      obtain ⟨x2, e2⟩ : ∃ x, x = tkD 2 (tkR 1 f0) := ⟨_, rfl⟩
      obtain ⟨x3, e3⟩ : ∃ x, x = tkD 3 (tkR 2 (tkR 1 f0)) := ⟨_, rfl⟩
      obtain ⟨x4, e4⟩ : ∃ x, x = tkD 4 (tkR 3 (tkR 2 (tkR 1 f0))) := ⟨_, rfl⟩
      obtain ⟨x5, e5⟩ : ∃ x, x = tkD 5 (tkR 4 (tkR 3 (tkR 2 (tkR 1 f0)))) := ⟨_, rfl⟩
      rw [← e1, ← e2, ← e3, ← e4, ← e5] at hh
      rw [← e4] at hx
      have hs : readF bs = fieldsN [x1, x2, x3, x4, x5] := by
        rw [s6, ← e5] at s5
        rw [s5, ← e4] at s4
        rw [s4, ← e3] at s3
        rw [s3, ← e2] at s2
        rw [s2, ← e1] at s1
        rw [← hf0, s1]
        rfl
      have hp : partsO bs 5 = some [x1, x2, x3, x4, x5] := partsO_of h0 hs
      unfold getO
      rw [hp]
      show (if x4.size = 32 ∧ rightH (headOf x1 x2 x3 x4 x5) = true then some (headOf x1 x2 x3 x4 x5) else none) = _
      rw [← hh, if_pos ⟨hx, a7⟩]
    · rw [if_neg ha]
      cases hg : getO bs with
      | none => rfl
      | some h =>
        exfalso
        apply ha
        unfold getO at hg
        split at hg
        · rename_i x1 x2 x3 x4 x5 hp
          split at hg
          · rename_i hh
            have hr := (rightH_iff _).1 hh.2
            have hf := (partsO_fields hp).2.1
            rw [hf]
            unfold headOf at hr
            simp only at hr
            have n1 := valO_num (l := x1.data.toList) (by omega)
            have n2 := valO_num (l := x2.data.toList) (by omega)
            have n3 := valO_num (l := x3.data.toList) (by omega)
            have n5 := valO_num (l := x5.data.toList) (by omega)
            have hq : seqH (fieldsN [x1, x2, x3, x4, x5]) = headOf x1 x2 x3 x4 x5 := by
              show seqH [((1 : Int), x1), (2, x2), (3, x3), (4, x4), (5, x5)] = _
              unfold seqH headOf
              simp only [tkR_hit, nV_hit]
              rw [dV_yes (by rw [dB_hit]; simpa using hh.1), tkD_hit]
              unfold vOf valO
              rw [if_pos n1, if_pos n2, if_pos n3, if_pos n5, if_pos n1, if_pos n2, if_pos n3, if_pos n5]
            show allH [((1 : Int), x1), (2, x2), (3, x3), (4, x4), (5, x5)] = true
            have hq' : seqH [((1 : Int), x1), (2, x2), (3, x3), (4, x4), (5, x5)] = headOf x1 x2 x3 x4 x5 := hq
            unfold allH
            rw [hq']
            simp only [tkR_hit, nB_hit, dB_hit, n1, n2, n3, n5, hh.2, List.length_nil, Bool.true_and, Bool.and_true, decide_true]
            simpa using hh.1
          · cases hg
        · cases hg
  · have hf := readF_none h0
    have hg : getO bs = none := by
      cases hg : partsO bs 5 with
      | none => unfold getO; rw [hg]
      | some l => exact absurd (partsO_fields hg).1 h0
    rw [hg, hf, if_neg]
    intro h
    cases h
/-- What a walk of Get keeps: the answer's variable, the variable that is filled, the reader. -/
structure GtS (w W : World) (g2 g4 g5 lo : Nat) (Z C : Array Value) (T : TypeId) (fs : List (Int × ByteArray)) : Prop where
  below : Below w.heap.size w W
  r2 : W.heap[g2]? = some (.cells Z T (0, 0))
  r4 : W.heap[g4]? = some (.cells C T (0, 0))
  rd : Rd W lo g5 fs
  o2 : w.heap.size ≤ g2
  o4 : g2 < g4
  ol : g4 < lo
  o5 : lo ≤ g5
theorem GtS.went {w W W' : World} {g2 g4 g5 lo : Nat} {Z C C' : Array Value} {T : TypeId} {fs fs' : List (Int × ByteArray)} (h : GtS w W g2 g4 g5 lo Z C T fs) (hr : W'.heap[g4]? = some (.cells C' T (0, 0))) (hd : Rd W' lo g5 fs') (hw : Went g4 g5 W W') : GtS w W' g2 g4 g5 lo Z C' T fs' := by
  have := h.o2
  have := h.o4
  have := h.ol
  have := h.o5
  exact ⟨hw.below _ _ h.below (by omega) (by omega), (hw.other _ (heap_lt h.r2) (by omega) (by omega)).trans h.r2, hr, hd, h.o2, h.o4, h.ol, h.o5⟩
theorem GtS.keep {w W W' : World} {g2 g4 g5 lo : Nat} {Z C : Array Value} {T : TypeId} {fs : List (Int × ByteArray)} (h : GtS w W g2 g4 g5 lo Z C T fs) (hb : Below W.heap.size W W') : GtS w W' g2 g4 g5 lo Z C T fs :=
  ⟨h.below.trans (hb.mono h.below.size), (hb.block _ (heap_lt h.r2)).trans h.r2, (hb.block _ (heap_lt h.r4)).trans h.r4, h.rd.below hb, h.o2, h.o4, h.ol, h.o5⟩
theorem gt_int {w W : World} {g2 g4 g5 lo : Nat} {Z C C' : Array Value} {T : TypeId} {fs fs' : List (Int × ByteArray)} (tag : Int) (off : Nat) (b : Bool) (h : GtS w W g2 g4 g5 lo Z C T fs) (ho : off < C.size) (hC : C' = C.setIfInBounds off (.int .i64 (nV tag fs))) (hb : b = nB tag fs) (hf : fs' = tkR tag fs) :
    Calls Tryd.prog 81 #[.pointer (some ⟨g4, off, none⟩), .int .i64 tag, .func (.func 82) #[.pointer (some ⟨g5, 0, none⟩)] #[]] W fun e w' => e = .returned (.bool b) ∧ GtS w w' g2 g4 g5 lo Z C' T fs' := by
  subst hb hf
  refine (into_int W lo g5 g4 off fs tag h.rd C C' T h.r4 ho h.ol hC).mono ?_
  rintro e w' ⟨rfl, h1, h2, h3⟩
  exact ⟨rfl, h.went h1 h2 h3⟩
theorem gt_dig {w W : World} {g2 g4 g5 lo : Nat} {Z C C' : Array Value} {T : TypeId} {fs fs' : List (Int × ByteArray)} (tag : Int) (off : Nat) (b : Bool) (h : GtS w W g2 g4 g5 lo Z C T fs) (ho : off + 32 ≤ C.size) (hC : C' = (C.toList.take off ++ cellsOf (dV tag fs) ++ C.toList.drop (off + 32)).toArray) (hb : b = dB tag fs) (hf : fs' = tkR tag fs) :
    Calls Tryd.prog 83 #[.pointer (some ⟨g4, off, none⟩), .int .i64 tag, .func (.func 84) #[.pointer (some ⟨g5, 0, none⟩)] #[]] W fun e w' => e = .returned (.bool b) ∧ GtS w w' g2 g4 g5 lo Z C' T fs' := by
  subst hb hf
  refine (into_dig W lo g5 g4 off fs tag h.rd C C' (cellsOf (dV tag fs)).toArray T h.r4 ho h.ol (hidk rfl) (by show _ = _; rw [hC])).mono ?_
  rintro e w' ⟨rfl, h1, h2, h3⟩
  exact ⟨rfl, h.went h1 h2 h3⟩
theorem gt_ended {w W : World} {g2 g4 g5 lo : Nat} {Z C : Array Value} {T : TypeId} {fs : List (Int × ByteArray)} (b : Bool) (h : GtS w W g2 g4 g5 lo Z C T fs) (hb : b = decide (fs.length = 0)) :
    Calls Tryd.prog 85 #[.pointer (some ⟨g5, 0, none⟩)] W fun e w' => e = .returned (.bool b) ∧ GtS w w' g2 g4 g5 lo Z C T fs := by
  refine (ended_any W lo g5 fs h.rd b hb).mono ?_
  rintro e w' ⟨rfl, rfl⟩
  exact ⟨rfl, h⟩
/-! A head's cells, filled in one by one. -/
theorem cells_r (h : HdT) (v : Int) : (hcells h).toArray.setIfInBounds 0 (.int .i64 v) = (hcells ⟨v, h.e, h.s, h.d, h.t⟩).toArray := rfl
theorem cells_e (h : HdT) (v : Int) : (hcells h).toArray.setIfInBounds 1 (.int .i64 v) = (hcells ⟨h.r, v, h.s, h.d, h.t⟩).toArray := rfl
theorem cells_s (h : HdT) (v : Int) : (hcells h).toArray.setIfInBounds 2 (.int .i64 v) = (hcells ⟨h.r, h.e, v, h.d, h.t⟩).toArray := rfl
theorem cells_d (h : HdT) (d : List UInt8) (hd : h.d.length = 32) : ((hcells h).toArray.toList.take 3 ++ cellsOf d ++ (hcells h).toArray.toList.drop (3 + 32)).toArray = (hcells ⟨h.r, h.e, h.s, d, h.t⟩).toArray := by
  unfold hcells
  congr 1
  simp [List.drop_append, cellsOf_length, hd]
theorem cells_t (h : HdT) (v : Int) (hd : h.d.length = 32) : (hcells h).toArray.setIfInBounds 35 (.int .i64 v) = (hcells ⟨h.r, h.e, h.s, h.d, v⟩).toArray := by
  unfold hcells
  rw [List.setIfInBounds_toArray]
  congr 1
  rw [List.set_append_right _ _ (by simp [cellsOf_length, hd])]
  simp [cellsOf_length, hd]
set_option maxHeartbeats 8000000 in
theorem hGet_any (a : Option Addr) (len cap : Nat) (bs : List UInt8) (w : World) (hR : Reads w a len cap bs) (hl : len ≤ 1000000) (R : Array Value) (HR : Hid (R = (hcells (getHO bs)).toArray)) :
    Calls Tryd.prog 101 #[.slice a len cap] w fun e w' => e = .returned (.tuple #[.agg R, .int .i64 (getHE bs)]) ∧ Below w.heap.size w w' := by
  obtain ⟨Z, HZ, HA, HBZ, H36⟩ := noughtsH
  have HSZ : Hid ((Tryd.prog.info? 26).map (·.size) = some Z.size) := by show _ = _; rw [sizeH, H36.out]
  have H1Z : Hid (Z.all (·.oneCell') = true) := by show _ = _; rw [HZ.out]; exact one_cells _
  have hnot : ∀ (x : Bool) (w : World), (Op.unary .not (.bool x)).run Tryd.prog w = .ok (.bool (!x)) w := fun _ _ => rfl
  obtain ⟨f0, hf0⟩ : ∃ f, f = readF bs := ⟨_, rfl⟩
  obtain ⟨f1, hf1⟩ : ∃ f, f = tkR 1 f0 := ⟨_, rfl⟩
  obtain ⟨f2, hf2⟩ : ∃ f, f = tkR 2 f1 := ⟨_, rfl⟩
  obtain ⟨f3, hf3⟩ : ∃ f, f = tkR 3 f2 := ⟨_, rfl⟩
  obtain ⟨f4, hf4⟩ : ∃ f, f = tkR 4 f3 := ⟨_, rfl⟩
  obtain ⟨f5, hf5⟩ : ∃ f, f = tkR 5 f4 := ⟨_, rfl⟩
  obtain ⟨C1, hC1⟩ : ∃ C, C = (hcells ⟨(nV 1 f0), 0, 0, (List.replicate 32 0), 0⟩).toArray := ⟨_, rfl⟩
  obtain ⟨C2, hC2⟩ : ∃ C, C = (hcells ⟨(nV 1 f0), (nV 2 f1), 0, (List.replicate 32 0), 0⟩).toArray := ⟨_, rfl⟩
  obtain ⟨C3, hC3⟩ : ∃ C, C = (hcells ⟨(nV 1 f0), (nV 2 f1), (nV 3 f2), (List.replicate 32 0), 0⟩).toArray := ⟨_, rfl⟩
  obtain ⟨C4, hC4⟩ : ∃ C, C = (hcells ⟨(nV 1 f0), (nV 2 f1), (nV 3 f2), (dV 4 f3), 0⟩).toArray := ⟨_, rfl⟩
  obtain ⟨C5, hC5⟩ : ∃ C, C = (hcells ⟨(nV 1 f0), (nV 2 f1), (nV 3 f2), (dV 4 f3), (nV 5 f4)⟩).toArray := ⟨_, rfl⟩
  obtain ⟨b1, hb1⟩ : ∃ b, b = nB 1 f0 := ⟨_, rfl⟩
  obtain ⟨b2, hb2⟩ : ∃ b, b = nB 2 f1 := ⟨_, rfl⟩
  obtain ⟨b3, hb3⟩ : ∃ b, b = nB 3 f2 := ⟨_, rfl⟩
  obtain ⟨b4, hb4⟩ : ∃ b, b = dB 4 f3 := ⟨_, rfl⟩
  obtain ⟨b5, hb5⟩ : ∃ b, b = nB 5 f4 := ⟨_, rfl⟩
  obtain ⟨b6, hb6⟩ : ∃ b, b = decide (f5.length = 0) := ⟨_, rfl⟩
  obtain ⟨br, hbr⟩ : ∃ b, b = rightH (seqH f0) := ⟨_, rfl⟩
  have hq : seqH f0 = ⟨(nV 1 f0), (nV 2 f1), (nV 3 f2), (dV 4 f3), (nV 5 f4)⟩ := by unfold seqH; rw [hf4, hf3, hf2, hf1]
  have hall : allH f0 = (b1 && (b2 && (b3 && (b4 && (b5 && (b6 && br)))))) := by
    unfold allH
    rw [hb1, hb2, hb3, hb4, hb5, hb6, hbr, hf5, hf4, hf3, hf2, hf1]
  have hget := get_seq bs
  rw [← hf0, hall] at hget
  obtain ⟨K, hKK⟩ : ∃ K, K = getHE bs := ⟨_, rfl⟩
  rw [← hKK]
  have HF : Hid ((b1 && (b2 && (b3 && (b4 && (b5 && (b6 && br)))))) = false → R = Z ∧ K = 70) := fun hh => by
    rw [hh] at hget
    have hget : getO bs = none := hget
    rw [HR.out, HZ.out, hKK]
    unfold getHO getHE
    rw [hget]
    exact ⟨rfl, rfl⟩
  have HT : Hid ((b1 && (b2 && (b3 && (b4 && (b5 && (b6 && br)))))) = true → R = C5 ∧ K = 0) := fun hh => by
    rw [hh] at hget
    have hget : getO bs = some (seqH f0) := hget
    rw [HR.out, hC5, hKK]
    unfold getHO getHE
    rw [hget, hq]
    exact ⟨rfl, rfl⟩
  have O1 : Hid (∀ W, Below w.heap.size w W → Calls Tryd.prog 78 #[.slice a len cap] W fun e w' => ∃ x c, e = .returned (.slice x f0.length c) ∧ Lie w' W.heap.size x c f0 ∧ Below W.heap.size W w') := fun W hb => by rw [hf0]; exact open_any a len cap bs W (hR.below hb) hl
  have I1 : Hid (∀ W g2 g4 g5 lo, GtS w W g2 g4 g5 lo Z Z 26 f0 → Calls Tryd.prog 81 #[.pointer (some ⟨g4, 0, none⟩), .int .i64 1, .func (.func 82) #[.pointer (some ⟨g5, 0, none⟩)] #[]] W fun e w' => e = .returned (.bool b1) ∧ GtS w w' g2 g4 g5 lo Z C1 26 f1) := fun W g2 g4 g5 lo hs => gt_int 1 0 b1 hs (by rw [HZ.out]; show 0 < (hcells _).toArray.size; rw [List.size_toArray, hcells_length _ rfl]; omega) (by rw [HZ.out, hC1]; exact (cells_r zeroH (nV 1 f0)).symm) hb1 hf1
  have I2 : Hid (∀ W g2 g4 g5 lo, GtS w W g2 g4 g5 lo Z C1 26 f1 → Calls Tryd.prog 81 #[.pointer (some ⟨g4, 1, none⟩), .int .i64 2, .func (.func 82) #[.pointer (some ⟨g5, 0, none⟩)] #[]] W fun e w' => e = .returned (.bool b2) ∧ GtS w w' g2 g4 g5 lo Z C2 26 f2) := fun W g2 g4 g5 lo hs => gt_int 2 1 b2 hs (by rw [hC1]; show 1 < (hcells _).toArray.size; rw [List.size_toArray, hcells_length _ rfl]; omega) (by rw [hC1, hC2]; exact (cells_e ⟨(nV 1 f0), 0, 0, (List.replicate 32 0), 0⟩ (nV 2 f1)).symm) hb2 hf2
  have I3 : Hid (∀ W g2 g4 g5 lo, GtS w W g2 g4 g5 lo Z C2 26 f2 → Calls Tryd.prog 81 #[.pointer (some ⟨g4, 2, none⟩), .int .i64 3, .func (.func 82) #[.pointer (some ⟨g5, 0, none⟩)] #[]] W fun e w' => e = .returned (.bool b3) ∧ GtS w w' g2 g4 g5 lo Z C3 26 f3) := fun W g2 g4 g5 lo hs => gt_int 3 2 b3 hs (by rw [hC2]; show 2 < (hcells _).toArray.size; rw [List.size_toArray, hcells_length _ rfl]; omega) (by rw [hC2, hC3]; exact (cells_s ⟨(nV 1 f0), (nV 2 f1), 0, (List.replicate 32 0), 0⟩ (nV 3 f2)).symm) hb3 hf3
  have I4 : Hid (∀ W g2 g4 g5 lo, GtS w W g2 g4 g5 lo Z C3 26 f3 → Calls Tryd.prog 83 #[.pointer (some ⟨g4, 3, none⟩), .int .i64 4, .func (.func 84) #[.pointer (some ⟨g5, 0, none⟩)] #[]] W fun e w' => e = .returned (.bool b4) ∧ GtS w w' g2 g4 g5 lo Z C4 26 f4) := fun W g2 g4 g5 lo hs => gt_dig 4 3 b4 hs (by rw [hC3]; show 3 + 32 ≤ (hcells _).toArray.size; rw [List.size_toArray, hcells_length _ rfl]; omega) (by rw [hC3, hC4]; exact (cells_d ⟨(nV 1 f0), (nV 2 f1), (nV 3 f2), (List.replicate 32 0), 0⟩ (dV 4 f3) rfl).symm) hb4 hf4
  have I5 : Hid (∀ W g2 g4 g5 lo, GtS w W g2 g4 g5 lo Z C4 26 f4 → Calls Tryd.prog 81 #[.pointer (some ⟨g4, 35, none⟩), .int .i64 5, .func (.func 82) #[.pointer (some ⟨g5, 0, none⟩)] #[]] W fun e w' => e = .returned (.bool b5) ∧ GtS w w' g2 g4 g5 lo Z C5 26 f5) := fun W g2 g4 g5 lo hs => gt_int 5 35 b5 hs (by rw [hC4]; show 35 < (hcells _).toArray.size; rw [List.size_toArray, hcells_length _ (dV_length _ _)]; omega) (by rw [hC4, hC5]; exact (cells_t ⟨(nV 1 f0), (nV 2 f1), (nV 3 f2), (dV 4 f3), 0⟩ (nV 5 f4) (dV_length _ _)).symm) hb5 hf5
  have I6 : Hid (∀ W g2 g4 g5 lo, GtS w W g2 g4 g5 lo Z C5 26 f5 → Calls Tryd.prog 85 #[.pointer (some ⟨g5, 0, none⟩)] W fun e w' => e = .returned (.bool b6) ∧ GtS w w' g2 g4 g5 lo Z C5 26 f5) := fun W g2 g4 g5 lo hs => gt_ended b6 hs hb6
  obtain ⟨E, hE⟩ : ∃ E, E = putE (seqH f0) := ⟨_, rfl⟩
  have hd5 : (seqH f0).d.length = 32 := dV_length _ _
  have K1 : Hid (∀ W, Calls Tryd.prog 75 #[.agg C5] W fun e w' => e = .returned (.int .i64 E) ∧ Below W.heap.size W w') := fun W => by rw [hE]; exact hCheck_any (seqH f0) hd5 W C5 (by rw [hC5, hq]; exact hidk rfl)
  have hK : (E = 0 ∧ br = true) ∨ (E = 70 ∧ br = false) := by rw [hE, hbr]; exact putE_ok _
  have hc36 : C5.size = 36 := by rw [hC5, List.size_toArray]; exact hcells_length _ (dV_length 4 f3)
  have HSC : Hid ((Tryd.prog.info? 26).map (·.size) = some C5.size) := by show _ = _; rw [sizeH, hc36]
  have H1C : Hid (C5.all (·.oneCell') = true) := by show _ = _; rw [hC5]; exact one_cells _
  have HZC : Hid (Z.size = C5.size) := by show _ = _; rw [H36.out, hc36]
  clear hf0 hf1 hf2 hf3 hf4 hf5 hC1 hC2 hC3 hC4 hC5 hb1 hb2 hb3 hb4 hb5 hb6 hbr hq hall hget hKK hE hd5 HR H36 hc36
  clear HZ hR
  go_enter Tryd.func101, Tryd.ntmps101
  go_wp2_with (first
    | (show wpList _ _ _ ({ dst := some 2, op := _, type := _, pos := _, after := _, guard := _ } :: _) _ _; refine wpList_new_var rfl 26 rfl Z HA.out ?_; intro g2 w1 HM2; try simp only [Act.put, List.setIfInBounds_toArray, List.set_cons_zero, List.set_cons_succ])
    | (show wpList _ _ _ ({ dst := some 4, op := _, type := _, pos := _, after := _, guard := _ } :: _) _ _; refine wpList_new_var rfl 26 rfl Z HA.out ?_; intro g4 w2 HM4; try simp only [Act.put, List.setIfInBounds_toArray, List.set_cons_zero, List.set_cons_succ])
    | fail)
  have HB2 : Hid (Below w.heap.size w w2) := HM2.out.below.trans (HM4.out.below.mono HM2.out.below.size)
  refine (O1.out w2 HB2.out).mono ?_
  rintro e w3 ⟨x, c, rfl, hl3, hb3⟩
  have HS0 : Hid (GtS w (w3.alloc (.cells #[.slice x f0.length c] 115)) g2 g4 w3.heap.size w2.heap.size Z Z 26 f0) := by
    have hbb := HB2.out.trans (hb3.mono HB2.out.size)
    have q2 : w2.heap[g2]? = some (.cells Z 26 (0, 0)) := (HM4.out.below.block _ (heap_lt HM2.out.row)).trans HM2.out.row
    refine ⟨hbb.alloc hbb.size _, heap_keep ((hb3.block _ (heap_lt q2)).trans q2), heap_keep ((hb3.block _ (heap_lt HM4.out.row)).trans HM4.out.row), rd_new hl3 hb3.size, Nat.le_of_eq HM2.out.new.symm, ?_, heap_lt HM4.out.row, hb3.size⟩
    rw [HM4.out.new]; exact heap_lt HM2.out.row
  obtain ⟨g5, hg5⟩ : ∃ g, g = w3.heap.size := ⟨_, rfl⟩
  obtain ⟨lo, hlo⟩ : ∃ g, g = w2.heap.size := ⟨_, rfl⟩
  rw [← hg5, ← hlo] at HS0
  clear HM2 HM4 HB2 hb3 hl3 O1 hlo
  go_wp2_with fail
  rw [← hg5]
  clear hg5
  refine (I1.out _ _ _ _ _ HS0.out).mono ?_
  rintro e v1 ⟨rfl, hs1⟩
  have HS1 := hidk hs1
  clear hs1 HS0 I1
  cases b1
  · skip
    go_wp2_with (first
      | (show wpList _ _ _ ({ dst := some 42, op := _, type := _, pos := _, after := _, guard := _ } :: _) _ _; refine wpList_build_none rfl 26 rfl Z HBZ.out ?_; try simp only [Act.put, List.setIfInBounds_toArray, List.set_cons_zero, List.set_cons_succ])
      | (refine wpList_set_var rfl 26 (.tmp 2) (.tmp 42) rfl g2 Z rfl rfl 26 Z HS1.out.r2 HSZ.out rfl H1Z.out ?_; intro wz HWz; try simp only [Act.put, List.setIfInBounds_toArray, List.set_cons_zero, List.set_cons_succ])
      | fail)
    refine bodyPost_ret (v := .tuple #[.agg R, .int .i64 K]) ?_ rfl ⟨rfl, HWz.out.below w.heap.size w HS1.out.below HS1.out.o2⟩
    rw [(HF.out rfl).1, (HF.out rfl).2]
    exact results_row_tmp (p := 2) (q := 3) (ty := 26) rfl _ _ g2 26 Z (0, 0) _ rfl HWz.out.row Tryd.underlying26 rfl HSZ.out
  go_wp2_with fail
  refine (I2.out _ _ _ _ _ HS1.out).mono ?_
  rintro e v2 ⟨rfl, hs2⟩
  have HS2 := hidk hs2
  clear hs2 HS1 I2
  cases b2
  · skip
    go_wp2_with (first
      | (show wpList _ _ _ ({ dst := some 42, op := _, type := _, pos := _, after := _, guard := _ } :: _) _ _; refine wpList_build_none rfl 26 rfl Z HBZ.out ?_; try simp only [Act.put, List.setIfInBounds_toArray, List.set_cons_zero, List.set_cons_succ])
      | (refine wpList_set_var rfl 26 (.tmp 2) (.tmp 42) rfl g2 Z rfl rfl 26 Z HS2.out.r2 HSZ.out rfl H1Z.out ?_; intro wz HWz; try simp only [Act.put, List.setIfInBounds_toArray, List.set_cons_zero, List.set_cons_succ])
      | fail)
    refine bodyPost_ret (v := .tuple #[.agg R, .int .i64 K]) ?_ rfl ⟨rfl, HWz.out.below w.heap.size w HS2.out.below HS2.out.o2⟩
    rw [(HF.out rfl).1, (HF.out rfl).2]
    exact results_row_tmp (p := 2) (q := 3) (ty := 26) rfl _ _ g2 26 Z (0, 0) _ rfl HWz.out.row Tryd.underlying26 rfl HSZ.out
  go_wp2_with fail
  refine (I3.out _ _ _ _ _ HS2.out).mono ?_
  rintro e v3 ⟨rfl, hs3⟩
  have HS3 := hidk hs3
  clear hs3 HS2 I3
  cases b3
  · skip
    go_wp2_with (first
      | (show wpList _ _ _ ({ dst := some 42, op := _, type := _, pos := _, after := _, guard := _ } :: _) _ _; refine wpList_build_none rfl 26 rfl Z HBZ.out ?_; try simp only [Act.put, List.setIfInBounds_toArray, List.set_cons_zero, List.set_cons_succ])
      | (refine wpList_set_var rfl 26 (.tmp 2) (.tmp 42) rfl g2 Z rfl rfl 26 Z HS3.out.r2 HSZ.out rfl H1Z.out ?_; intro wz HWz; try simp only [Act.put, List.setIfInBounds_toArray, List.set_cons_zero, List.set_cons_succ])
      | fail)
    refine bodyPost_ret (v := .tuple #[.agg R, .int .i64 K]) ?_ rfl ⟨rfl, HWz.out.below w.heap.size w HS3.out.below HS3.out.o2⟩
    rw [(HF.out rfl).1, (HF.out rfl).2]
    exact results_row_tmp (p := 2) (q := 3) (ty := 26) rfl _ _ g2 26 Z (0, 0) _ rfl HWz.out.row Tryd.underlying26 rfl HSZ.out
  go_wp2_with fail
  refine (I4.out _ _ _ _ _ HS3.out).mono ?_
  rintro e v4 ⟨rfl, hs4⟩
  have HS4 := hidk hs4
  clear hs4 HS3 I4
  cases b4
  · skip
    go_wp2_with (first
      | (show wpList _ _ _ ({ dst := some 42, op := _, type := _, pos := _, after := _, guard := _ } :: _) _ _; refine wpList_build_none rfl 26 rfl Z HBZ.out ?_; try simp only [Act.put, List.setIfInBounds_toArray, List.set_cons_zero, List.set_cons_succ])
      | (refine wpList_set_var rfl 26 (.tmp 2) (.tmp 42) rfl g2 Z rfl rfl 26 Z HS4.out.r2 HSZ.out rfl H1Z.out ?_; intro wz HWz; try simp only [Act.put, List.setIfInBounds_toArray, List.set_cons_zero, List.set_cons_succ])
      | fail)
    refine bodyPost_ret (v := .tuple #[.agg R, .int .i64 K]) ?_ rfl ⟨rfl, HWz.out.below w.heap.size w HS4.out.below HS4.out.o2⟩
    rw [(HF.out rfl).1, (HF.out rfl).2]
    exact results_row_tmp (p := 2) (q := 3) (ty := 26) rfl _ _ g2 26 Z (0, 0) _ rfl HWz.out.row Tryd.underlying26 rfl HSZ.out
  go_wp2_with fail
  refine (I5.out _ _ _ _ _ HS4.out).mono ?_
  rintro e v5 ⟨rfl, hs5⟩
  have HS5 := hidk hs5
  clear hs5 HS4 I5
  cases b5
  · skip
    go_wp2_with (first
      | (show wpList _ _ _ ({ dst := some 42, op := _, type := _, pos := _, after := _, guard := _ } :: _) _ _; refine wpList_build_none rfl 26 rfl Z HBZ.out ?_; try simp only [Act.put, List.setIfInBounds_toArray, List.set_cons_zero, List.set_cons_succ])
      | (refine wpList_set_var rfl 26 (.tmp 2) (.tmp 42) rfl g2 Z rfl rfl 26 Z HS5.out.r2 HSZ.out rfl H1Z.out ?_; intro wz HWz; try simp only [Act.put, List.setIfInBounds_toArray, List.set_cons_zero, List.set_cons_succ])
      | fail)
    refine bodyPost_ret (v := .tuple #[.agg R, .int .i64 K]) ?_ rfl ⟨rfl, HWz.out.below w.heap.size w HS5.out.below HS5.out.o2⟩
    rw [(HF.out rfl).1, (HF.out rfl).2]
    exact results_row_tmp (p := 2) (q := 3) (ty := 26) rfl _ _ g2 26 Z (0, 0) _ rfl HWz.out.row Tryd.underlying26 rfl HSZ.out
  go_wp2_with fail
  refine (I6.out _ _ _ _ _ HS5.out).mono ?_
  rintro e v6 ⟨rfl, hs6⟩
  have HS6 := hidk hs6
  clear hs6 HS5 I6
  cases b6
  · skip
    go_wp2_with (first
      | (show wpList _ _ _ ({ dst := some 42, op := _, type := _, pos := _, after := _, guard := _ } :: _) _ _; refine wpList_build_none rfl 26 rfl Z HBZ.out ?_; try simp only [Act.put, List.setIfInBounds_toArray, List.set_cons_zero, List.set_cons_succ])
      | (refine wpList_set_var rfl 26 (.tmp 2) (.tmp 42) rfl g2 Z rfl rfl 26 Z HS6.out.r2 HSZ.out rfl H1Z.out ?_; intro wz HWz; try simp only [Act.put, List.setIfInBounds_toArray, List.set_cons_zero, List.set_cons_succ])
      | fail)
    refine bodyPost_ret (v := .tuple #[.agg R, .int .i64 K]) ?_ rfl ⟨rfl, HWz.out.below w.heap.size w HS6.out.below HS6.out.o2⟩
    rw [(HF.out rfl).1, (HF.out rfl).2]
    exact results_row_tmp (p := 2) (q := 3) (ty := 26) rfl _ _ g2 26 Z (0, 0) _ rfl HWz.out.row Tryd.underlying26 rfl HSZ.out
  go_wp2_with (first
    | (show wpList _ _ _ ({ dst := some 38, op := _, type := _, pos := _, after := _, guard := _ } :: _) _ _; refine wpList_load_row_w (by rfl) 26 (.tmp 4) rfl g4 rfl 26 C5 (0, 0) _ HS6.out.r4 Tryd.underlying26 rfl HSC.out ?_; try simp only [Act.put, List.setIfInBounds_toArray, List.set_cons_zero, List.set_cons_succ])
    | fail)
  refine (K1.out _).mono ?_
  rintro e vk ⟨rfl, hbk⟩
  have HSk := hidk (HS6.out.keep hbk)
  clear hbk HS6 K1
  rcases hK with ⟨rfl, rfl⟩ | ⟨rfl, rfl⟩
  · go_wp2_with (first
      | (show wpList _ _ _ ({ dst := some 43, op := _, type := _, pos := _, after := _, guard := _ } :: _) _ _; refine wpList_load_row rfl 26 (.tmp 4) rfl g4 rfl 26 C5 (0, 0) _ HSk.out.r4 Tryd.underlying26 rfl HSC.out ?_; try simp only [Act.put, List.setIfInBounds_toArray, List.set_cons_zero, List.set_cons_succ])
      | (refine wpList_set_var rfl 26 (.tmp 2) (.tmp 43) rfl g2 C5 rfl rfl 26 Z HSk.out.r2 HSC.out HZC.out H1C.out ?_; intro wz HWz; try simp only [Act.put, List.setIfInBounds_toArray, List.set_cons_zero, List.set_cons_succ])
      | fail)
    refine bodyPost_ret (v := .tuple #[.agg R, .int .i64 K]) ?_ rfl ⟨rfl, HWz.out.below w.heap.size w HSk.out.below HSk.out.o2⟩
    rw [(HT.out rfl).1, (HT.out rfl).2]
    exact results_row_tmp (p := 2) (q := 3) (ty := 26) rfl _ _ g2 26 C5 (0, 0) _ rfl HWz.out.row Tryd.underlying26 rfl HSC.out
  · skip
    go_wp2_with (first
      | (show wpList _ _ _ ({ dst := some 42, op := _, type := _, pos := _, after := _, guard := _ } :: _) _ _; refine wpList_build_none rfl 26 rfl Z HBZ.out ?_; try simp only [Act.put, List.setIfInBounds_toArray, List.set_cons_zero, List.set_cons_succ])
      | (refine wpList_set_var rfl 26 (.tmp 2) (.tmp 42) rfl g2 Z rfl rfl 26 Z HSk.out.r2 HSZ.out rfl H1Z.out ?_; intro wz HWz; try simp only [Act.put, List.setIfInBounds_toArray, List.set_cons_zero, List.set_cons_succ])
      | fail)
    refine bodyPost_ret (v := .tuple #[.agg R, .int .i64 K]) ?_ rfl ⟨rfl, HWz.out.below w.heap.size w HSk.out.below HSk.out.o2⟩
    rw [(HF.out rfl).1, (HF.out rfl).2]
    exact results_row_tmp (p := 2) (q := 3) (ty := 26) rfl _ _ g2 26 Z (0, 0) _ rfl HWz.out.row Tryd.underlying26 rfl HSZ.out
end Go.Proofs.YtgkfodmccfnaoaaDoor

/- What head.Sign answers. -/
namespace Go.Proofs.YtgkfodmccfnaoaaDoor
open Go.RowKit Sums Nums
set_option linter.unusedVariables false
set_option linter.unusedSimpArgs false
set_option maxRecDepth 100000
theorem scells_sign (h : HdT) (n : Int) (t d : List UInt8) (hd : h.d.length = 32) (ht : t.length = 32) : ((scells ⟨h, n, t⟩).toArray.toList.take 37 ++ cellsOf d ++ (scells ⟨h, n, t⟩).toArray.toList.drop (37 + 32)).toArray = (scells ⟨h, n, d⟩).toArray := by
  unfold scells
  congr 1
  have e : ∀ l : List Value, l.toArray.toList = l := fun _ => rfl
  simp only [e, List.drop_append, List.take_append, List.length_append, hcells_length h hd, cellsOf_length, ht, List.length_singleton]
  rw [List.take_of_length_le (l := hcells h) (by rw [hcells_length h hd]; omega), List.drop_of_length_le (l := hcells h) (by rw [hcells_length h hd]; omega), List.drop_of_length_le (l := cellsOf t) (by rw [cellsOf_length, ht]; omega)]
  simp
end Go.Proofs.YtgkfodmccfnaoaaDoor

/- Heads, signed heads and bytes that came in. -/
namespace Go.Proofs.YtgkfodmccfnaoaaDoor
open Go.RowKit Sums Nums
set_option linter.unusedVariables false
set_option maxRecDepth 100000
variable {H : Type} {enc : TypeId × Value → H} {W : World} {base : Nat} {sp : Nat → Bool} {held : Bool} {fuel : Nat} {x : DataW H × List MemPlace}
theorem open_dig_cells {cs : List Value} (hf : DataW.trod enc Tryd.prog W base sp held fuel 24 cs = some x) : ∃ l : List UInt8, l.length = 32 ∧ cs = cellsOf l := by
  obtain ⟨xs, m, rfl, _, hl, hx, hall⟩ := DataW.trod_array Tryd.underlying24 hf
  have h1 : Tryd.prog.cellsOf 5 = 1 := by kernel_rfl
  have h32 : Tryd.prog.cellsOf 24 = 32 := by kernel_rfl
  rw [h32] at hl
  rw [h1] at hall
  simp only [Nat.mul_one] at hall
  have each : ∀ i, (hi : i < cs.length) → ∃ b : UInt8, cs[i] = .int .u8 b.toNat := by
    intro i hi
    have := hall i (by omega)
    rw [List.getElem?_eq_getElem (by omega)] at this
    obtain ⟨z, hz, _, hwf⟩ := DataW.trod_int Tryd.underlying5 this
    have e : (cs.drop i).take 1 = [cs[i]] := by
      rw [List.drop_eq_getElem_cons hi]; rfl
    rw [e] at hz
    simp at hz
    have hb := bounds_u8 hwf
    refine ⟨UInt8.ofNat z.toNat, ?_⟩
    rw [UInt8.toNat_ofNat', show ((z.toNat % 2 ^ 8 : Nat) : Int) = z by omega]
    simpa using hz
  refine ⟨cs.map fun v => match v with | .int _ n => UInt8.ofNat n.toNat | _ => 0, by simp; simpa using hl, ?_⟩
  unfold cellsOf
  rw [List.map_map]
  apply List.ext_getElem
  · simp
  · intro i h1 h2
    obtain ⟨b, hb⟩ := each i h1
    rw [List.getElem_map]
    rw [hb]
    simp
theorem open_int_cells {cs : List Value} (hf : DataW.trod enc Tryd.prog W base sp held fuel 3 cs = some x) : ∃ z : Int, In64 z ∧ cs = [.int .i64 z] := by
  obtain ⟨z, hz, _, hwf⟩ := DataW.trod_int Tryd.underlying3 hf
  exact ⟨z, bounds_i64 hwf, hz⟩
theorem part_some {xs : List (DataW H × List MemPlace)} {n i : Nat} (hl : xs.length = n) (hi : i < n) : ∃ y, xs[i]? = some y := ⟨xs[i]'(by omega), List.getElem?_eq_getElem (by omega)⟩
theorem open_head_cells {cs : List Value} (hf : DataW.trod enc Tryd.prog W base sp held fuel 26 cs = some x) : ∃ z : HdT, InH z ∧ cs = hcells z := by
  obtain ⟨xs, m, rfl, _, hl, hx, hall⟩ := DataW.trod_struct Tryd.underlying26 hf
  have h1 : Tryd.prog.cellsOf 3 = 1 := by kernel_rfl
  have h32 : Tryd.prog.cellsOf 24 = 32 := by kernel_rfl
  have h36 : Tryd.prog.cellsOf 26 = 36 := by kernel_rfl
  rw [h36] at hl
  obtain ⟨y0, e0⟩ := part_some hx (i := 0) (by decide)
  obtain ⟨y1, e1⟩ := part_some hx (i := 1) (by decide)
  obtain ⟨y2, e2⟩ := part_some hx (i := 2) (by decide)
  obtain ⟨y3, e3⟩ := part_some hx (i := 3) (by decide)
  obtain ⟨y4, e4⟩ := part_some hx (i := 4) (by decide)
  have f0 : DataW.trod enc Tryd.prog W base sp held m 3 ((cs.drop 0).take (Tryd.prog.cellsOf 3)) = some y0 := (hall 0 _ rfl).trans e0
  have f1 : DataW.trod enc Tryd.prog W base sp held m 3 ((cs.drop 1).take (Tryd.prog.cellsOf 3)) = some y1 := (hall 1 _ rfl).trans e1
  have f2 : DataW.trod enc Tryd.prog W base sp held m 3 ((cs.drop 2).take (Tryd.prog.cellsOf 3)) = some y2 := (hall 2 _ rfl).trans e2
  have f3 : DataW.trod enc Tryd.prog W base sp held m 24 ((cs.drop 3).take (Tryd.prog.cellsOf 24)) = some y3 := (hall 3 _ rfl).trans e3
  have f4 : DataW.trod enc Tryd.prog W base sp held m 3 ((cs.drop 35).take (Tryd.prog.cellsOf 3)) = some y4 := (hall 4 _ rfl).trans e4
  rw [h1] at f0 f1 f2 f4
  rw [h32] at f3
  obtain ⟨r, ir, cr⟩ := open_int_cells f0
  obtain ⟨e, ie, ce⟩ := open_int_cells f1
  obtain ⟨s, is, cs'⟩ := open_int_cells f2
  obtain ⟨d, id, cd⟩ := open_dig_cells f3
  obtain ⟨t, it, ct⟩ := open_int_cells f4
  refine ⟨⟨r, e, s, d, t⟩, ⟨id, ir, ie, is, it⟩, ?_⟩
  unfold hcells
  show cs = [Value.int .i64 r, .int .i64 e, .int .i64 s] ++ cellsOf d ++ [.int .i64 t]
  have k0 : cs = (cs.drop 0).take 1 ++ ((cs.drop 1).take 1 ++ ((cs.drop 2).take 1 ++ ((cs.drop 3).take 32 ++ (cs.drop 35).take 1))) := by
    have q4 : (cs.drop 35).take 1 = cs.drop 35 := List.take_of_length_le (by rw [List.length_drop]; omega)
    have q3 : (cs.drop 3).take 32 ++ cs.drop 35 = cs.drop 3 := by
      have := List.take_append_drop 32 (cs.drop 3)
      rw [List.drop_drop] at this
      exact this
    have q2 : (cs.drop 2).take 1 ++ cs.drop 3 = cs.drop 2 := by
      have := List.take_append_drop 1 (cs.drop 2)
      rw [List.drop_drop] at this
      exact this
    have q1 : (cs.drop 1).take 1 ++ cs.drop 2 = cs.drop 1 := by
      have := List.take_append_drop 1 (cs.drop 1)
      rw [List.drop_drop] at this
      exact this
    rw [q4, q3, q2, q1, List.drop_zero, List.take_append_drop]
  rw [cr, ce, cs', cd, ct] at k0
  rw [k0]
  simp
theorem open_signed_cells {cs : List Value} (hf : DataW.trod enc Tryd.prog W base sp held fuel 28 cs = some x) : ∃ z : SgT, InS z ∧ cs = scells z := by
  obtain ⟨xs, m, rfl, _, hl, hx, hall⟩ := DataW.trod_struct Tryd.underlying28 hf
  have h1 : Tryd.prog.cellsOf 3 = 1 := by kernel_rfl
  have h32 : Tryd.prog.cellsOf 24 = 32 := by kernel_rfl
  have h36 : Tryd.prog.cellsOf 26 = 36 := by kernel_rfl
  have h69 : Tryd.prog.cellsOf 28 = 69 := by kernel_rfl
  rw [h69] at hl
  obtain ⟨y0, e0⟩ := part_some hx (i := 0) (by decide)
  obtain ⟨y1, e1⟩ := part_some hx (i := 1) (by decide)
  obtain ⟨y2, e2⟩ := part_some hx (i := 2) (by decide)
  have f0 : DataW.trod enc Tryd.prog W base sp held m 26 ((cs.drop 0).take (Tryd.prog.cellsOf 26)) = some y0 := (hall 0 _ rfl).trans e0
  have f1 : DataW.trod enc Tryd.prog W base sp held m 3 ((cs.drop 36).take (Tryd.prog.cellsOf 3)) = some y1 := (hall 1 _ rfl).trans e1
  have f2 : DataW.trod enc Tryd.prog W base sp held m 24 ((cs.drop 37).take (Tryd.prog.cellsOf 24)) = some y2 := (hall 2 _ rfl).trans e2
  rw [h36] at f0
  rw [h1] at f1
  rw [h32] at f2
  obtain ⟨h, ih, ch⟩ := open_head_cells f0
  obtain ⟨n, inn, cn⟩ := open_int_cells f1
  obtain ⟨g, ig, cg⟩ := open_dig_cells f2
  refine ⟨⟨h, n, g⟩, ⟨ih, inn, ig⟩, ?_⟩
  unfold scells
  show cs = hcells h ++ [Value.int .i64 n] ++ cellsOf g
  have k0 : cs = (cs.drop 0).take 36 ++ ((cs.drop 36).take 1 ++ (cs.drop 37).take 32) := by
    have q3 : (cs.drop 37).take 32 = cs.drop 37 := List.take_of_length_le (by rw [List.length_drop]; omega)
    have q2 : (cs.drop 36).take 1 ++ cs.drop 37 = cs.drop 36 := by
      have := List.take_append_drop 1 (cs.drop 36)
      rw [List.drop_drop] at this
      exact this
    rw [q3, q2, List.drop_zero, List.take_append_drop]
  rw [ch, cn, cg] at k0
  rw [k0]
  simp
end Go.Proofs.YtgkfodmccfnaoaaDoor

/- Claims that came in. -/
namespace Go.Proofs.YtgkfodmccfnaoaaDoor
open Go.RowKit Sums Nums
set_option linter.unusedVariables false
set_option maxRecDepth 100000
variable {H : Type} {enc : TypeId × Value → H} {W : World} {base : Nat} {sp : Nat → Bool} {held : Bool} {fuel : Nat} {x : DataW H × List MemPlace}
theorem open_claim_cells {cs : List Value} (hf : DataW.trod enc Tryd.prog W base sp held fuel 30 cs = some x) : ∃ z : ClT, InC z ∧ cs = ccells z := by
  obtain ⟨xs, m, rfl, _, hl, hx, hall⟩ := DataW.trod_struct Tryd.underlying30 hf
  have h32 : Tryd.prog.cellsOf 24 = 32 := by kernel_rfl
  have h1 : Tryd.prog.cellsOf 3 = 1 := by kernel_rfl
  have hsz : Tryd.prog.cellsOf 30 = 36 := by kernel_rfl
  rw [hsz] at hl
  obtain ⟨y0, e0⟩ := part_some hx (i := 0) (by decide)
  obtain ⟨y1, e1⟩ := part_some hx (i := 1) (by decide)
  obtain ⟨y2, e2⟩ := part_some hx (i := 2) (by decide)
  obtain ⟨y3, e3⟩ := part_some hx (i := 3) (by decide)
  obtain ⟨y4, e4⟩ := part_some hx (i := 4) (by decide)
  have f0 : DataW.trod enc Tryd.prog W base sp held m 3 ((cs.drop 0).take (Tryd.prog.cellsOf 3)) = some y0 := (hall 0 _ rfl).trans e0
  have f1 : DataW.trod enc Tryd.prog W base sp held m 3 ((cs.drop 1).take (Tryd.prog.cellsOf 3)) = some y1 := (hall 1 _ rfl).trans e1
  have f2 : DataW.trod enc Tryd.prog W base sp held m 3 ((cs.drop 2).take (Tryd.prog.cellsOf 3)) = some y2 := (hall 2 _ rfl).trans e2
  have f3 : DataW.trod enc Tryd.prog W base sp held m 3 ((cs.drop 3).take (Tryd.prog.cellsOf 3)) = some y3 := (hall 3 _ rfl).trans e3
  have f4 : DataW.trod enc Tryd.prog W base sp held m 24 ((cs.drop 4).take (Tryd.prog.cellsOf 24)) = some y4 := (hall 4 _ rfl).trans e4
  rw [h1] at f0
  rw [h1] at f1
  rw [h1] at f2
  rw [h1] at f3
  rw [h32] at f4
  obtain ⟨r, ir, cr'⟩ := open_int_cells f0
  obtain ⟨e, ie, ce'⟩ := open_int_cells f1
  obtain ⟨n, in', cn'⟩ := open_int_cells f2
  obtain ⟨s, is, cs'⟩ := open_int_cells f3
  obtain ⟨d, id, cd'⟩ := open_dig_cells f4
  refine ⟨⟨r, e, n, s, d⟩, ⟨id, ir, ie, in', is⟩, ?_⟩
  unfold ccells
  show cs = [Value.int .i64 r, .int .i64 e, .int .i64 n, .int .i64 s] ++ cellsOf d
  have k0 : cs = ((cs.drop 0).take 1 ++ ((cs.drop 1).take 1 ++ ((cs.drop 2).take 1 ++ ((cs.drop 3).take 1 ++ (cs.drop 4).take 32)))) := by
    have q4 : (cs.drop 4).take 32 = cs.drop 4 := List.take_of_length_le (by rw [List.length_drop]; omega)
    have q3 : (cs.drop 3).take 1 ++ cs.drop 4 = cs.drop 3 := by
      have := List.take_append_drop 1 (cs.drop 3)
      rw [List.drop_drop] at this
      exact this
    have q2 : (cs.drop 2).take 1 ++ cs.drop 3 = cs.drop 2 := by
      have := List.take_append_drop 1 (cs.drop 2)
      rw [List.drop_drop] at this
      exact this
    have q1 : (cs.drop 1).take 1 ++ cs.drop 2 = cs.drop 1 := by
      have := List.take_append_drop 1 (cs.drop 1)
      rw [List.drop_drop] at this
      exact this
    rw [q4, q3, q2, q1, List.drop_zero, List.take_append_drop]
  rw [cr', ce', cn', cs', cd'] at k0
  rw [k0]
  all_goals simp
end Go.Proofs.YtgkfodmccfnaoaaDoor

/- Entries and items that came in. -/
namespace Go.Proofs.YtgkfodmccfnaoaaDoor
open Go.RowKit Sums Nums
set_option linter.unusedVariables false
set_option maxRecDepth 100000
variable {H : Type} {enc : TypeId × Value → H} {W : World} {base : Nat} {sp : Nat → Bool} {held : Bool} {fuel : Nat} {x : DataW H × List MemPlace}
theorem open_kind_cells {cs : List Value} (hf : DataW.trod enc Tryd.prog W base sp held fuel 22 cs = some x) : ∃ z : Int, In64 z ∧ cs = [.int .i64 z] := by
  obtain ⟨z, hz, _, hwf⟩ := DataW.trod_int Tryd.underlying22 hf
  exact ⟨z, bounds_i64 hwf, hz⟩
theorem open_str_cells {cs : List Value} (hf : DataW.trod enc Tryd.prog W base sp held fuel 9 cs = some x) : ∃ s : ByteArray, s.size ≤ maxLen ∧ cs = [.string s] := by
  obtain ⟨s, hz, _, hwf⟩ := DataW.trod_string Tryd.underlying9 hf
  exact ⟨s, hwf, hz⟩
theorem open_entry_cells {cs : List Value} (hf : DataW.trod enc Tryd.prog W base sp held fuel 32 cs = some x) : ∃ z : EnT, CmE z ∧ cs = ecells z := by
  obtain ⟨xs, m, rfl, _, hl, hx, hall⟩ := DataW.trod_struct Tryd.underlying32 hf
  have h36 : Tryd.prog.cellsOf 30 = 36 := by kernel_rfl
  have h1 : Tryd.prog.cellsOf 3 = 1 := by kernel_rfl
  have hk : Tryd.prog.cellsOf 22 = 1 := by kernel_rfl
  have h69 : Tryd.prog.cellsOf 28 = 69 := by kernel_rfl
  have h9 : Tryd.prog.cellsOf 9 = 1 := by kernel_rfl
  have hsz : Tryd.prog.cellsOf 32 = 109 := by kernel_rfl
  rw [hsz] at hl
  obtain ⟨y0, e0⟩ := part_some hx (i := 0) (by decide)
  obtain ⟨y1, e1⟩ := part_some hx (i := 1) (by decide)
  obtain ⟨y2, e2⟩ := part_some hx (i := 2) (by decide)
  obtain ⟨y3, e3⟩ := part_some hx (i := 3) (by decide)
  obtain ⟨y4, e4⟩ := part_some hx (i := 4) (by decide)
  obtain ⟨y5, e5⟩ := part_some hx (i := 5) (by decide)
  have f0 : DataW.trod enc Tryd.prog W base sp held m 22 ((cs.drop 0).take (Tryd.prog.cellsOf 22)) = some y0 := (hall 0 _ rfl).trans e0
  have f1 : DataW.trod enc Tryd.prog W base sp held m 3 ((cs.drop 1).take (Tryd.prog.cellsOf 3)) = some y1 := (hall 1 _ rfl).trans e1
  have f2 : DataW.trod enc Tryd.prog W base sp held m 3 ((cs.drop 2).take (Tryd.prog.cellsOf 3)) = some y2 := (hall 2 _ rfl).trans e2
  have f3 : DataW.trod enc Tryd.prog W base sp held m 9 ((cs.drop 3).take (Tryd.prog.cellsOf 9)) = some y3 := (hall 3 _ rfl).trans e3
  have f4 : DataW.trod enc Tryd.prog W base sp held m 28 ((cs.drop 4).take (Tryd.prog.cellsOf 28)) = some y4 := (hall 4 _ rfl).trans e4
  have f5 : DataW.trod enc Tryd.prog W base sp held m 30 ((cs.drop 73).take (Tryd.prog.cellsOf 30)) = some y5 := (hall 5 _ rfl).trans e5
  rw [hk] at f0
  rw [h1] at f1
  rw [h1] at f2
  rw [h9] at f3
  rw [h69] at f4
  rw [h36] at f5
  obtain ⟨k, ik, ck'⟩ := open_kind_cells f0
  obtain ⟨c, ic, cc'⟩ := open_int_cells f1
  obtain ⟨s, is, cs'⟩ := open_int_cells f2
  obtain ⟨t, it, ct'⟩ := open_str_cells f3
  obtain ⟨h, ih, ch'⟩ := open_signed_cells f4
  obtain ⟨m, im, cm'⟩ := open_claim_cells f5
  refine ⟨⟨k, c, s, t, h, m⟩, ⟨ik, ic, is, it, ih, im⟩, ?_⟩
  unfold ecells
  show cs = [Value.int .i64 k, .int .i64 c, .int .i64 s, .string t] ++ scells h ++ ccells m
  have k0 : cs = ((cs.drop 0).take 1 ++ ((cs.drop 1).take 1 ++ ((cs.drop 2).take 1 ++ ((cs.drop 3).take 1 ++ ((cs.drop 4).take 69 ++ (cs.drop 73).take 36))))) := by
    have q5 : (cs.drop 73).take 36 = cs.drop 73 := List.take_of_length_le (by rw [List.length_drop]; omega)
    have q4 : (cs.drop 4).take 69 ++ cs.drop 73 = cs.drop 4 := by
      have := List.take_append_drop 69 (cs.drop 4)
      rw [List.drop_drop] at this
      exact this
    have q3 : (cs.drop 3).take 1 ++ cs.drop 4 = cs.drop 3 := by
      have := List.take_append_drop 1 (cs.drop 3)
      rw [List.drop_drop] at this
      exact this
    have q2 : (cs.drop 2).take 1 ++ cs.drop 3 = cs.drop 2 := by
      have := List.take_append_drop 1 (cs.drop 2)
      rw [List.drop_drop] at this
      exact this
    have q1 : (cs.drop 1).take 1 ++ cs.drop 2 = cs.drop 1 := by
      have := List.take_append_drop 1 (cs.drop 1)
      rw [List.drop_drop] at this
      exact this
    rw [q5, q4, q3, q2, q1, List.drop_zero, List.take_append_drop]
  rw [ck', cc', cs', ct', ch', cm'] at k0
  rw [k0]
  all_goals simp
theorem open_item_cells {cs : List Value} (hf : DataW.trod enc Tryd.prog W base sp held fuel 43 cs = some x) : ∃ z : ItT, CmI z ∧ cs = icells z := by
  obtain ⟨xs, m, rfl, _, hl, hx, hall⟩ := DataW.trod_struct Tryd.underlying43 hf
  have h109 : Tryd.prog.cellsOf 32 = 109 := by kernel_rfl
  have h1 : Tryd.prog.cellsOf 3 = 1 := by kernel_rfl
  have hsz : Tryd.prog.cellsOf 43 = 110 := by kernel_rfl
  rw [hsz] at hl
  obtain ⟨y0, e0⟩ := part_some hx (i := 0) (by decide)
  obtain ⟨y1, e1⟩ := part_some hx (i := 1) (by decide)
  have f0 : DataW.trod enc Tryd.prog W base sp held m 3 ((cs.drop 0).take (Tryd.prog.cellsOf 3)) = some y0 := (hall 0 _ rfl).trans e0
  have f1 : DataW.trod enc Tryd.prog W base sp held m 32 ((cs.drop 1).take (Tryd.prog.cellsOf 32)) = some y1 := (hall 1 _ rfl).trans e1
  rw [h1] at f0
  rw [h109] at f1
  obtain ⟨p, ip, cp'⟩ := open_int_cells f0
  obtain ⟨e, ie, ce'⟩ := open_entry_cells f1
  refine ⟨⟨p, e⟩, ⟨ip, ie⟩, ?_⟩
  unfold icells
  show cs = [Value.int .i64 p] ++ ecells e
  have k0 : cs = ((cs.drop 0).take 1 ++ (cs.drop 1).take 109) := by
    have q1 : (cs.drop 1).take 109 = cs.drop 1 := List.take_of_length_le (by rw [List.length_drop]; omega)
    rw [q1, List.drop_zero, List.take_append_drop]
  rw [cp', ce'] at k0
  rw [k0]
  all_goals simp
theorem open_item {base' : Nat} {r : Reach} {v : Value} {d : DataW H} {p : List MemPlace}
    (hv : Value.okWide Tryd.prog W r base' 43 v) (h : DataW.Trod enc Tryd.prog W base sp held 43 v d p) : ∃ z : ItT, CmI z ∧ v = itemV z := by
  obtain ⟨cs, rfl⟩ : ∃ cs, v = .agg cs := by
    simp only [Value.okWide, Tryd.underlying43] at hv
    obtain ⟨cs, h1, _⟩ := hv
    exact ⟨cs, h1⟩
  obtain ⟨fuel, hf⟩ := h
  obtain ⟨z, iz, hz⟩ := open_item_cells hf
  refine ⟨z, iz, ?_⟩
  unfold itemV
  rw [← hz]
  rfl
end Go.Proofs.YtgkfodmccfnaoaaDoor
