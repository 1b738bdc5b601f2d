/- Texts of our own that the row of PathMakes leans on, part 20. -/
import Derived.Test.YtkmedlfbkddmoaaGreatDoorPathMakesJ0
import Derived.Test.YtkmedlfbkddmoaaGreatDoorPathMakesJ10
import Derived.Test.YtkmedlfbkddmoaaGreatDoorPathMakesJ18
import Derived.Test.YtkmedlfbkddmoaaGreatDoorPathMakesJ19
/- What the document's Digest and Row answer. -/
namespace Go.Proofs.YtkmedlfbkddmoaaGreatDoor
open Go.RowKit Sums Nums
set_option linter.unusedVariables false
set_option linter.unusedSimpArgs false
set_option maxRecDepth 100000
theorem tagsN_succ (n : Nat) : tagsN (n + 1) = tagsN n ++ [(n : Int) + 1] := by unfold tagsN; rw [List.range_succ, List.map_append]; rfl
theorem fieldsN_snoc (l : List ByteArray) (x : ByteArray) : fieldsN (l ++ [x]) = fieldsN l ++ [((l.length : Int) + 1, x)] := by
  unfold fieldsN
  rw [List.length_append, List.length_singleton, tagsN_succ, List.zip_append (by rw [tagsN_length])]
  rfl
theorem row_next (l : List ByteArray) (k : Nat) (hk : k < l.length) : rowB (fieldsN (l.take (k + 1))) = rowB (fieldsN (l.take k)) ++ fieldBytesI ((k : Int) + 1) (l[k]).data.toList := by
  rw [List.take_add_one, List.getElem?_eq_getElem hk]
  simp only [Option.toList_some]
  rw [fieldsN_snoc, rowB_append, List.length_take, Nat.min_eq_left (by omega)]
  simp [rowB]
theorem rowB_small : ∀ (fs : List (Int × ByteArray)), (∀ f ∈ fs, f.2.size ≤ 65536) → (rowB fs).length ≤ 65540 * fs.length
  | [], _ => by simp [rowB]
  | f :: r, h => by
    have h1 := h f (by simp)
    have h2 := rowB_small r (fun x hx => h x (List.mem_cons_of_mem _ hx))
    show (fieldBytesI f.1 f.2.data.toList ++ rowB r).length ≤ _
    rw [List.length_append, fieldBytesI_length]
    have : f.2.data.toList.length = f.2.size := rfl
    simp only [List.length_cons]
    omega
theorem fieldsN_mem {l : List ByteArray} {f : Int × ByteArray} (h : f ∈ fieldsN l) : f.2 ∈ l := by
  unfold fieldsN at h
  exact (List.of_mem_zip h).2
theorem fieldsN_length (l : List ByteArray) : (fieldsN l).length = l.length := by
  unfold fieldsN
  rw [List.length_zip, tagsN_length, Nat.min_self]
set_option maxHeartbeats 4000000 in
theorem refRow_any (a : Option Addr) (len cap : Nat) (l : List ByteArray) (w : World) (hT : Texts w a len l) (hl : len ≤ 200) (hs : ∀ s ∈ l, s.size ≤ 65536) :
    Calls Tryz.prog 108 #[.slice a len cap] w fun e w' => ∃ v, e = .returned v ∧ w'.ownsRow w.heap.size 5 1 v (rowB (fieldsN l)).length (cellsOf (rowB (fieldsN l))) ∧ Below w.heap.size w w' := by
  have hlen : l.length = len := hT.1
  have HT := hidk hT
  have HS := hidk hs
  have HN0 : Hid (w.ownsRow w.heap.size 5 1 (.slice none 0 0) (rowB (fieldsN (l.take 0))).length (cellsOf (rowB (fieldsN (l.take 0))))) := World.ownsRow_nil _ _ _ _
  clear hT hs
  go_enter Tryz.func108, Tryz.ntmps108
  go_wp2
  go_loopw [3, 4] (fun v i wr => ∃ k : Nat, k ≤ len ∧ i = .int .i64 k ∧ Hid (wr.ownsRow w.heap.size 5 1 v (rowB (fieldsN (l.take k))).length (cellsOf (rowB (fieldsN (l.take k)))) ∧ Below w.heap.size w wr)) (fun _ i _ => len - (intOf i).toNat)
  case atStart => exact ⟨0, by omega, rfl, HN0.out, Below.refl _ _⟩
  case round =>
    clear HN0
    obtain ⟨k, hk, rfl, HO⟩ := hrel
    by_cases hlt : k < len
    · have hkl : k < l.length := by omega
      obtain ⟨p, HP⟩ : ∃ p, Hid (p = l[k]) := ⟨l[k], hidk rfl⟩
      obtain ⟨b, off, rfl, hcell⟩ : ∃ b off, a = some ⟨b, off, none⟩ ∧ wr.cell? ⟨b, off + k, none⟩ = some (.string p) := by
        rcases (HT.out.keep HO.out.2).2 with h0 | ⟨b, off, e, _, hc⟩
        · omega
        · exact ⟨b, off, e, by rw [hc k hkl, HP.out]⟩
      have hps : p.size ≤ 65536 := by rw [HP.out]; exact HS.out _ (List.getElem_mem hkl)
      have hlt' : (k : Int) < (len : Int) := by omega
      have BY : Hid (Calls Tryz.prog 122 #[.int .i64 ((k : Int) + 1), .string p] wr fun e w' => ∃ v', e = .returned v' ∧ w'.ownsRow wr.heap.size 5 1 v' (fieldBytesI ((k : Int) + 1) p.data.toList).length (cellsOf (fieldBytesI ((k : Int) + 1) p.data.toList)) ∧ Below wr.heap.size wr w') := by
        have := bytes_any (k + 1) p wr hps (by omega)
        rw [show (((k + 1 : Nat)) : Int) = (k : Int) + 1 by omega] at this
        rw [fieldBytesI_nat _ _ (by omega), show ((k : Int) + 1).toNat = k + 1 by omega]
        exact this
      have hbnd : (rowB (fieldsN (l.take k))).length ≤ 65540 * 200 := by
        have h1 := rowB_small (fieldsN (l.take k)) (fun f hf => HS.out _ (List.mem_of_mem_take (fieldsN_mem hf)))
        rw [fieldsN_length, List.length_take] at h1
        have : 65540 * min k l.length ≤ 65540 * 200 := Nat.mul_le_mul_left _ (by omega)
        omega
      have hnx := row_next l k hkl
      rw [← HP.out] at hnx
      have HNX := hidk hnx
      have wrk := wrap_int ((k : Int) + 1) (by omega) (by omega)
      clear hnx
      go_wp2_with fail
      refine BY.out.mono ?_
      rintro e w1 ⟨v1, rfl, ho1, hb1⟩
      obtain ⟨a1, c1, rfl, hr1⟩ := reads_own ho1
      have hfl : (fieldBytesI ((k : Int) + 1) p.data.toList).length ≤ 65540 := by rw [fieldBytesI_length]; have : p.data.toList.length = p.size := rfl; omega
      have hoK : w1.ownsRow w.heap.size 5 1 u3 (rowB (fieldsN (l.take k))).length (cellsOf (rowB (fieldsN (l.take k)))) := HO.out.1.kept (row := none) ⟨hb1.os, hb1.tape, hb1.output, hb1.size, fun j hj _ => hb1.block j hj⟩ (by cases hv : u3.ownBlock <;> simp)
      have hBw1 : Below w.heap.size w w1 := HO.out.2.trans (hb1.mono HO.out.2.size)
      obtain ⟨v2, w2, hrun, ho2, hg2⟩ := run_append_grows hr1 w.heap.size _ 69 u3 _ hoK hBw1.size (by omega)
      have HO2 : Hid (w2.ownsRow w.heap.size 5 1 v2 (rowB (fieldsN (l.take (k + 1)))).length (cellsOf (rowB (fieldsN (l.take (k + 1))))) ∧ Below w.heap.size w w2) := by
        refine ⟨?_, hBw1.grown hg2 hBw1.size (fun q e => (hoK.lt q e).1)⟩
        rw [HNX.out, List.length_append]
        exact ho2
      have HRUN := hidk hrun
      clear hrun ho2 hg2 hoK hBw1 ho1 hr1 hb1 HO BY HNX
      go_wp2_with (first
        | (show aD 21 _ _ _ _ _ _ _ _ _ _ _; refine wpList_append_run rfl (.tmp 19) (.tmp 20) 69 69 rfl _ _ _ w2 rfl rfl HRUN.out ?_; try simp only [Act.put, pS1, pS2, pS3])
        | fail)
      go_roundw
      case rel => exact ⟨k + 1, by omega, by go_num, HO2⟩
      case measure => simp [intOf]; omega
    · obtain rfl : k = len := by omega
      have HO' := HO.out
      rw [List.take_of_length_le (by omega)] at HO'
      have HF := hidk HO'
      clear HO' HO
      go_wp2
      go_ret
      exact ⟨_, rfl, HF.out⟩
theorem cell_keep {W W' : World} {p : Addr} {v : Value} (hb : Below W.heap.size W W') (h : W.cell? p = some v) : W'.cell? p = some v := by
  rw [hb.cell (World.block_lt_of_cell? _ _ h)]; exact h
theorem HRow.keep {W W' : World} {g o : Nat} {h : HdT} (hr : HRow W g o h) (hb : Below W.heap.size W W') : HRow W' g o h :=
  ⟨cell_keep hb hr.r, cell_keep hb hr.e, cell_keep hb hr.s, range_keep hb hr.d, cell_keep hb hr.t⟩
theorem sizeH : (Tryz.prog.info? 26).map (·.size) = some 36 := by kernel_rfl
theorem sizeS : (Tryz.prog.info? 28).map (·.size) = some 69 := by kernel_rfl
theorem head_row (h : HdT) (hd : h.d.length = 32) : ∃ C : Array Value, Hid (C = (hcells h).toArray) ∧ Hid ((Tryz.prog.info? 26).map (·.size) = some C.size) ∧ Hid (C.size = 36) := by
  refine ⟨(hcells h).toArray, hidk rfl, ?_, ?_⟩
  · show _ = _
    rw [sizeH]; simp [hcells_length h hd]
  · show _ = _
    simp [hcells_length h hd]
set_option maxHeartbeats 8000000 in
theorem refHB_any (h : HdT) (hd : h.d.length = 32) (w : World) (C : Array Value) (HC : Hid (C = (hcells h).toArray)) :
    Calls Tryz.prog 106 #[.agg C] w fun e w' => ∃ v, e = .returned v ∧ w'.ownsRow w.heap.size 5 1 v (headB h).length (cellsOf (headB h)) ∧ Below w.heap.size w w' := by
  obtain ⟨r, Hr⟩ : ∃ r, Hid (r = h.r) := ⟨h.r, hidk rfl⟩
  obtain ⟨e, He⟩ : ∃ r, Hid (r = h.e) := ⟨h.e, hidk rfl⟩
  obtain ⟨s, Hs⟩ : ∃ r, Hid (r = h.s) := ⟨h.s, hidk rfl⟩
  obtain ⟨t, Ht⟩ : ∃ r, Hid (r = h.t) := ⟨h.t, hidk rfl⟩
  obtain ⟨n1, Hn1⟩ : ∃ s : ByteArray, Hid (s = nOf r) := ⟨nOf r, hidk rfl⟩
  obtain ⟨n2, Hn2⟩ : ∃ s : ByteArray, Hid (s = nOf e) := ⟨nOf e, hidk rfl⟩
  obtain ⟨n3, Hn3⟩ : ∃ x : ByteArray, Hid (x = nOf s) := ⟨nOf s, hidk rfl⟩
  obtain ⟨n5, Hn5⟩ : ∃ s : ByteArray, Hid (s = nOf t) := ⟨nOf t, hidk rfl⟩
  obtain ⟨x4, HX⟩ : ∃ x : ByteArray, Hid (x = ⟨h.d.toArray⟩) := ⟨⟨h.d.toArray⟩, hidk rfl⟩
  obtain ⟨D, HD, HSD, H1D, H32D⟩ := dig_row' h.d hd
  have N1 : Hid (∀ W, Calls Tryz.prog 109 #[.int .i64 r] W fun e w' => e = .returned (.string n1) ∧ Below W.heap.size W w') := fun W => by rw [Hn1.out]; exact refNum_any r W
  have N2 : Hid (∀ W, Calls Tryz.prog 109 #[.int .i64 e] W fun e w' => e = .returned (.string n2) ∧ Below W.heap.size W w') := fun W => by rw [Hn2.out]; exact refNum_any e W
  have N3 : Hid (∀ W, Calls Tryz.prog 109 #[.int .i64 s] W fun e w' => e = .returned (.string n3) ∧ Below W.heap.size W w') := fun W => by rw [Hn3.out]; exact refNum_any s W
  have N5 : Hid (∀ W, Calls Tryz.prog 109 #[.int .i64 t] W fun e w' => e = .returned (.string n5) ∧ Below W.heap.size W w') := fun W => by rw [Hn5.out]; exact refNum_any t W
  have X4 : Hid (∀ W, Calls Tryz.prog 92 #[.agg D] W fun e w' => e = .returned (.string x4) ∧ Below W.heap.size W w') := fun W => by
    have := refText_any h.d hd W x4 HX D.toList (by show _ = _; rw [HD.out])
    simpa using this
  have hL5 : hL h = [n1, n2, n3, x4, n5] := by rw [Hn1.out, Hn2.out, Hn3.out, Hn5.out, HX.out, Hr.out, He.out, Hs.out, Ht.out]; rfl
  have RW : Hid (∀ W, Calls Tryz.prog 108 #[.slice (some ⟨W.heap.size, 0, none⟩) 5 5] (W.alloc (.cells #[.string n1, .string n2, .string n3, .string x4, .string n5] 9)) fun e w' => ∃ v, e = .returned v ∧ w'.ownsRow W.heap.size 5 1 v (headB h).length (cellsOf (headB h)) ∧ Below W.heap.size W w') := fun W => by
    have h1 : ∀ y ∈ [n1, n2, n3, x4, n5], y.size ≤ 65536 := fun y hy => by
      rw [← hL5] at hy
      unfold hL at hy
      simp only [List.mem_cons, List.not_mem_nil, or_false] at hy
      rcases hy with rfl | rfl | rfl | rfl | rfl
      · exact Nat.le_trans (nOf_size _) (by omega)
      · exact Nat.le_trans (nOf_size _) (by omega)
      · exact Nat.le_trans (nOf_size _) (by omega)
      · rw [bA_size]; omega
      · exact Nat.le_trans (nOf_size _) (by omega)
    refine (refRow_any (some ⟨W.heap.size, 0, none⟩) 5 5 [n1, n2, n3, x4, n5] (W.alloc (.cells #[.string n1, .string n2, .string n3, .string x4, .string n5] 9)) (texts_new W [n1, n2, n3, x4, n5] 9) (by omega) h1).mono ?_
    rintro e w' ⟨v, he, ho, hb⟩
    rw [← hL5] at ho
    exact ⟨v, he, own_lower ho (by simp), ((Below.refl _ _).alloc (Nat.le_refl _) _).trans (hb.mono (by simp))⟩
  have HR := hidk (hrow_new w h hd C HC 26)
  have HB : Hid (Below w.heap.size w (w.alloc (.cells C 26))) := (Below.refl _ _).alloc (Nat.le_refl _) _
  have HDL : Hid (D.toList = cellsOf h.d) := by show _ = _; rw [HD.out]
  clear HC HX hL5 HD Hn1 Hn2 Hn3 Hn5
  go_enter Tryz.func106, Tryz.ntmps106
  go_wp2
  refine wp_region_held_drew (S := (fun W => HRow W w.heap.size 0 h)) (by kernel_rfl) (show HRow (w.alloc (.cells C 26)).drew w.heap.size 0 h from HR.out.keep (Below.refl _ _).drew) (fun hHeld => ?_)
  refine zX 0 (.pointer (some ⟨w.heap.size, 0, none⟩)) rfl hHeld ?_
  try simp only [Act.put, pS1, pS2, pS3]
  refine zW 1 (.int .i64 r) rfl (Or.inl ⟨by rfl, by intro W hSw; have h1 := hSw.r; rw [← Hr.out] at h1; go_simp⟩) hHeld ?_
  try simp only [Act.put, pS1, pS2, pS3]
  refine zX 3 (.pointer (some ⟨w.heap.size, 1, none⟩)) rfl hHeld ?_
  try simp only [Act.put, pS1, pS2, pS3]
  refine zW 4 (.int .i64 e) rfl (Or.inl ⟨by rfl, by intro W hSw; have h1 := hSw.e; rw [← He.out, Nat.zero_add] at h1; go_simp⟩) hHeld ?_
  try simp only [Act.put, pS1, pS2, pS3]
  refine zX 6 (.pointer (some ⟨w.heap.size, 2, none⟩)) rfl hHeld ?_
  try simp only [Act.put, pS1, pS2, pS3]
  refine zW 7 (.int .i64 s) rfl (Or.inl ⟨by rfl, by intro W hSw; have h1 := hSw.s; rw [← Hs.out, Nat.zero_add] at h1; go_simp⟩) hHeld ?_
  try simp only [Act.put, pS1, pS2, pS3]
  refine zX 9 (.pointer (some ⟨w.heap.size, 3, none⟩)) rfl hHeld ?_
  try simp only [Act.put, pS1, pS2, pS3]
  refine zW 10 (.agg D) rfl (yieldsIf_mid (by rfl) 24 (.tmp 12) rfl w.heap.size 3 rfl D _ (fun _ h => by rw [HDL.out]; have := h.d; rwa [Nat.zero_add] at this) Tryz.underlying24 rfl HSD.out) hHeld ?_
  try simp only [Act.put, pS1, pS2, pS3]
  refine zX 12 (.pointer (some ⟨w.heap.size, 35, none⟩)) rfl hHeld ?_
  try simp only [Act.put, pS1, pS2, pS3]
  refine zW 13 (.int .i64 t) rfl (Or.inl ⟨by rfl, by intro W hSw; have h1 := hSw.t; rw [← Ht.out, Nat.zero_add] at h1; go_simp⟩) hHeld ?_
  try simp only [Act.put, pS1, pS2, pS3]
  refine wpAnyH_ready (rs := [2]) (by kernel_rfl) (by simp) ?_
  refine (AllReadyH.cons (o := { dst := some 5, op := .call { callee := .value (.func 109), args := #[.tmp 4], argTypes := #[3] }, type := 9, pos := "ref.go:74", after := #[zD 1], guard := none }) rfl (fun K hK => ?_) AllReadyH.nil)
  go_simp
  refine (N1.out _).mono ?_
  rintro e w2 ⟨rfl, hb1⟩
  have HB1 := hidk (HB.out.drew.trans (hb1.mono HB.out.size))
  go_wp2_with fail
  refine hK.out _ _ (hHeld.keep hb1) (fun hHeld => ?_)
  clear hK K
  try simp only [Act.put, pS1, pS2, pS3]
  refine wpAnyH_ready (rs := [5]) (by kernel_rfl) (by simp) ?_
  refine (AllReadyH.cons (o := { dst := some 8, op := .call { callee := .value (.func 109), args := #[.tmp 7], argTypes := #[3] }, type := 9, pos := "ref.go:74", after := #[zD 4, zC 2], guard := none }) rfl (fun K hK => ?_) AllReadyH.nil)
  go_simp
  refine (N2.out _).mono ?_
  rintro e w5 ⟨rfl, hb2⟩
  have HB2 := hidk (HB1.out.trans (hb2.mono HB1.out.size))
  go_wp2_with fail
  refine hK.out _ _ (hHeld.keep hb2) (fun hHeld => ?_)
  clear hK K
  try simp only [Act.put, pS1, pS2, pS3]
  refine wpAnyH_ready (rs := [8]) (by kernel_rfl) (by simp) ?_
  refine (AllReadyH.cons (o := { dst := some 11, op := .call { callee := .value (.func 109), args := #[.tmp 10], argTypes := #[3] }, type := 9, pos := "ref.go:74", after := #[zD 7, zC 5], guard := none }) rfl (fun K hK => ?_) AllReadyH.nil)
  go_simp
  refine (N3.out _).mono ?_
  rintro e w8 ⟨rfl, hb3⟩
  have HB3 := hidk (HB2.out.trans (hb3.mono HB2.out.size))
  go_wp2_with fail
  refine hK.out _ _ (hHeld.keep hb3) (fun hHeld => ?_)
  clear hK K
  try simp only [Act.put, pS1, pS2, pS3]
  refine wpAnyH_ready (rs := [11]) (by kernel_rfl) (by simp) ?_
  refine (AllReadyH.cons (o := { dst := some 14, op := .call { callee := .value (.func 92), args := #[.tmp 13], argTypes := #[24] }, type := 9, pos := "ref.go:74", after := #[zD 10, zC 8], guard := none }) rfl (fun K hK => ?_) AllReadyH.nil)
  go_simp
  refine (X4.out _).mono ?_
  rintro e w11 ⟨rfl, hb4⟩
  have HB4 := hidk (HB3.out.trans (hb4.mono HB3.out.size))
  go_wp2_with fail
  refine hK.out _ _ (hHeld.keep hb4) (fun hHeld => ?_)
  clear hK K
  try simp only [Act.put, pS1, pS2, pS3]
  refine wpAnyH_ready (rs := [14]) (by kernel_rfl) (by simp) ?_
  refine (AllReadyH.cons (o := { dst := some 17, op := .call { callee := .value (.func 109), args := #[.tmp 16], argTypes := #[3] }, type := 9, pos := "ref.go:74", after := #[zD 13, zC 11], guard := none }) rfl (fun K hK => ?_) AllReadyH.nil)
  go_simp
  refine (N5.out _).mono ?_
  rintro e w14 ⟨rfl, hb5⟩
  have HB5 := hidk (HB4.out.trans (hb5.mono HB4.out.size))
  go_wp2_with fail
  refine hK.out _ _ (hHeld.keep hb5) (fun hHeld => ?_)
  clear hK K
  try simp only [Act.put, pS1, pS2, pS3]
  refine wpAnyH_ready (rs := [15]) (by kernel_rfl) (by simp) ?_
  refine (AllReadyH.cons (o := { dst := some 18, op := .buildSlice 153 5 #[(0, .tmp 5), (1, .tmp 8), (2, .tmp 11), (3, .tmp 14), (4, .tmp 17)], type := 153, pos := "ref.go:74", after := #[zD 2, zD 5, zD 8, zD 11, zD 14], guard := none }) rfl (fun K hK => ?_) AllReadyH.nil)
  have HR14 := hidk hHeld
  go_simp
  refine hK.out _ _ (hHeld.keep ((Below.refl _ _).alloc (Nat.le_refl _) _)) (fun hHeld => ?_)
  clear hK K
  try simp only [Act.put, pS1, pS2, pS3]
  refine wpAnyH_ready (rs := [16]) (by kernel_rfl) (by simp) ?_
  refine (AllReadyH.cons (o := { dst := some 19, op := .call { callee := .value (.func 108), args := #[.tmp 18], argTypes := #[153] }, type := 69, pos := "ref.go:74", after := #[zD 15, zC 14], guard := none }) rfl (fun K hK => ?_) AllReadyH.nil)
  go_simp
  refine (RW.out _).mono ?_
  rintro e w16 ⟨v, rfl, ho, hb6⟩
  have HOWN := hidk ho
  have HBF := hidk (HB5.out.trans (hb6.mono HB5.out.size))
  go_wp2_with fail
  refine hK.out _ _ (HR14.out.keep hb6) (fun hHeld => ?_)
  clear hK K
  try simp only [Act.put, pS1, pS2, pS3]
  refine zX 17 (v) rfl hHeld ?_
  try simp only [Act.put, pS1, pS2, pS3]
  refine wpAnyH_done (by kernel_rfl) ?_ _
  go_wp2
  go_ret
  exact ⟨_, rfl, own_lower HOWN.out HB5.out.size, HBF.out⟩
structure SRow (W : World) (g o : Nat) (s : SgT) : Prop where
  h : W.rangeAt g o (hcells s.h)
  n : W.cell? ⟨g, o + 36, none⟩ = some (.int .i64 s.n)
  g : W.rangeAt g (o + 37) (cellsOf s.g)
theorem SRow.keep {W W' : World} {g o : Nat} {s : SgT} (hr : SRow W g o s) (hb : Below W.heap.size W W') : SRow W' g o s := ⟨range_keep hb hr.h, cell_keep hb hr.n, range_keep hb hr.g⟩
theorem srow_of {W : World} {g o : Nat} {s : SgT} (hd : s.h.d.length = 32) (hr : W.rangeAt g o (scells s)) : SRow W g o s := by
  have hl := hcells_length s.h hd
  refine ⟨?_, ?_, ?_⟩
  · intro j v hj
    have hlt := (List.getElem?_eq_some_iff.1 hj).1
    exact hr j v (by
      unfold scells
      rw [List.append_assoc, List.getElem?_append_left hlt]; exact hj)
  · exact hr 36 (.int .i64 s.n) (by
      unfold scells
      rw [List.append_assoc, List.getElem?_append_right (by omega), hl]
      rfl)
  · intro j v hj
    have hlt := (List.getElem?_eq_some_iff.1 hj).1
    have := hr (37 + j) v (by
      unfold scells
      rw [List.getElem?_append_right (by rw [List.length_append, hl, List.length_singleton]; omega), List.length_append, hl, List.length_singleton, show 37 + j - (36 + 1) = j by omega]
      exact hj)
    rw [Nat.add_assoc]; exact this
theorem srow_new (w : World) (s : SgT) (hd : s.h.d.length = 32) (C : Array Value) (HC : Hid (C = (scells s).toArray)) (t : TypeId) : SRow (w.alloc (.cells C t)) w.heap.size 0 s := by
  refine srow_of hd ?_
  intro j v hj
  rw [Nat.zero_add, cell_of_row _ _ j _ t (0, 0) (heap_alloc_new w _), HC.out]
  simpa using hj
set_option maxHeartbeats 2000000 in
theorem refMay_any (s : SgT) (hd : s.h.d.length = 32) (w : World) (C : Array Value) (HC : Hid (C = (scells s).toArray)) :
    Calls Tryz.prog 21 #[.agg C] w fun e w' => e = .returned (.bool (mayS s)) ∧ Below w.heap.size w w' := by
  have HR := hidk (srow_new w s hd C HC 28)
  have HB : Hid (Below w.heap.size w (w.alloc (.cells C 28))) := (Below.refl _ _).alloc (Nat.le_refl _) _
  obtain ⟨HCs, HHC, HSH, H36⟩ := head_row s.h hd
  have HRH : Hid ((w.alloc (.cells C 28)).rangeAt w.heap.size 0 HCs.toList) := by rw [HHC.out]; exact HR.out.h
  obtain ⟨n, Hn⟩ : ∃ n, Hid (n = s.n) := ⟨s.n, hidk rfl⟩
  obtain ⟨b1, hb1⟩ : ∃ b, rightH s.h = b := ⟨_, rfl⟩
  obtain ⟨b2, hb2⟩ : ∃ b, (decide (1 ≤ n) && decide (n ≤ 3)) = b := ⟨_, rfl⟩
  have R1 : Hid (∀ W, Calls Tryz.prog 37 #[.agg HCs] W fun e w' => e = .returned (.bool b1) ∧ Below W.heap.size W w') := fun W => by rw [← hb1]; exact refRight_any s.h hd W HCs HHC
  have W2 : Hid (∀ W, Calls Tryz.prog 38 #[.int .i64 n, .int .i64 1, .int .i64 3] W fun e w' => e = .returned (.bool b2) ∧ w' = W) := fun W => by rw [← hb2]; exact within_any n 1 3 W
  have hE : mayS s = (b1 && b2) := by
    rw [← hb1, ← hb2, Hn.out]
    unfold mayS
    rw [Bool.and_assoc]
  rw [hE]
  clear hE hb1 hb2 HC
  cases b1
  · go_enter Tryz.func21, Tryz.ntmps21
    go_wp2_with (first
      | (show aD 4 _ _ _ _ _ _ _ _ _ _ _; refine wpList_mid rfl 26 (.tmp 3) rfl w.heap.size 0 rfl HCs _ HRH.out Tryz.underlying26 rfl HSH.out ?_; try simp only [Act.put, pS1, pS2, pS3])
      | fail)
    refine (R1.out _).mono ?_
    rintro e w1 ⟨rfl, hb⟩
    have HB1 := hidk (HB.out.trans (hb.mono HB.out.size))
    clear hb
    go_wp2
    go_ret
    exact ⟨rfl, HB1.out⟩
  · go_enter Tryz.func21, Tryz.ntmps21
    go_wp2_with (first
      | (show aD 4 _ _ _ _ _ _ _ _ _ _ _; refine wpList_mid rfl 26 (.tmp 3) rfl w.heap.size 0 rfl HCs _ HRH.out Tryz.underlying26 rfl HSH.out ?_; try simp only [Act.put, pS1, pS2, pS3])
      | fail)
    refine (R1.out _).mono ?_
    rintro e w1 ⟨rfl, hb⟩
    have HB1 := hidk (HB.out.trans (hb.mono HB.out.size))
    have hc := (HR.out.keep hb).n
    rw [← Hn.out, Nat.zero_add] at hc
    clear hb
    go_wp2_with fail
    refine (W2.out _).mono ?_
    rintro e w2 ⟨rfl, rfl⟩
    go_wp2
    go_ret
    exact ⟨rfl, HB1.out⟩
set_option maxHeartbeats 8000000 in
theorem refSB_any (s : SgT) (hd : s.h.d.length = 32) (hg : s.g.length = 32) (w : World) (C : Array Value) (HC : Hid (C = (scells s).toArray)) :
    Calls Tryz.prog 133 #[.agg C] w fun e w' => ∃ v, e = .returned v ∧ w'.ownsRow w.heap.size 5 1 v (signB s).length (cellsOf (signB s)) ∧ Below w.heap.size w w' := by
  have HR := hidk (srow_new w s hd C HC 28)
  have HB : Hid (Below w.heap.size w (w.alloc (.cells C 28))) := (Below.refl _ _).alloc (Nat.le_refl _) _
  obtain ⟨HCs, HHC, HSH, H36⟩ := head_row s.h hd
  obtain ⟨D, HD, HSD, H1D, H32D⟩ := dig_row' s.g hg
  obtain ⟨n, Hn⟩ : ∃ n, Hid (n = s.n) := ⟨s.n, hidk rfl⟩
  obtain ⟨n2, Hn2⟩ : ∃ x : ByteArray, Hid (x = nOf n) := ⟨nOf n, hidk rfl⟩
  obtain ⟨x1, HX1⟩ : ∃ x : ByteArray, Hid (x = ⟨(headB s.h).toArray⟩) := ⟨⟨(headB s.h).toArray⟩, hidk rfl⟩
  obtain ⟨x3, HX3⟩ : ∃ x : ByteArray, Hid (x = ⟨s.g.toArray⟩) := ⟨⟨s.g.toArray⟩, hidk rfl⟩
  obtain ⟨hl, Hhl⟩ : ∃ l, Hid (l = headB s.h) := ⟨headB s.h, hidk rfl⟩
  have B1 : Hid (∀ W, Calls Tryz.prog 106 #[.agg HCs] W fun e w' => ∃ v, e = .returned v ∧ w'.ownsRow W.heap.size 5 1 v hl.length (cellsOf hl) ∧ Below W.heap.size W w') := fun W => by rw [Hhl.out]; exact refHB_any s.h hd W HCs HHC
  have N2 : Hid (∀ W, Calls Tryz.prog 109 #[.int .i64 n] W fun e w' => e = .returned (.string n2) ∧ Below W.heap.size W w') := fun W => by rw [Hn2.out]; exact refNum_any n W
  have X3 : Hid (∀ W, Calls Tryz.prog 92 #[.agg D] W fun e w' => e = .returned (.string x3) ∧ Below W.heap.size W w') := fun W => by
    have := refText_any s.g hg W x3 HX3 D.toList (by show _ = _; rw [HD.out])
    simpa using this
  have hL3 : sL s = [x1, n2, x3] := by rw [HX1.out, Hn2.out, HX3.out, Hn.out]; rfl
  have RW : Hid (∀ W W0 : World, ∀ a, Texts W a 3 [x1, n2, x3] → Below W0.heap.size W0 W → Calls Tryz.prog 108 #[.slice a 3 3] W fun e w' => ∃ v, e = .returned v ∧ w'.ownsRow W0.heap.size 5 1 v (signB s).length (cellsOf (signB s)) ∧ Below W0.heap.size W0 w') := fun W W0 a hx hb0 => by
    have h1 : ∀ y ∈ [x1, n2, x3], y.size ≤ 65536 := fun y hy => by
      rw [← hL3] at hy
      unfold sL at hy
      simp only [List.mem_cons, List.not_mem_nil, or_false] at hy
      rcases hy with rfl | rfl | rfl
      · rw [bA_size]; have := headB_length s.h hd; omega
      · exact Nat.le_trans (nOf_size _) (by omega)
      · rw [bA_size]; omega
    refine (refRow_any a 3 3 [x1, n2, x3] W hx (by omega) h1).mono ?_
    rintro e w' ⟨v, he, ho, hb⟩
    rw [← hL3] at ho
    exact ⟨v, he, own_lower ho hb0.size, hb0.trans (hb.mono hb0.size)⟩
  have HDL : Hid (D.toList = cellsOf s.g) := by show _ = _; rw [HD.out]
  have HHL : Hid (HCs.toList = hcells s.h) := by show _ = _; rw [HHC.out]
  have HX1' : Hid (x1 = ⟨hl.toArray⟩) := by show _ = _; rw [HX1.out, Hhl.out]
  clear HC hL3 HX1 HX3 HD Hn2 Hhl
  go_enter Tryz.func133, Tryz.ntmps133
  go_wp2
  refine wp_region_held_drew (S := (fun W => SRow W w.heap.size 0 s)) (by kernel_rfl) (HR.out.keep (Below.refl _ _).drew) (fun hHeld => ?_)
  refine zX 0 (.pointer (some ⟨w.heap.size, 0, none⟩)) rfl hHeld ?_
  try simp only [Act.put, pS1, pS2, pS3]
  refine zW 1 (.agg HCs) rfl (yieldsIf_mid (by rfl) 26 (.tmp 3) rfl w.heap.size 0 rfl HCs _ (fun _ h => by rw [HHL.out]; exact h.h) Tryz.underlying26 rfl HSH.out) hHeld ?_
  try simp only [Act.put, pS1, pS2, pS3]
  refine zX 4 (.pointer (some ⟨w.heap.size, 36, none⟩)) rfl hHeld ?_
  try simp only [Act.put, pS1, pS2, pS3]
  refine zW 5 (.int .i64 n) rfl (Or.inl ⟨by rfl, by intro W hSw; have h1 := hSw.n; rw [← Hn.out, Nat.zero_add] at h1; go_simp⟩) hHeld ?_
  try simp only [Act.put, pS1, pS2, pS3]
  refine zX 7 (.pointer (some ⟨w.heap.size, 37, none⟩)) rfl hHeld ?_
  try simp only [Act.put, pS1, pS2, pS3]
  refine zW 8 (.agg D) rfl (yieldsIf_mid (by rfl) 24 (.tmp 10) rfl w.heap.size 37 rfl D _ (fun _ h => by rw [HDL.out]; have := h.g; rwa [Nat.zero_add] at this) Tryz.underlying24 rfl HSD.out) hHeld ?_
  try simp only [Act.put, pS1, pS2, pS3]
  refine wpAnyH_ready (rs := [2]) (by kernel_rfl) (by simp) ?_
  refine (AllReadyH.cons (o := { dst := some 5, op := .call { callee := .value (.func 106), args := #[.tmp 4], argTypes := #[26] }, type := 69, pos := "ref.go:128", after := #[zD 1], guard := none }) rfl (fun K hK => ?_) AllReadyH.nil)
  go_simp
  refine (B1.out _).mono ?_
  rintro e w2 ⟨v5, rfl, ho5, hb1⟩
  obtain ⟨a5, c5, rfl, hr5⟩ := reads_own ho5
  have HV := hidk hr5
  have HBc := hidk (HB.out.drew.trans (hb1.mono HB.out.size))
  go_wp2_with fail
  refine hK.out _ _ (hHeld.keep hb1) (fun hHeld => ?_)
  clear hK K
  try simp only [Act.put, pS1, pS2, pS3]
  refine wpAnyH_ready (rs := [3, 6]) (by kernel_rfl) (by simp) ?_
  refine (AllReadyH.cons (o := { dst := some 6, op := .convert 69 9 (.tmp 5), type := 9, pos := "ref.go:128", after := #[zD 2], guard := none }) rfl (fun K hK => ?_) (AllReadyH.cons (o := { dst := some 9, op := .call { callee := .value (.func 109), args := #[.tmp 8], argTypes := #[3] }, type := 9, pos := "ref.go:128", after := #[zD 5, zC 2], guard := none }) rfl (fun K hK => ?_) AllReadyH.nil))
  · have hcv := conv_reads HV.out
    rw [← HX1'.out] at hcv
    go_simp
    clear hcv
    refine hK.out _ _ hHeld (fun hHeld => ?_)
    clear hK K
    try simp only [Act.put, pS1, pS2, pS3]
    refine wpAnyH_ready (rs := [6]) (by kernel_rfl) (by simp) ?_
    refine (AllReadyH.cons (o := { dst := some 9, op := .call { callee := .value (.func 109), args := #[.tmp 8], argTypes := #[3] }, type := 9, pos := "ref.go:128", after := #[zD 5, zC 2], guard := none }) rfl (fun K hK => ?_) AllReadyH.nil)
    go_simp
    refine (N2.out _).mono ?_
    rintro e w6 ⟨rfl, hb2⟩
    replace HBc := hidk (HBc.out.trans (hb2.mono HBc.out.size))
    replace HV := hidk (HV.out.below hb2)
    go_wp2_with fail
    refine hK.out _ _ (hHeld.keep hb2) (fun hHeld => ?_)
    clear hK K
    try simp only [Act.put, pS1, pS2, pS3]
    refine wpAnyH_ready (rs := [9]) (by kernel_rfl) (by simp) ?_
    refine (AllReadyH.cons (o := { dst := some 12, op := .call { callee := .value (.func 92), args := #[.tmp 11], argTypes := #[24] }, type := 9, pos := "ref.go:128", after := #[zD 8, zC 6], guard := none }) rfl (fun K hK => ?_) AllReadyH.nil)
    go_simp
    refine (X3.out _).mono ?_
    rintro e w9 ⟨rfl, hb3⟩
    replace HBc := hidk (HBc.out.trans (hb3.mono HBc.out.size))
    replace HV := hidk (HV.out.below hb3)
    go_wp2_with fail
    refine hK.out _ _ (hHeld.keep hb3) (fun hHeld => ?_)
    clear hK K
    try simp only [Act.put, pS1, pS2, pS3]
    refine wpAnyH_ready (rs := [10]) (by kernel_rfl) (by simp) ?_
    refine (AllReadyH.cons (o := { dst := some 13, op := .buildSlice 153 3 #[(0, .tmp 6), (1, .tmp 9), (2, .tmp 12)], type := 153, pos := "ref.go:128", after := #[zD 3, zD 6, zD 9], guard := none }) rfl (fun K hK => ?_) AllReadyH.nil)
    have HRc := hidk hHeld
    go_simp
    have HTX := hidk (texts_new w9 [x1, n2, x3] 9)
    refine hK.out _ _ (hHeld.keep ((Below.refl _ _).alloc (Nat.le_refl _) _)) (fun hHeld => ?_)
    clear hK K
    try simp only [Act.put, pS1, pS2, pS3]
    refine wpAnyH_ready (rs := [11]) (by kernel_rfl) (by simp) ?_
    refine (AllReadyH.cons (o := { dst := some 14, op := .call { callee := .value (.func 108), args := #[.tmp 13], argTypes := #[153] }, type := 69, pos := "ref.go:128", after := #[zD 10, zC 9], guard := none }) rfl (fun K hK => ?_) AllReadyH.nil)
    go_simp
    refine (RW.out _ w9 _ HTX.out ((Below.refl _ _).alloc (Nat.le_refl _) _)).mono ?_
    rintro e w11 ⟨v, rfl, ho, hb6⟩
    have HOWN := hidk (own_lower ho HBc.out.size)
    have HBF := hidk (HBc.out.trans (hb6.mono HBc.out.size))
    go_wp2_with fail
    refine hK.out _ _ (HRc.out.keep hb6) (fun hHeld => ?_)
    clear hK K
    try simp only [Act.put, pS1, pS2, pS3]
    refine zX 12 (v) rfl hHeld ?_
    try simp only [Act.put, pS1, pS2, pS3]
    refine wpAnyH_done (by kernel_rfl) ?_ _
    go_wp2
    go_ret
    exact ⟨_, rfl, HOWN.out, HBF.out⟩
  · go_simp
    refine (N2.out _).mono ?_
    rintro e w6 ⟨rfl, hb2⟩
    replace HBc := hidk (HBc.out.trans (hb2.mono HBc.out.size))
    replace HV := hidk (HV.out.below hb2)
    go_wp2_with fail
    refine hK.out _ _ (hHeld.keep hb2) (fun hHeld => ?_)
    clear hK K
    try simp only [Act.put, pS1, pS2, pS3]
    refine wpAnyH_ready (rs := [3, 9]) (by kernel_rfl) (by simp) ?_
    refine (AllReadyH.cons (o := { dst := some 6, op := .convert 69 9 (.tmp 5), type := 9, pos := "ref.go:128", after := #[zD 2], guard := none }) rfl (fun K hK => ?_) (AllReadyH.cons (o := { dst := some 12, op := .call { callee := .value (.func 92), args := #[.tmp 11], argTypes := #[24] }, type := 9, pos := "ref.go:128", after := #[zD 8, zC 6], guard := none }) rfl (fun K hK => ?_) AllReadyH.nil))
    · have hcv := conv_reads HV.out
      rw [← HX1'.out] at hcv
      go_simp
      clear hcv
      refine hK.out _ _ hHeld (fun hHeld => ?_)
      clear hK K
      try simp only [Act.put, pS1, pS2, pS3]
      refine wpAnyH_ready (rs := [9]) (by kernel_rfl) (by simp) ?_
      refine (AllReadyH.cons (o := { dst := some 12, op := .call { callee := .value (.func 92), args := #[.tmp 11], argTypes := #[24] }, type := 9, pos := "ref.go:128", after := #[zD 8, zC 6], guard := none }) rfl (fun K hK => ?_) AllReadyH.nil)
      go_simp
      refine (X3.out _).mono ?_
      rintro e w9 ⟨rfl, hb3⟩
      replace HBc := hidk (HBc.out.trans (hb3.mono HBc.out.size))
      replace HV := hidk (HV.out.below hb3)
      go_wp2_with fail
      refine hK.out _ _ (hHeld.keep hb3) (fun hHeld => ?_)
      clear hK K
      try simp only [Act.put, pS1, pS2, pS3]
      refine wpAnyH_ready (rs := [10]) (by kernel_rfl) (by simp) ?_
      refine (AllReadyH.cons (o := { dst := some 13, op := .buildSlice 153 3 #[(0, .tmp 6), (1, .tmp 9), (2, .tmp 12)], type := 153, pos := "ref.go:128", after := #[zD 3, zD 6, zD 9], guard := none }) rfl (fun K hK => ?_) AllReadyH.nil)
      have HRc := hidk hHeld
      go_simp
      have HTX := hidk (texts_new w9 [x1, n2, x3] 9)
      refine hK.out _ _ (hHeld.keep ((Below.refl _ _).alloc (Nat.le_refl _) _)) (fun hHeld => ?_)
      clear hK K
      try simp only [Act.put, pS1, pS2, pS3]
      refine wpAnyH_ready (rs := [11]) (by kernel_rfl) (by simp) ?_
      refine (AllReadyH.cons (o := { dst := some 14, op := .call { callee := .value (.func 108), args := #[.tmp 13], argTypes := #[153] }, type := 69, pos := "ref.go:128", after := #[zD 10, zC 9], guard := none }) rfl (fun K hK => ?_) AllReadyH.nil)
      go_simp
      refine (RW.out _ w9 _ HTX.out ((Below.refl _ _).alloc (Nat.le_refl _) _)).mono ?_
      rintro e w11 ⟨v, rfl, ho, hb6⟩
      have HOWN := hidk (own_lower ho HBc.out.size)
      have HBF := hidk (HBc.out.trans (hb6.mono HBc.out.size))
      go_wp2_with fail
      refine hK.out _ _ (HRc.out.keep hb6) (fun hHeld => ?_)
      clear hK K
      try simp only [Act.put, pS1, pS2, pS3]
      refine zX 12 (v) rfl hHeld ?_
      try simp only [Act.put, pS1, pS2, pS3]
      refine wpAnyH_done (by kernel_rfl) ?_ _
      go_wp2
      go_ret
      exact ⟨_, rfl, HOWN.out, HBF.out⟩
    · go_simp
      refine (X3.out _).mono ?_
      rintro e w9 ⟨rfl, hb3⟩
      replace HBc := hidk (HBc.out.trans (hb3.mono HBc.out.size))
      replace HV := hidk (HV.out.below hb3)
      go_wp2_with fail
      refine hK.out _ _ (hHeld.keep hb3) (fun hHeld => ?_)
      clear hK K
      try simp only [Act.put, pS1, pS2, pS3]
      refine wpAnyH_ready (rs := [3]) (by kernel_rfl) (by simp) ?_
      refine (AllReadyH.cons (o := { dst := some 6, op := .convert 69 9 (.tmp 5), type := 9, pos := "ref.go:128", after := #[zD 2], guard := none }) rfl (fun K hK => ?_) AllReadyH.nil)
      have hcv := conv_reads HV.out
      rw [← HX1'.out] at hcv
      go_simp
      clear hcv
      refine hK.out _ _ hHeld (fun hHeld => ?_)
      clear hK K
      try simp only [Act.put, pS1, pS2, pS3]
      refine wpAnyH_ready (rs := [10]) (by kernel_rfl) (by simp) ?_
      refine (AllReadyH.cons (o := { dst := some 13, op := .buildSlice 153 3 #[(0, .tmp 6), (1, .tmp 9), (2, .tmp 12)], type := 153, pos := "ref.go:128", after := #[zD 3, zD 6, zD 9], guard := none }) rfl (fun K hK => ?_) AllReadyH.nil)
      have HRc := hidk hHeld
      go_simp
      have HTX := hidk (texts_new w9 [x1, n2, x3] 9)
      refine hK.out _ _ (hHeld.keep ((Below.refl _ _).alloc (Nat.le_refl _) _)) (fun hHeld => ?_)
      clear hK K
      try simp only [Act.put, pS1, pS2, pS3]
      refine wpAnyH_ready (rs := [11]) (by kernel_rfl) (by simp) ?_
      refine (AllReadyH.cons (o := { dst := some 14, op := .call { callee := .value (.func 108), args := #[.tmp 13], argTypes := #[153] }, type := 69, pos := "ref.go:128", after := #[zD 10, zC 9], guard := none }) rfl (fun K hK => ?_) AllReadyH.nil)
      go_simp
      refine (RW.out _ w9 _ HTX.out ((Below.refl _ _).alloc (Nat.le_refl _) _)).mono ?_
      rintro e w11 ⟨v, rfl, ho, hb6⟩
      have HOWN := hidk (own_lower ho HBc.out.size)
      have HBF := hidk (HBc.out.trans (hb6.mono HBc.out.size))
      go_wp2_with fail
      refine hK.out _ _ (HRc.out.keep hb6) (fun hHeld => ?_)
      clear hK K
      try simp only [Act.put, pS1, pS2, pS3]
      refine zX 12 (v) rfl hHeld ?_
      try simp only [Act.put, pS1, pS2, pS3]
      refine wpAnyH_done (by kernel_rfl) ?_ _
      go_wp2
      go_ret
      exact ⟨_, rfl, HOWN.out, HBF.out⟩
theorem fold_set (D : List Value) : ∀ (k off : Nat) (cs : Array Value) (pre old rest : List Value), cs.toList = pre ++ old ++ rest → pre.length = off + k → old.length = D.length →
    ((D.zipIdx k).foldl (fun cs (c, j) => cs.setIfInBounds (off + j) c) cs).toList = pre ++ D ++ rest := by
  induction D with
  | nil =>
    intro k off cs pre old rest h hp ho
    have : old = [] := List.eq_nil_of_length_eq_zero ho
    subst this
    simpa using h
  | cons d D ih =>
    intro k off cs pre old rest h hp ho
    match old, ho with
    | x :: old, ho =>
      rw [List.zipIdx_cons, List.foldl_cons]
      have := ih (k + 1) off (cs.setIfInBounds (off + k) d) (pre ++ [d]) old rest (by
        rw [Array.toList_setIfInBounds, h, ← hp]
        simp) (by simp; omega) (by simpa using ho)
      rw [this]
      simp
theorem yieldsIf_build {P : Program} {ops : Array Oper} {S : World → Prop} {o : Oper} {a : Act} (hw : Region.wanted o (yielded ops a.tmps) = true) (t : TypeId) (parts : Array (Nat × Operand)) (ho : o.op = .build t parts) (vals : Array (Nat × Value)) (hv : (parts.toList.map fun p => (p.1, a.eval p.2)) = vals.toList)
    (v : Value) (hrun : ∀ W, (Instr.build t vals).run P W = .ok v W) : YieldsIf P ops S o v a :=
  .inl ⟨hw, fun w _ => by
    have hv' : (parts.map fun (i, x) => (i, a.eval x)) = vals := by
      apply Array.ext'
      rw [Array.toList_map, ← hv]
    subst hv'
    unfold execOp
    simp only [ho, Sem.run_bind, hrun, Result.andThen_ok]
    rfl⟩
theorem fill_val (place : Nat → Option (Nat × Nat)) (i off n : Nat) (v : Value) (D cs : Array Value) (pre old post : List Value) (more : List (Nat × Value)) (hv : v.cells = D) (hp : place i = some (off, n)) (hn : D.size = n) (hcs : cs.toList = pre ++ old ++ post) (hpre : pre.length = off) (hold : old.length = n) :
    Instr.fill place cs ((i, v) :: more) = Instr.fill place (pre ++ D.toList ++ post).toArray more := by
  have hcz : cs.size = off + n + post.length := by rw [← Array.length_toList, hcs]; simp only [List.length_append, hpre, hold]
  conv => lhs; unfold Instr.fill
  simp only [hp, hv, hn]
  rw [if_neg (by simp; omega)]
  congr 1
  apply Array.ext'
  have := fold_set D.toList 0 off cs pre old post hcs (by omega) (by rw [hold, Array.length_toList, hn])
  rw [← this, ← Array.foldl_toList]
  congr 2
  simp
def zeroH : HdT := ⟨0, 0, 0, List.replicate 32 0, 0⟩
def zeroS : SgT := ⟨zeroH, 0, List.replicate 32 0⟩
theorem infoH : (Tryz.prog.info? 26).map (fun i => (i.zero, i.size)) = some (some (.agg (hcells zeroH).toArray), 36) := by kernel_rfl
theorem infoS : (Tryz.prog.info? 28).map (fun i => (i.zero, i.size)) = some (some (.agg (scells zeroS).toArray), 69) := by kernel_rfl
theorem builtH0 : Tryz.prog.built 26 [] = some (hcells zeroH).toArray := by kernel_rfl
theorem builtS0 : Tryz.prog.built 28 [] = some (scells zeroS).toArray := by kernel_rfl
theorem one_cells (h : HdT) : (hcells h).toArray.all (·.oneCell') = true := by
  rw [List.all_toArray, List.all_eq_true]
  intro v hv
  unfold hcells at hv
  simp only [List.mem_append, List.mem_cons, List.not_mem_nil, or_false] at hv
  rcases hv with ((rfl | rfl | rfl) | hv) | rfl
  · rfl
  · rfl
  · rfl
  · exact cellsOf_one _ v hv
  · rfl
theorem one_cellsS (s : SgT) : (scells s).toArray.all (·.oneCell') = true := by
  rw [List.all_toArray, List.all_eq_true]
  intro v hv
  unfold scells at hv
  simp only [List.mem_append, List.mem_cons, List.not_mem_nil, or_false] at hv
  rcases hv with (hv | rfl) | hv
  · have := one_cells s.h
    rw [List.all_toArray, List.all_eq_true] at this
    exact this v hv
  · rfl
  · exact cellsOf_one _ v hv
theorem head_row5 (h : HdT) (hd : h.d.length = 32) : ∃ C : Array Value, Hid (C = (hcells h).toArray) ∧ Hid ((Tryz.prog.info? 26).map (·.size) = some C.size) ∧ Hid (C.all (·.oneCell') = true) ∧ Hid (C.size = 36) := by
  refine ⟨(hcells h).toArray, hidk rfl, ?_, one_cells h, ?_⟩
  · show _ = _
    rw [sizeH]; simp [hcells_length h hd]
  · show _ = _
    simp [hcells_length h hd]
theorem sign_row (s : SgT) (hd : s.h.d.length = 32) (hg : s.g.length = 32) : ∃ C : Array Value, Hid (C = (scells s).toArray) ∧ Hid ((Tryz.prog.info? 28).map (·.size) = some C.size) ∧ Hid (C.all (·.oneCell') = true) ∧ Hid (C.size = 69) := by
  refine ⟨(scells s).toArray, hidk rfl, ?_, one_cellsS s, ?_⟩
  · show _ = _
    rw [sizeS]; simp [scells_length s hd hg]
  · show _ = _
    simp [scells_length s hd hg]
theorem noughtsH : ∃ Z : Array Value, Hid (Z = (hcells zeroH).toArray) ∧ Hid ((Tryz.prog.info? 26).map (fun i => (i.zero, i.size)) = some (some (.agg Z), Z.size)) ∧ Hid (Tryz.prog.built 26 [] = some Z) ∧ Hid (Z.size = 36) :=
  ⟨(hcells zeroH).toArray, hidk rfl, infoH, builtH0, hidk rfl⟩
theorem noughtsS : ∃ Z : Array Value, Hid (Z = (scells zeroS).toArray) ∧ Hid ((Tryz.prog.info? 28).map (fun i => (i.zero, i.size)) = some (some (.agg Z), Z.size)) ∧ Hid (Tryz.prog.built 28 [] = some Z) ∧ Hid (Z.size = 69) :=
  ⟨(scells zeroS).toArray, hidk rfl, infoS, builtS0, hidk rfl⟩
def signsO (h : HdT) (n : Int) : Bool := rightH h && (decide (1 ≤ n) && decide (n ≤ 3))
def signO (master : List UInt8) (h : HdT) (n : Int) : SgT := if signsO h n = true then ⟨h, n, tagD master h n⟩ else zeroS
def signE (h : HdT) (n : Int) : Int := if signsO h n = true then 0 else 70
theorem signsO_owner (h : HdT) (n : Int) (hs : signsO h n = true) : owner h.r n = true := by
  unfold signsO at hs
  simp only [Bool.and_eq_true, decide_eq_true_eq] at hs
  have := (rightH_iff h).1 hs.1
  exact (owner_iff _ _).2 (by omega)
end Go.Proofs.YtkmedlfbkddmoaaGreatDoor
