/- Texts of our own that the row of HeadBytes leans on, part 18. -/
import Derived.Test.YtdnhnjimhbbabaaHeadBytesJ15
import Derived.Test.YtdnhnjimhbbabaaHeadBytesJ16
import Derived.Test.YtdnhnjimhbbabaaHeadBytesJ17

/- What the document's Digest and Row answer. -/
namespace Go.Proofs.Ytdnhnjimhbbabaa
open Go.RowKit Sums Nums
set_option linter.unusedVariables false
set_option linter.unusedSimpArgs false
set_option maxRecDepth 100000
/-! A row of the tags from 1 on. -/
theorem tagsN_succ (n : Nat) : tagsN (n + 1) = tagsN n ++ [(n : Int) + 1] := by unfold tagsN; rw [List.range_succ, List.map_append]; rfl
theorem fieldsN_snoc (l : List ByteArray) (x : ByteArray) : fieldsN (l ++ [x]) = fieldsN l ++ [((l.length : Int) + 1, x)] := by
  unfold fieldsN
  rw [List.length_append, List.length_singleton, tagsN_succ, List.zip_append (by rw [tagsN_length])]
  rfl
theorem row_next (l : List ByteArray) (k : Nat) (hk : k < l.length) : rowB (fieldsN (l.take (k + 1))) = rowB (fieldsN (l.take k)) ++ fieldBytesI ((k : Int) + 1) (l[k]).data.toList := by
  rw [List.take_add_one, List.getElem?_eq_getElem hk]
  simp only [Option.toList_some]
  rw [fieldsN_snoc, rowB_append, List.length_take, Nat.min_eq_left (by omega)]
  simp [rowB]
theorem rowB_small : ∀ (fs : List (Int × ByteArray)), (∀ f ∈ fs, f.2.size ≤ 65536) → (rowB fs).length ≤ 65540 * fs.length
  | [], _ => by simp [rowB]
  | f :: r, h => by
    have h1 := h f (by simp)
    have h2 := rowB_small r (fun x hx => h x (List.mem_cons_of_mem _ hx))
    show (fieldBytesI f.1 f.2.data.toList ++ rowB r).length ≤ _
    rw [List.length_append, fieldBytesI_length]
    have : f.2.data.toList.length = f.2.size := rfl
    simp only [List.length_cons]
    omega
theorem fieldsN_mem {l : List ByteArray} {f : Int × ByteArray} (h : f ∈ fieldsN l) : f.2 ∈ l := by
  unfold fieldsN at h
  exact (List.of_mem_zip h).2
theorem fieldsN_length (l : List ByteArray) : (fieldsN l).length = l.length := by
  unfold fieldsN
  rw [List.length_zip, tagsN_length, Nat.min_self]
set_option maxHeartbeats 4000000 in
theorem refRow_any (a : Option Addr) (len cap : Nat) (l : List ByteArray) (w : World) (hT : Texts w a len l) (hl : len ≤ 200) (hs : ∀ s ∈ l, s.size ≤ 65536) :
    Calls Try.prog 26 #[.slice a len cap] w fun e w' => ∃ v, e = .returned v ∧ w'.ownsRow w.heap.size 5 1 v (rowB (fieldsN l)).length (cellsOf (rowB (fieldsN l))) ∧ Below w.heap.size w w' := by
  have hlen : l.length = len := hT.1
  have HT := hidk hT
  have HS := hidk hs
  have HN0 : Hid (w.ownsRow w.heap.size 5 1 (.slice none 0 0) (rowB (fieldsN (l.take 0))).length (cellsOf (rowB (fieldsN (l.take 0))))) := World.ownsRow_nil _ _ _ _
  clear hT hs
  go_enter Try.func26, Try.ntmps26
  go_wp2
  go_loopw [3, 4] (fun v i wr => ∃ k : Nat, k ≤ len ∧ i = .int .i64 k ∧ Hid (wr.ownsRow w.heap.size 5 1 v (rowB (fieldsN (l.take k))).length (cellsOf (rowB (fieldsN (l.take k)))) ∧ Below w.heap.size w wr)) (fun _ i _ => len - (intOf i).toNat)
  case atStart => exact ⟨0, by omega, rfl, HN0.out, Below.refl _ _⟩
  case round =>
    clear HN0
    obtain ⟨k, hk, rfl, HO⟩ := hrel
    by_cases hlt : k < len
    · have hkl : k < l.length := by omega
      obtain ⟨p, HP⟩ : ∃ p, Hid (p = l[k]) := ⟨l[k], hidk rfl⟩
      obtain ⟨b, off, rfl, hcell⟩ : ∃ b off, a = some ⟨b, off, none⟩ ∧ wr.cell? ⟨b, off + k, none⟩ = some (.string p) := by
        rcases (HT.out.keep HO.out.2).2 with h0 | ⟨b, off, e, _, hc⟩
        · omega
        · exact ⟨b, off, e, by rw [hc k hkl, HP.out]⟩
      have hps : p.size ≤ 65536 := by rw [HP.out]; exact HS.out _ (List.getElem_mem hkl)
      have hlt' : (k : Int) < (len : Int) := by omega
      have BY : Hid (Calls Try.prog 35 #[.int .i64 ((k : Int) + 1), .string p] wr fun e w' => ∃ v', e = .returned v' ∧ w'.ownsRow wr.heap.size 5 1 v' (fieldBytesI ((k : Int) + 1) p.data.toList).length (cellsOf (fieldBytesI ((k : Int) + 1) p.data.toList)) ∧ Below wr.heap.size wr w') := by
        have := bytes_any (k + 1) p wr hps (by omega)
        rw [show (((k + 1 : Nat)) : Int) = (k : Int) + 1 by omega] at this
        rw [fieldBytesI_nat _ _ (by omega), show ((k : Int) + 1).toNat = k + 1 by omega]
        exact this
      have hbnd : (rowB (fieldsN (l.take k))).length ≤ 65540 * 200 := by
        have h1 := rowB_small (fieldsN (l.take k)) (fun f hf => HS.out _ (List.mem_of_mem_take (fieldsN_mem hf)))
        rw [fieldsN_length, List.length_take] at h1
        have : 65540 * min k l.length ≤ 65540 * 200 := Nat.mul_le_mul_left _ (by omega)
        omega
      have hnx := row_next l k hkl
      rw [← HP.out] at hnx
      have HNX := hidk hnx
      have wrk := wrap_int ((k : Int) + 1) (by omega) (by omega)
      clear hnx
      go_wp2_with fail
      refine BY.out.mono ?_
      rintro e w1 ⟨v1, rfl, ho1, hb1⟩
      obtain ⟨a1, c1, rfl, hr1⟩ := reads_own ho1
      have hfl : (fieldBytesI ((k : Int) + 1) p.data.toList).length ≤ 65540 := by rw [fieldBytesI_length]; have : p.data.toList.length = p.size := rfl; omega
      have hoK : w1.ownsRow w.heap.size 5 1 u3 (rowB (fieldsN (l.take k))).length (cellsOf (rowB (fieldsN (l.take k)))) := HO.out.1.kept (row := none) ⟨hb1.os, hb1.tape, hb1.output, hb1.size, fun j hj _ => hb1.block j hj⟩ (by cases hv : u3.ownBlock <;> simp)
      have hBw1 : Below w.heap.size w w1 := HO.out.2.trans (hb1.mono HO.out.2.size)
      obtain ⟨v2, w2, hrun, ho2, hg2⟩ := run_append_grows hr1 w.heap.size _ 26 u3 _ hoK hBw1.size (by omega)
      have HO2 : Hid (w2.ownsRow w.heap.size 5 1 v2 (rowB (fieldsN (l.take (k + 1)))).length (cellsOf (rowB (fieldsN (l.take (k + 1))))) ∧ Below w.heap.size w w2) := by
        refine ⟨?_, hBw1.grown hg2 hBw1.size (fun q e => (hoK.lt q e).1)⟩
        rw [HNX.out, List.length_append]
        exact ho2
      have HRUN := hidk hrun
      clear hrun ho2 hg2 hoK hBw1 ho1 hr1 hb1 HO BY HNX
      go_wp2_with (first
        | (show wpList _ _ _ ({ dst := some 21, op := _, type := _, pos := _, after := _, guard := _ } :: _) _ _; refine wpList_append_run rfl (.tmp 19) (.tmp 20) 26 26 rfl _ _ _ w2 rfl rfl HRUN.out ?_; try simp only [Act.put, List.setIfInBounds_toArray, List.set_cons_zero, List.set_cons_succ])
        | fail)
      go_roundw
      case rel => exact ⟨k + 1, by omega, by go_num, HO2⟩
      case measure => simp [intOf]; omega
    · obtain rfl : k = len := by omega
      have HO' := HO.out
      rw [List.take_of_length_le (by omega)] at HO'
      have HF := hidk HO'
      clear HO' HO
      go_wp2
      go_ret
      exact ⟨_, rfl, HF.out⟩
end Go.Proofs.Ytdnhnjimhbbabaa

/- What the document's Bytes, May, BytesSigned and Tag answer. -/
namespace Go.Proofs.Ytdnhnjimhbbabaa
open Go.RowKit Sums Nums
set_option linter.unusedVariables false
set_option linter.unusedSimpArgs false
set_option maxRecDepth 100000
theorem cell_keep {W W' : World} {p : Addr} {v : Value} (hb : Below W.heap.size W W') (h : W.cell? p = some v) : W'.cell? p = some v := by
  rw [hb.cell (World.block_lt_of_cell? _ _ h)]; exact h
theorem HRow.keep {W W' : World} {g o : Nat} {h : HdT} (hr : HRow W g o h) (hb : Below W.heap.size W W') : HRow W' g o h :=
  ⟨cell_keep hb hr.r, cell_keep hb hr.e, cell_keep hb hr.s, range_keep hb hr.d, cell_keep hb hr.t⟩
theorem sizeH : (Try.prog.info? 25).map (·.size) = some 36 := by kernel_rfl
set_option maxHeartbeats 8000000 in
theorem refHB_any (h : HdT) (hd : h.d.length = 32) (w : World) (C : Array Value) (HC : Hid (C = (hcells h).toArray)) :
    Calls Try.prog 13 #[.agg C] w fun e w' => ∃ v, e = .returned v ∧ w'.ownsRow w.heap.size 5 1 v (headB h).length (cellsOf (headB h)) ∧ Below w.heap.size w w' := by
  obtain ⟨r, Hr⟩ : ∃ r, Hid (r = h.r) := ⟨h.r, hidk rfl⟩
  obtain ⟨e, He⟩ : ∃ r, Hid (r = h.e) := ⟨h.e, hidk rfl⟩
  obtain ⟨s, Hs⟩ : ∃ r, Hid (r = h.s) := ⟨h.s, hidk rfl⟩
  obtain ⟨t, Ht⟩ : ∃ r, Hid (r = h.t) := ⟨h.t, hidk rfl⟩
  obtain ⟨n1, Hn1⟩ : ∃ s : ByteArray, Hid (s = nOf r) := ⟨nOf r, hidk rfl⟩
  obtain ⟨n2, Hn2⟩ : ∃ s : ByteArray, Hid (s = nOf e) := ⟨nOf e, hidk rfl⟩
  obtain ⟨n3, Hn3⟩ : ∃ x : ByteArray, Hid (x = nOf s) := ⟨nOf s, hidk rfl⟩
  obtain ⟨n5, Hn5⟩ : ∃ s : ByteArray, Hid (s = nOf t) := ⟨nOf t, hidk rfl⟩
  obtain ⟨x4, HX⟩ : ∃ x : ByteArray, Hid (x = ⟨h.d.toArray⟩) := ⟨⟨h.d.toArray⟩, hidk rfl⟩
  obtain ⟨D, HD, HSD, H1D, H32D⟩ := dig_row' h.d hd
  have N1 : Hid (∀ W, Calls Try.prog 27 #[.int .i64 r] W fun e w' => e = .returned (.string n1) ∧ Below W.heap.size W w') := fun W => by rw [Hn1.out]; exact refNum_any r W
  have N2 : Hid (∀ W, Calls Try.prog 27 #[.int .i64 e] W fun e w' => e = .returned (.string n2) ∧ Below W.heap.size W w') := fun W => by rw [Hn2.out]; exact refNum_any e W
  have N3 : Hid (∀ W, Calls Try.prog 27 #[.int .i64 s] W fun e w' => e = .returned (.string n3) ∧ Below W.heap.size W w') := fun W => by rw [Hn3.out]; exact refNum_any s W
  have N5 : Hid (∀ W, Calls Try.prog 27 #[.int .i64 t] W fun e w' => e = .returned (.string n5) ∧ Below W.heap.size W w') := fun W => by rw [Hn5.out]; exact refNum_any t W
  have X4 : Hid (∀ W, Calls Try.prog 28 #[.agg D] W fun e w' => e = .returned (.string x4) ∧ Below W.heap.size W w') := fun W => by
    have := refText_any h.d hd W x4 HX D.toList (by show _ = _; rw [HD.out])
    simpa using this
  have hL5 : hL h = [n1, n2, n3, x4, n5] := by rw [Hn1.out, Hn2.out, Hn3.out, Hn5.out, HX.out, Hr.out, He.out, Hs.out, Ht.out]; rfl
  have RW : Hid (∀ W, Calls Try.prog 26 #[.slice (some ⟨W.heap.size, 0, none⟩) 5 5] (W.alloc (.cells #[.string n1, .string n2, .string n3, .string x4, .string n5] 9)) fun e w' => ∃ v, e = .returned v ∧ w'.ownsRow W.heap.size 5 1 v (headB h).length (cellsOf (headB h)) ∧ Below W.heap.size W w') := fun W => by
    have h1 : ∀ y ∈ [n1, n2, n3, x4, n5], y.size ≤ 65536 := fun y hy => by
      rw [← hL5] at hy
      unfold hL at hy
      simp only [List.mem_cons, List.not_mem_nil, or_false] at hy
      rcases hy with rfl | rfl | rfl | rfl | rfl
      · exact Nat.le_trans (nOf_size _) (by omega)
      · exact Nat.le_trans (nOf_size _) (by omega)
      · exact Nat.le_trans (nOf_size _) (by omega)
      · rw [bA_size]; omega
      · exact Nat.le_trans (nOf_size _) (by omega)
    refine (refRow_any (some ⟨W.heap.size, 0, none⟩) 5 5 [n1, n2, n3, x4, n5] (W.alloc (.cells #[.string n1, .string n2, .string n3, .string x4, .string n5] 9)) (texts_new W [n1, n2, n3, x4, n5] 9) (by omega) h1).mono ?_
    rintro e w' ⟨v, he, ho, hb⟩
    rw [← hL5] at ho
    exact ⟨v, he, own_lower ho (by simp), ((Below.refl _ _).alloc (Nat.le_refl _) _).trans (hb.mono (by simp))⟩
  have HR := hidk (hrow_new w h hd C HC 25)
  have HB : Hid (Below w.heap.size w (w.alloc (.cells C 25))) := (Below.refl _ _).alloc (Nat.le_refl _) _
  have HDL : Hid (D.toList = cellsOf h.d) := by show _ = _; rw [HD.out]
  clear HC HX hL5 HD Hn1 Hn2 Hn3 Hn5
  go_enter Try.func13, Try.ntmps13
  go_wp2
  refine wp_region_held_drew (S := (fun W => HRow W w.heap.size 0 h)) (by kernel_rfl) (show HRow (w.alloc (.cells C 25)).drew w.heap.size 0 h from HR.out.keep (Below.refl _ _).drew) (fun hHeld => ?_)
  refine wpAnyH_take (i := 0) (oi := { dst := some 3, op := Op.fieldAddr 25 (Operand.tmp 1) 0, type := 0, pos := "ref.go:74", after := #[], guard := none }) (v := .pointer (some ⟨w.heap.size, 0, none⟩)) rfl (by kernel_rfl) (by kernel_rfl) (by kernel_rfl) (fun _ _ _ h => h) (Or.inl ⟨by rfl, by intro W hSw; go_simp⟩) hHeld ?_
  try simp only [Act.put, List.setIfInBounds_toArray, List.set_cons_zero, List.set_cons_succ]
  refine wpAnyH_take (i := 1) (oi := { dst := some 4, op := Op.load 3 (Operand.tmp 3), type := 3, pos := "ref.go:74", after := #[{ on := 0, ground := Ground.data }], guard := none }) (v := .int .i64 r) rfl (by kernel_rfl) (by kernel_rfl) (by kernel_rfl) (fun _ _ _ h => h) (Or.inl ⟨by rfl, by intro W hSw; have h1 := hSw.r; rw [← Hr.out] at h1; go_simp⟩) hHeld ?_
  try simp only [Act.put, List.setIfInBounds_toArray, List.set_cons_zero, List.set_cons_succ]
  refine wpAnyH_take (i := 3) (oi := { dst := some 6, op := Op.fieldAddr 25 (Operand.tmp 1) 1, type := 0, pos := "ref.go:74", after := #[], guard := none }) (v := .pointer (some ⟨w.heap.size, 1, none⟩)) rfl (by kernel_rfl) (by kernel_rfl) (by kernel_rfl) (fun _ _ _ h => h) (Or.inl ⟨by rfl, by intro W hSw; go_simp⟩) hHeld ?_
  try simp only [Act.put, List.setIfInBounds_toArray, List.set_cons_zero, List.set_cons_succ]
  refine wpAnyH_take (i := 4) (oi := { dst := some 7, op := Op.load 3 (Operand.tmp 6), type := 3, pos := "ref.go:74", after := #[{ on := 3, ground := Ground.data }], guard := none }) (v := .int .i64 e) rfl (by kernel_rfl) (by kernel_rfl) (by kernel_rfl) (fun _ _ _ h => h) (Or.inl ⟨by rfl, by intro W hSw; have h1 := hSw.e; rw [← He.out, Nat.zero_add] at h1; go_simp⟩) hHeld ?_
  try simp only [Act.put, List.setIfInBounds_toArray, List.set_cons_zero, List.set_cons_succ]
  refine wpAnyH_take (i := 6) (oi := { dst := some 9, op := Op.fieldAddr 25 (Operand.tmp 1) 2, type := 0, pos := "ref.go:74", after := #[], guard := none }) (v := .pointer (some ⟨w.heap.size, 2, none⟩)) rfl (by kernel_rfl) (by kernel_rfl) (by kernel_rfl) (fun _ _ _ h => h) (Or.inl ⟨by rfl, by intro W hSw; go_simp⟩) hHeld ?_
  try simp only [Act.put, List.setIfInBounds_toArray, List.set_cons_zero, List.set_cons_succ]
  refine wpAnyH_take (i := 7) (oi := { dst := some 10, op := Op.load 3 (Operand.tmp 9), type := 3, pos := "ref.go:74", after := #[{ on := 6, ground := Ground.data }], guard := none }) (v := .int .i64 s) rfl (by kernel_rfl) (by kernel_rfl) (by kernel_rfl) (fun _ _ _ h => h) (Or.inl ⟨by rfl, by intro W hSw; have h1 := hSw.s; rw [← Hs.out, Nat.zero_add] at h1; go_simp⟩) hHeld ?_
  try simp only [Act.put, List.setIfInBounds_toArray, List.set_cons_zero, List.set_cons_succ]
  refine wpAnyH_take (i := 9) (oi := { dst := some 12, op := Op.fieldAddr 25 (Operand.tmp 1) 3, type := 0, pos := "ref.go:74", after := #[], guard := none }) (v := .pointer (some ⟨w.heap.size, 3, none⟩)) rfl (by kernel_rfl) (by kernel_rfl) (by kernel_rfl) (fun _ _ _ h => h) (Or.inl ⟨by rfl, by intro W hSw; go_simp⟩) hHeld ?_
  try simp only [Act.put, List.setIfInBounds_toArray, List.set_cons_zero, List.set_cons_succ]
  refine wpAnyH_take (i := 10) (oi := { dst := some 13, op := Op.load 23 (Operand.tmp 12), type := 23, pos := "ref.go:74", after := #[{ on := 9, ground := Ground.data }], guard := none }) (v := .agg D) rfl (by kernel_rfl) (by kernel_rfl) (by kernel_rfl) (fun _ _ _ h => h) (yieldsIf_mid (by rfl) 23 (.tmp 12) rfl w.heap.size 3 rfl D _ (fun _ h => by rw [HDL.out]; have := h.d; rwa [Nat.zero_add] at this) Try.underlying23 rfl HSD.out) hHeld ?_
  try simp only [Act.put, List.setIfInBounds_toArray, List.set_cons_zero, List.set_cons_succ]
  refine wpAnyH_take (i := 12) (oi := { dst := some 15, op := Op.fieldAddr 25 (Operand.tmp 1) 4, type := 0, pos := "ref.go:74", after := #[], guard := none }) (v := .pointer (some ⟨w.heap.size, 35, none⟩)) rfl (by kernel_rfl) (by kernel_rfl) (by kernel_rfl) (fun _ _ _ h => h) (Or.inl ⟨by rfl, by intro W hSw; go_simp⟩) hHeld ?_
  try simp only [Act.put, List.setIfInBounds_toArray, List.set_cons_zero, List.set_cons_succ]
  refine wpAnyH_take (i := 13) (oi := { dst := some 16, op := Op.load 3 (Operand.tmp 15), type := 3, pos := "ref.go:74", after := #[{ on := 12, ground := Ground.data }], guard := none }) (v := .int .i64 t) rfl (by kernel_rfl) (by kernel_rfl) (by kernel_rfl) (fun _ _ _ h => h) (Or.inl ⟨by rfl, by intro W hSw; have h1 := hSw.t; rw [← Ht.out, Nat.zero_add] at h1; go_simp⟩) hHeld ?_
  try simp only [Act.put, List.setIfInBounds_toArray, List.set_cons_zero, List.set_cons_succ]
  refine wpAnyH_ready (rs := [2]) (by kernel_rfl) (by simp) ?_
  refine (AllReadyH.cons (o := { dst := some 5, op := Op.call { callee := Callee.value (Operand.func 27), args := #[Operand.tmp 4], argTypes := #[3] }, type := 9, pos := "ref.go:74", after := #[{ on := 1, ground := Ground.data }], guard := none }) rfl (fun K hK => ?_) AllReadyH.nil)
  go_simp
  refine (N1.out _).mono ?_
  rintro e w2 ⟨rfl, hb1⟩
  have HB1 := hidk (HB.out.drew.trans (hb1.mono HB.out.size))
  go_wp2_with fail
  refine hK.out _ _ (hHeld.keep hb1) (fun hHeld => ?_)
  clear hK K
  try simp only [Act.put, List.setIfInBounds_toArray, List.set_cons_zero, List.set_cons_succ]
  refine wpAnyH_ready (rs := [5]) (by kernel_rfl) (by simp) ?_
  refine (AllReadyH.cons (o := { dst := some 8, op := Op.call { callee := Callee.value (Operand.func 27), args := #[Operand.tmp 7], argTypes := #[3] }, type := 9, pos := "ref.go:74", after := #[{ on := 4, ground := Ground.data }, { on := 2, ground := Ground.chain }], guard := none }) rfl (fun K hK => ?_) AllReadyH.nil)
  go_simp
  refine (N2.out _).mono ?_
  rintro e w5 ⟨rfl, hb2⟩
  have HB2 := hidk (HB1.out.trans (hb2.mono HB1.out.size))
  go_wp2_with fail
  refine hK.out _ _ (hHeld.keep hb2) (fun hHeld => ?_)
  clear hK K
  try simp only [Act.put, List.setIfInBounds_toArray, List.set_cons_zero, List.set_cons_succ]
  refine wpAnyH_ready (rs := [8]) (by kernel_rfl) (by simp) ?_
  refine (AllReadyH.cons (o := { dst := some 11, op := Op.call { callee := Callee.value (Operand.func 27), args := #[Operand.tmp 10], argTypes := #[3] }, type := 9, pos := "ref.go:74", after := #[{ on := 7, ground := Ground.data }, { on := 5, ground := Ground.chain }], guard := none }) rfl (fun K hK => ?_) AllReadyH.nil)
  go_simp
  refine (N3.out _).mono ?_
  rintro e w8 ⟨rfl, hb3⟩
  have HB3 := hidk (HB2.out.trans (hb3.mono HB2.out.size))
  go_wp2_with fail
  refine hK.out _ _ (hHeld.keep hb3) (fun hHeld => ?_)
  clear hK K
  try simp only [Act.put, List.setIfInBounds_toArray, List.set_cons_zero, List.set_cons_succ]
  refine wpAnyH_ready (rs := [11]) (by kernel_rfl) (by simp) ?_
  refine (AllReadyH.cons (o := { dst := some 14, op := Op.call { callee := Callee.value (Operand.func 28), args := #[Operand.tmp 13], argTypes := #[23] }, type := 9, pos := "ref.go:74", after := #[{ on := 10, ground := Ground.data }, { on := 8, ground := Ground.chain }], guard := none }) rfl (fun K hK => ?_) AllReadyH.nil)
  go_simp
  refine (X4.out _).mono ?_
  rintro e w11 ⟨rfl, hb4⟩
  have HB4 := hidk (HB3.out.trans (hb4.mono HB3.out.size))
  go_wp2_with fail
  refine hK.out _ _ (hHeld.keep hb4) (fun hHeld => ?_)
  clear hK K
  try simp only [Act.put, List.setIfInBounds_toArray, List.set_cons_zero, List.set_cons_succ]
  refine wpAnyH_ready (rs := [14]) (by kernel_rfl) (by simp) ?_
  refine (AllReadyH.cons (o := { dst := some 17, op := Op.call { callee := Callee.value (Operand.func 27), args := #[Operand.tmp 16], argTypes := #[3] }, type := 9, pos := "ref.go:74", after := #[{ on := 13, ground := Ground.data }, { on := 11, ground := Ground.chain }], guard := none }) rfl (fun K hK => ?_) AllReadyH.nil)
  go_simp
  refine (N5.out _).mono ?_
  rintro e w14 ⟨rfl, hb5⟩
  have HB5 := hidk (HB4.out.trans (hb5.mono HB4.out.size))
  go_wp2_with fail
  refine hK.out _ _ (hHeld.keep hb5) (fun hHeld => ?_)
  clear hK K
  try simp only [Act.put, List.setIfInBounds_toArray, List.set_cons_zero, List.set_cons_succ]
  refine wpAnyH_ready (rs := [15]) (by kernel_rfl) (by simp) ?_
  refine (AllReadyH.cons (o := { dst := some 18, op := Op.buildSlice 61 5 #[(0, Operand.tmp 5), (1, Operand.tmp 8), (2, Operand.tmp 11), (3, Operand.tmp 14), (4, Operand.tmp 17)], type := 61, pos := "ref.go:74", after := #[{ on := 2, ground := Ground.data }, { on := 5, ground := Ground.data }, { on := 8, ground := Ground.data }, { on := 11, ground := Ground.data }, { on := 14, ground := Ground.data }], guard := none }) rfl (fun K hK => ?_) AllReadyH.nil)
  have HR14 := hidk hHeld
  go_simp
  refine hK.out _ _ (hHeld.keep ((Below.refl _ _).alloc (Nat.le_refl _) _)) (fun hHeld => ?_)
  clear hK K
  try simp only [Act.put, List.setIfInBounds_toArray, List.set_cons_zero, List.set_cons_succ]
  refine wpAnyH_ready (rs := [16]) (by kernel_rfl) (by simp) ?_
  refine (AllReadyH.cons (o := { dst := some 19, op := Op.call { callee := Callee.value (Operand.func 26), args := #[Operand.tmp 18], argTypes := #[61] }, type := 26, pos := "ref.go:74", after := #[{ on := 15, ground := Ground.data }, { on := 14, ground := Ground.chain }], guard := none }) rfl (fun K hK => ?_) AllReadyH.nil)
  go_simp
  refine (RW.out _).mono ?_
  rintro e w16 ⟨v, rfl, ho, hb6⟩
  have HOWN := hidk ho
  have HBF := hidk (HB5.out.trans (hb6.mono HB5.out.size))
  go_wp2_with fail
  refine hK.out _ _ (HR14.out.keep hb6) (fun hHeld => ?_)
  clear hK K
  try simp only [Act.put, List.setIfInBounds_toArray, List.set_cons_zero, List.set_cons_succ]
  refine wpAnyH_take (i := 17) (oi := { dst := some 2, op := Op.assign (Operand.tmp 19), type := 26, pos := "ref.go:74", after := #[{ on := 16, ground := Ground.data }, { on := 16, ground := Ground.chain }, { on := 0, ground := Ground.phase }, { on := 1, ground := Ground.phase }, { on := 2, ground := Ground.phase }, { on := 3, ground := Ground.phase }, { on := 4, ground := Ground.phase }, { on := 5, ground := Ground.phase }, { on := 6, ground := Ground.phase }, { on := 7, ground := Ground.phase }, { on := 8, ground := Ground.phase }, { on := 9, ground := Ground.phase }, { on := 10, ground := Ground.phase }, { on := 11, ground := Ground.phase }, { on := 12, ground := Ground.phase }, { on := 13, ground := Ground.phase }, { on := 14, ground := Ground.phase }, { on := 15, ground := Ground.phase }, { on := 16, ground := Ground.phase }], guard := none }) (v := v) rfl (by kernel_rfl) (by kernel_rfl) (by kernel_rfl) (fun _ _ _ h => h) (Or.inl ⟨by rfl, by intro W hSw; go_simp⟩) hHeld ?_
  try simp only [Act.put, List.setIfInBounds_toArray, List.set_cons_zero, List.set_cons_succ]
  refine wpAnyH_done (by kernel_rfl) ?_ _
  go_wp2
  go_ret
  exact ⟨_, rfl, own_lower HOWN.out HB5.out.size, HBF.out⟩
end Go.Proofs.Ytdnhnjimhbbabaa

/- What the document's May, BytesSigned, PutSigned and Tag answer. -/
namespace Go.Proofs.Ytdnhnjimhbbabaa
open Go.RowKit Sums Nums
set_option linter.unusedVariables false
set_option linter.unusedSimpArgs false
set_option maxRecDepth 100000
/-- What the parts of a signed head's row read as. -/
structure SRow (W : World) (g o : Nat) (s : SgT) : Prop where
  h : W.rangeAt g o (hcells s.h)
  n : W.cell? ⟨g, o + 36, none⟩ = some (.int .i64 s.n)
  g : W.rangeAt g (o + 37) (cellsOf s.g)
theorem SRow.keep {W W' : World} {g o : Nat} {s : SgT} (hr : SRow W g o s) (hb : Below W.heap.size W W') : SRow W' g o s := ⟨range_keep hb hr.h, cell_keep hb hr.n, range_keep hb hr.g⟩
end Go.Proofs.Ytdnhnjimhbbabaa

/- Structs of numbers and digests: heads and signed heads, built and compared. -/
namespace Go.Proofs.Ytdnhnjimhbbabaa
open Go.RowKit Sums Nums
set_option linter.unusedVariables false
set_option linter.unusedSimpArgs false
set_option maxRecDepth 100000
/-- A struct that is built, where the order is drawn. -/
theorem yieldsIf_build {P : Program} {ops : Array Oper} {S : World → Prop} {o : Oper} {a : Act} (hw : Region.wanted o (yielded ops a.tmps) = true) (t : TypeId) (parts : Array (Nat × Operand)) (ho : o.op = .build t parts) (vals : Array (Nat × Value)) (hv : (parts.toList.map fun p => (p.1, a.eval p.2)) = vals.toList)
    (v : Value) (hrun : ∀ W, (Instr.build t vals).run P W = .ok v W) : YieldsIf P ops S o v a :=
  .inl ⟨hw, fun w _ => by
    have hv' : (parts.map fun (i, x) => (i, a.eval x)) = vals := by
      apply Array.ext'
      rw [Array.toList_map, ← hv]
    subst hv'
    unfold execOp
    simp only [ho, Sem.run_bind, hrun, Result.andThen_ok]
    rfl⟩
def zeroH : HdT := ⟨0, 0, 0, List.replicate 32 0, 0⟩
theorem infoH : (Try.prog.info? 25).map (fun i => (i.zero, i.size)) = some (some (.agg (hcells zeroH).toArray), 36) := by kernel_rfl
theorem builtH0 : Try.prog.built 25 [] = some (hcells zeroH).toArray := by kernel_rfl
theorem one_cells (h : HdT) : (hcells h).toArray.all (·.oneCell') = true := by
  rw [List.all_toArray, List.all_eq_true]
  intro v hv
  unfold hcells at hv
  simp only [List.mem_append, List.mem_cons, List.not_mem_nil, or_false] at hv
  rcases hv with ((rfl | rfl | rfl) | hv) | rfl
  · rfl
  · rfl
  · rfl
  · exact cellsOf_one _ v hv
  · rfl
theorem head_row5 (h : HdT) (hd : h.d.length = 32) : ∃ C : Array Value, Hid (C = (hcells h).toArray) ∧ Hid ((Try.prog.info? 25).map (·.size) = some C.size) ∧ Hid (C.all (·.oneCell') = true) ∧ Hid (C.size = 36) := by
  refine ⟨(hcells h).toArray, hidk rfl, ?_, one_cells h, ?_⟩
  · show _ = _
    rw [sizeH]; simp [hcells_length h hd]
  · show _ = _
    simp [hcells_length h hd]
theorem noughtsH : ∃ Z : Array Value, Hid (Z = (hcells zeroH).toArray) ∧ Hid ((Try.prog.info? 25).map (fun i => (i.zero, i.size)) = some (some (.agg Z), Z.size)) ∧ Hid (Try.prog.built 25 [] = some Z) ∧ Hid (Z.size = 36) :=
  ⟨(hcells zeroH).toArray, hidk rfl, infoH, builtH0, hidk rfl⟩
end Go.Proofs.Ytdnhnjimhbbabaa

/- What the document's Tag, Sign and Verify answer. -/
namespace Go.Proofs.Ytdnhnjimhbbabaa
open Go.RowKit Sums Nums
set_option linter.unusedVariables false
set_option linter.unusedSimpArgs false
set_option maxRecDepth 100000

end Go.Proofs.Ytdnhnjimhbbabaa
