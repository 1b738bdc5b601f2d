/- Texts of our own that the row of HeadLays leans on, part 2. -/
import Derived.Test.YtdnhnjimhbbabaaDoorHeadLaysJ1
import Derived.Test.YtdnhnjimhbbabaaDoorRows
import Derived.RangeFuncNested
import Derived.RangeFuncBound
import Derived.RangeFuncCalls
import Derived.RangeFuncLeaves
import Derived.RangeFuncBox
import Derived.Shelf.Abstract
import Derived.Shelf.RegionOpen
import Derived.WalkKit
import Derived.OwnWalkIn
import Derived.TacticsInMore
import Derived.LoopNIn
import Derived.LoopIn
import Derived.ProofKit
import Derived.OpenShut
import Derived.LaidMore
import Derived.Lay
import Derived.Lib.BufferWrite

/- What the document's Digest and Row answer. -/
namespace Go.Proofs.YtdnhnjimhbbabaaDoor
open Go.RowKit Sums Nums
set_option linter.unusedVariables false
set_option linter.unusedSimpArgs false
set_option maxRecDepth 100000
/-! A row of the tags from 1 on. -/
theorem tagsN_succ (n : Nat) : tagsN (n + 1) = tagsN n ++ [(n : Int) + 1] := by unfold tagsN; rw [List.range_succ, List.map_append]; rfl
theorem fieldsN_snoc (l : List ByteArray) (x : ByteArray) : fieldsN (l ++ [x]) = fieldsN l ++ [((l.length : Int) + 1, x)] := by
  unfold fieldsN
  rw [List.length_append, List.length_singleton, tagsN_succ, List.zip_append (by rw [tagsN_length])]
  rfl
theorem row_next (l : List ByteArray) (k : Nat) (hk : k < l.length) : rowB (fieldsN (l.take (k + 1))) = rowB (fieldsN (l.take k)) ++ fieldBytesI ((k : Int) + 1) (l[k]).data.toList := by
  rw [List.take_add_one, List.getElem?_eq_getElem hk]
  simp only [Option.toList_some]
  rw [fieldsN_snoc, rowB_append, List.length_take, Nat.min_eq_left (by omega)]
  simp [rowB]
theorem rowB_small : ∀ (fs : List (Int × ByteArray)), (∀ f ∈ fs, f.2.size ≤ 65536) → (rowB fs).length ≤ 65540 * fs.length
  | [], _ => by simp [rowB]
  | f :: r, h => by
    have h1 := h f (by simp)
    have h2 := rowB_small r (fun x hx => h x (List.mem_cons_of_mem _ hx))
    show (fieldBytesI f.1 f.2.data.toList ++ rowB r).length ≤ _
    rw [List.length_append, fieldBytesI_length]
    have : f.2.data.toList.length = f.2.size := rfl
    simp only [List.length_cons]
    omega
theorem fieldsN_mem {l : List ByteArray} {f : Int × ByteArray} (h : f ∈ fieldsN l) : f.2 ∈ l := by
  unfold fieldsN at h
  exact (List.of_mem_zip h).2
theorem fieldsN_length (l : List ByteArray) : (fieldsN l).length = l.length := by
  unfold fieldsN
  rw [List.length_zip, tagsN_length, Nat.min_self]
set_option maxHeartbeats 4000000 in
theorem refRow_any (a : Option Addr) (len cap : Nat) (l : List ByteArray) (w : World) (hT : Texts w a len l) (hl : len ≤ 200) (hs : ∀ s ∈ l, s.size ≤ 65536) :
    Calls Tryd.prog 60 #[.slice a len cap] w fun e w' => ∃ v, e = .returned v ∧ w'.ownsRow w.heap.size 5 1 v (rowB (fieldsN l)).length (cellsOf (rowB (fieldsN l))) ∧ Below w.heap.size w w' := by
  have hlen : l.length = len := hT.1
  have HT := hidk hT
  have HS := hidk hs
  have HN0 : Hid (w.ownsRow w.heap.size 5 1 (.slice none 0 0) (rowB (fieldsN (l.take 0))).length (cellsOf (rowB (fieldsN (l.take 0))))) := World.ownsRow_nil _ _ _ _
  clear hT hs
  go_enter Tryd.func60, Tryd.ntmps60
  go_wp2
  go_loopw [3, 4] (fun v i wr => ∃ k : Nat, k ≤ len ∧ i = .int .i64 k ∧ Hid (wr.ownsRow w.heap.size 5 1 v (rowB (fieldsN (l.take k))).length (cellsOf (rowB (fieldsN (l.take k)))) ∧ Below w.heap.size w wr)) (fun _ i _ => len - (intOf i).toNat)
  case atStart => exact ⟨0, by omega, rfl, HN0.out, Below.refl _ _⟩
  case round =>
    clear HN0
    obtain ⟨k, hk, rfl, HO⟩ := hrel
    by_cases hlt : k < len
    · have hkl : k < l.length := by omega
      obtain ⟨p, HP⟩ : ∃ p, Hid (p = l[k]) := ⟨l[k], hidk rfl⟩
      obtain ⟨b, off, rfl, hcell⟩ : ∃ b off, a = some ⟨b, off, none⟩ ∧ wr.cell? ⟨b, off + k, none⟩ = some (.string p) := by
        rcases (HT.out.keep HO.out.2).2 with h0 | ⟨b, off, e, _, hc⟩
        · omega
        · exact ⟨b, off, e, by rw [hc k hkl, HP.out]⟩
      have hps : p.size ≤ 65536 := by rw [HP.out]; exact HS.out _ (List.getElem_mem hkl)
      have hlt' : (k : Int) < (len : Int) := by omega
      have BY : Hid (Calls Tryd.prog 76 #[.int .i64 ((k : Int) + 1), .string p] wr fun e w' => ∃ v', e = .returned v' ∧ w'.ownsRow wr.heap.size 5 1 v' (fieldBytesI ((k : Int) + 1) p.data.toList).length (cellsOf (fieldBytesI ((k : Int) + 1) p.data.toList)) ∧ Below wr.heap.size wr w') := by
        have := bytes_any (k + 1) p wr hps (by omega)
        rw [show (((k + 1 : Nat)) : Int) = (k : Int) + 1 by omega] at this
        rw [fieldBytesI_nat _ _ (by omega), show ((k : Int) + 1).toNat = k + 1 by omega]
        exact this
      have hbnd : (rowB (fieldsN (l.take k))).length ≤ 65540 * 200 := by
        have h1 := rowB_small (fieldsN (l.take k)) (fun f hf => HS.out _ (List.mem_of_mem_take (fieldsN_mem hf)))
        rw [fieldsN_length, List.length_take] at h1
        have : 65540 * min k l.length ≤ 65540 * 200 := Nat.mul_le_mul_left _ (by omega)
        omega
      have hnx := row_next l k hkl
      rw [← HP.out] at hnx
      have HNX := hidk hnx
      have wrk := wrap_int ((k : Int) + 1) (by omega) (by omega)
      clear hnx
      go_wp2_with fail
      refine BY.out.mono ?_
      rintro e w1 ⟨v1, rfl, ho1, hb1⟩
      obtain ⟨a1, c1, rfl, hr1⟩ := reads_own ho1
      have hfl : (fieldBytesI ((k : Int) + 1) p.data.toList).length ≤ 65540 := by rw [fieldBytesI_length]; have : p.data.toList.length = p.size := rfl; omega
      have hoK : w1.ownsRow w.heap.size 5 1 u3 (rowB (fieldsN (l.take k))).length (cellsOf (rowB (fieldsN (l.take k)))) := HO.out.1.kept (row := none) ⟨hb1.os, hb1.tape, hb1.output, hb1.size, fun j hj _ => hb1.block j hj⟩ (by cases hv : u3.ownBlock <;> simp)
      have hBw1 : Below w.heap.size w w1 := HO.out.2.trans (hb1.mono HO.out.2.size)
      obtain ⟨v2, w2, hrun, ho2, hg2⟩ := run_append_grows hr1 w.heap.size _ 35 u3 _ hoK hBw1.size (by omega)
      have HO2 : Hid (w2.ownsRow w.heap.size 5 1 v2 (rowB (fieldsN (l.take (k + 1)))).length (cellsOf (rowB (fieldsN (l.take (k + 1))))) ∧ Below w.heap.size w w2) := by
        refine ⟨?_, hBw1.grown hg2 hBw1.size (fun q e => (hoK.lt q e).1)⟩
        rw [HNX.out, List.length_append]
        exact ho2
      have HRUN := hidk hrun
      clear hrun ho2 hg2 hoK hBw1 ho1 hr1 hb1 HO BY HNX
      go_wp2_with (first
        | (show wpList _ _ _ ({ dst := some 21, op := _, type := _, pos := _, after := _, guard := _ } :: _) _ _; refine wpList_append_run rfl (.tmp 19) (.tmp 20) 35 35 rfl _ _ _ w2 rfl rfl HRUN.out ?_; try simp only [Act.put, List.setIfInBounds_toArray, List.set_cons_zero, List.set_cons_succ])
        | fail)
      go_roundw
      case rel => exact ⟨k + 1, by omega, by go_num, HO2⟩
      case measure => simp [intOf]; omega
    · obtain rfl : k = len := by omega
      have HO' := HO.out
      rw [List.take_of_length_le (by omega)] at HO'
      have HF := hidk HO'
      clear HO' HO
      go_wp2
      go_ret
      exact ⟨_, rfl, HF.out⟩
end Go.Proofs.YtdnhnjimhbbabaaDoor

/- What the document's Text, Leaf and Knot answer. -/
namespace Go.Proofs.YtdnhnjimhbbabaaDoor
open Go.RowKit Sums
set_option linter.unusedVariables false
set_option linter.unusedSimpArgs false
set_option maxHeartbeats 1000000 in
theorem refText_any (l : List UInt8) (hl : l.length = 32) (w : World) (x : ByteArray) (HX : Hid (x = ⟨l.toArray⟩)) (A : List Value) (HAL : Hid (A = cellsOf l)) :
    Calls Tryd.prog 62 #[.agg A.toArray] w fun e w' => e = .returned (.string x) ∧ Below w.heap.size w w' := by
  have c0 : ∀ W, W.rangeAt w.heap.size 0 A → Sem.run Tryd.prog (convert 35 9 (.slice (some ⟨w.heap.size, 0, none⟩) 32 32)) W = .ok (.string x) W := fun W h => by
    rw [HX.out]; exact conv_dig W _ l hl (by rw [← HAL.out]; exact h)
  have s0 := fun W => slice_all W w.heap.size
  have c1 := c0 (w.alloc (.cells A.toArray 24)) (range_row (heap_alloc_new w _))
  clear c0
  go_enter Tryd.func62, Tryd.ntmps62
  go_wp2
  go_ret
  exact ⟨rfl, (Below.refl _ _).alloc (Nat.le_refl _) _⟩
end Go.Proofs.YtdnhnjimhbbabaaDoor

/- The keeper's Kept answers true where lent bytes and the marks behind them are as they were. -/
namespace Go.Proofs.YtdnhnjimhbbabaaDoor
open Go.RowKit Nums
set_option maxRecDepth 100000
theorem conv_reads {w : World} {a : Option Addr} {len cap : Nat} {l : List UInt8} (h : Reads w a len cap l) :
    Sem.run Tryd.prog (convert 35 9 (.slice a len cap)) w = .ok (.string ⟨l.toArray⟩) w := by
  obtain ⟨h1, h2, h3, ⟨rfl, h0⟩ | ⟨ad, rfl, h0⟩ | ⟨b, off, rfl, hlt, hc⟩⟩ := h
  · have hl : l = [] := List.eq_nil_of_length_eq_zero (by omega)
    subst hl
    exact run_convert_bytes_nil (P := Tryd.prog) w 35 5 Tryd.underlying35 Tryd.underlying5 len cap 9 Tryd.underlying9
  · subst h1
    exact run_convert_bytes_back (P := Tryd.prog) w 35 9 5 ad cap l Tryd.underlying35 Tryd.underlying5 Tryd.underlying9 (fun j hj => by omega)
  · subst h1
    exact run_convert_bytes_back (P := Tryd.prog) w 35 9 5 ⟨b, off, none⟩ cap l Tryd.underlying35 Tryd.underlying5 Tryd.underlying9 (fun j hj => by rw [add_plain]; exact hc j hj)
end Go.Proofs.YtdnhnjimhbbabaaDoor

/- What the document's Bytes, May, BytesSigned and Tag answer. -/
namespace Go.Proofs.YtdnhnjimhbbabaaDoor
open Go.RowKit Sums Nums
set_option linter.unusedVariables false
set_option linter.unusedSimpArgs false
set_option maxRecDepth 100000
theorem cell_keep {W W' : World} {p : Addr} {v : Value} (hb : Below W.heap.size W W') (h : W.cell? p = some v) : W'.cell? p = some v := by
  rw [hb.cell (World.block_lt_of_cell? _ _ h)]; exact h
theorem HRow.keep {W W' : World} {g o : Nat} {h : HdT} (hr : HRow W g o h) (hb : Below W.heap.size W W') : HRow W' g o h :=
  ⟨cell_keep hb hr.r, cell_keep hb hr.e, cell_keep hb hr.s, range_keep hb hr.d, cell_keep hb hr.t⟩
theorem sizeH : (Tryd.prog.info? 26).map (·.size) = some 36 := by kernel_rfl
theorem sizeS : (Tryd.prog.info? 28).map (·.size) = some 69 := by kernel_rfl
theorem head_row (h : HdT) (hd : h.d.length = 32) : ∃ C : Array Value, Hid (C = (hcells h).toArray) ∧ Hid ((Tryd.prog.info? 26).map (·.size) = some C.size) ∧ Hid (C.size = 36) := by
  refine ⟨(hcells h).toArray, hidk rfl, ?_, ?_⟩
  · show _ = _
    rw [sizeH]; simp [hcells_length h hd]
  · show _ = _
    simp [hcells_length h hd]
set_option maxHeartbeats 8000000 in
theorem refHB_any (h : HdT) (hd : h.d.length = 32) (w : World) (C : Array Value) (HC : Hid (C = (hcells h).toArray)) :
    Calls Tryd.prog 55 #[.agg C] w fun e w' => ∃ v, e = .returned v ∧ w'.ownsRow w.heap.size 5 1 v (headB h).length (cellsOf (headB h)) ∧ Below w.heap.size w w' := by
  obtain ⟨r, Hr⟩ : ∃ r, Hid (r = h.r) := ⟨h.r, hidk rfl⟩
  obtain ⟨e, He⟩ : ∃ r, Hid (r = h.e) := ⟨h.e, hidk rfl⟩
  obtain ⟨s, Hs⟩ : ∃ r, Hid (r = h.s) := ⟨h.s, hidk rfl⟩
  obtain ⟨t, Ht⟩ : ∃ r, Hid (r = h.t) := ⟨h.t, hidk rfl⟩
  obtain ⟨n1, Hn1⟩ : ∃ s : ByteArray, Hid (s = nOf r) := ⟨nOf r, hidk rfl⟩
  obtain ⟨n2, Hn2⟩ : ∃ s : ByteArray, Hid (s = nOf e) := ⟨nOf e, hidk rfl⟩
  obtain ⟨n3, Hn3⟩ : ∃ x : ByteArray, Hid (x = nOf s) := ⟨nOf s, hidk rfl⟩
  obtain ⟨n5, Hn5⟩ : ∃ s : ByteArray, Hid (s = nOf t) := ⟨nOf t, hidk rfl⟩
  obtain ⟨x4, HX⟩ : ∃ x : ByteArray, Hid (x = ⟨h.d.toArray⟩) := ⟨⟨h.d.toArray⟩, hidk rfl⟩
  obtain ⟨D, HD, HSD, H1D, H32D⟩ := dig_row' h.d hd
  have N1 : Hid (∀ W, Calls Tryd.prog 61 #[.int .i64 r] W fun e w' => e = .returned (.string n1) ∧ Below W.heap.size W w') := fun W => by rw [Hn1.out]; exact refNum_any r W
  have N2 : Hid (∀ W, Calls Tryd.prog 61 #[.int .i64 e] W fun e w' => e = .returned (.string n2) ∧ Below W.heap.size W w') := fun W => by rw [Hn2.out]; exact refNum_any e W
  have N3 : Hid (∀ W, Calls Tryd.prog 61 #[.int .i64 s] W fun e w' => e = .returned (.string n3) ∧ Below W.heap.size W w') := fun W => by rw [Hn3.out]; exact refNum_any s W
  have N5 : Hid (∀ W, Calls Tryd.prog 61 #[.int .i64 t] W fun e w' => e = .returned (.string n5) ∧ Below W.heap.size W w') := fun W => by rw [Hn5.out]; exact refNum_any t W
  have X4 : Hid (∀ W, Calls Tryd.prog 62 #[.agg D] W fun e w' => e = .returned (.string x4) ∧ Below W.heap.size W w') := fun W => by
    have := refText_any h.d hd W x4 HX D.toList (by show _ = _; rw [HD.out])
    simpa using this
  have hL5 : hL h = [n1, n2, n3, x4, n5] := by rw [Hn1.out, Hn2.out, Hn3.out, Hn5.out, HX.out, Hr.out, He.out, Hs.out, Ht.out]; rfl
  have RW : Hid (∀ W, Calls Tryd.prog 60 #[.slice (some ⟨W.heap.size, 0, none⟩) 5 5] (W.alloc (.cells #[.string n1, .string n2, .string n3, .string x4, .string n5] 9)) fun e w' => ∃ v, e = .returned v ∧ w'.ownsRow W.heap.size 5 1 v (headB h).length (cellsOf (headB h)) ∧ Below W.heap.size W w') := fun W => by
    have h1 : ∀ y ∈ [n1, n2, n3, x4, n5], y.size ≤ 65536 := fun y hy => by
      rw [← hL5] at hy
      unfold hL at hy
      simp only [List.mem_cons, List.not_mem_nil, or_false] at hy
      rcases hy with rfl | rfl | rfl | rfl | rfl
      · exact Nat.le_trans (nOf_size _) (by omega)
      · exact Nat.le_trans (nOf_size _) (by omega)
      · exact Nat.le_trans (nOf_size _) (by omega)
      · rw [bA_size]; omega
      · exact Nat.le_trans (nOf_size _) (by omega)
    refine (refRow_any (some ⟨W.heap.size, 0, none⟩) 5 5 [n1, n2, n3, x4, n5] (W.alloc (.cells #[.string n1, .string n2, .string n3, .string x4, .string n5] 9)) (texts_new W [n1, n2, n3, x4, n5] 9) (by omega) h1).mono ?_
    rintro e w' ⟨v, he, ho, hb⟩
    rw [← hL5] at ho
    exact ⟨v, he, own_lower ho (by simp), ((Below.refl _ _).alloc (Nat.le_refl _) _).trans (hb.mono (by simp))⟩
  have HR := hidk (hrow_new w h hd C HC 26)
  have HB : Hid (Below w.heap.size w (w.alloc (.cells C 26))) := (Below.refl _ _).alloc (Nat.le_refl _) _
  have HDL : Hid (D.toList = cellsOf h.d) := by show _ = _; rw [HD.out]
  clear HC HX hL5 HD Hn1 Hn2 Hn3 Hn5
  go_enter Tryd.func55, Tryd.ntmps55
  go_wp2
  refine wp_region_held_drew (S := (fun W => HRow W w.heap.size 0 h)) (by kernel_rfl) (show HRow (w.alloc (.cells C 26)).drew w.heap.size 0 h from HR.out.keep (Below.refl _ _).drew) (fun hHeld => ?_)
  refine wpAnyH_take (i := 0) (oi := { dst := some 3, op := Op.fieldAddr 26 (Operand.tmp 1) 0, type := 0, pos := "ref.go:74", after := #[], guard := none }) (v := .pointer (some ⟨w.heap.size, 0, none⟩)) rfl (by kernel_rfl) (by kernel_rfl) (by kernel_rfl) (fun _ _ _ h => h) (Or.inl ⟨by rfl, by intro W hSw; go_simp⟩) hHeld ?_
  try simp only [Act.put, List.setIfInBounds_toArray, List.set_cons_zero, List.set_cons_succ]
  refine wpAnyH_take (i := 1) (oi := { dst := some 4, op := Op.load 3 (Operand.tmp 3), type := 3, pos := "ref.go:74", after := #[{ on := 0, ground := Ground.data }], guard := none }) (v := .int .i64 r) rfl (by kernel_rfl) (by kernel_rfl) (by kernel_rfl) (fun _ _ _ h => h) (Or.inl ⟨by rfl, by intro W hSw; have h1 := hSw.r; rw [← Hr.out] at h1; go_simp⟩) hHeld ?_
  try simp only [Act.put, List.setIfInBounds_toArray, List.set_cons_zero, List.set_cons_succ]
  refine wpAnyH_take (i := 3) (oi := { dst := some 6, op := Op.fieldAddr 26 (Operand.tmp 1) 1, type := 0, pos := "ref.go:74", after := #[], guard := none }) (v := .pointer (some ⟨w.heap.size, 1, none⟩)) rfl (by kernel_rfl) (by kernel_rfl) (by kernel_rfl) (fun _ _ _ h => h) (Or.inl ⟨by rfl, by intro W hSw; go_simp⟩) hHeld ?_
  try simp only [Act.put, List.setIfInBounds_toArray, List.set_cons_zero, List.set_cons_succ]
  refine wpAnyH_take (i := 4) (oi := { dst := some 7, op := Op.load 3 (Operand.tmp 6), type := 3, pos := "ref.go:74", after := #[{ on := 3, ground := Ground.data }], guard := none }) (v := .int .i64 e) rfl (by kernel_rfl) (by kernel_rfl) (by kernel_rfl) (fun _ _ _ h => h) (Or.inl ⟨by rfl, by intro W hSw; have h1 := hSw.e; rw [← He.out, Nat.zero_add] at h1; go_simp⟩) hHeld ?_
  try simp only [Act.put, List.setIfInBounds_toArray, List.set_cons_zero, List.set_cons_succ]
  refine wpAnyH_take (i := 6) (oi := { dst := some 9, op := Op.fieldAddr 26 (Operand.tmp 1) 2, type := 0, pos := "ref.go:74", after := #[], guard := none }) (v := .pointer (some ⟨w.heap.size, 2, none⟩)) rfl (by kernel_rfl) (by kernel_rfl) (by kernel_rfl) (fun _ _ _ h => h) (Or.inl ⟨by rfl, by intro W hSw; go_simp⟩) hHeld ?_
  try simp only [Act.put, List.setIfInBounds_toArray, List.set_cons_zero, List.set_cons_succ]
  refine wpAnyH_take (i := 7) (oi := { dst := some 10, op := Op.load 3 (Operand.tmp 9), type := 3, pos := "ref.go:74", after := #[{ on := 6, ground := Ground.data }], guard := none }) (v := .int .i64 s) rfl (by kernel_rfl) (by kernel_rfl) (by kernel_rfl) (fun _ _ _ h => h) (Or.inl ⟨by rfl, by intro W hSw; have h1 := hSw.s; rw [← Hs.out, Nat.zero_add] at h1; go_simp⟩) hHeld ?_
  try simp only [Act.put, List.setIfInBounds_toArray, List.set_cons_zero, List.set_cons_succ]
  refine wpAnyH_take (i := 9) (oi := { dst := some 12, op := Op.fieldAddr 26 (Operand.tmp 1) 3, type := 0, pos := "ref.go:74", after := #[], guard := none }) (v := .pointer (some ⟨w.heap.size, 3, none⟩)) rfl (by kernel_rfl) (by kernel_rfl) (by kernel_rfl) (fun _ _ _ h => h) (Or.inl ⟨by rfl, by intro W hSw; go_simp⟩) hHeld ?_
  try simp only [Act.put, List.setIfInBounds_toArray, List.set_cons_zero, List.set_cons_succ]
  refine wpAnyH_take (i := 10) (oi := { dst := some 13, op := Op.load 24 (Operand.tmp 12), type := 24, pos := "ref.go:74", after := #[{ on := 9, ground := Ground.data }], guard := none }) (v := .agg D) rfl (by kernel_rfl) (by kernel_rfl) (by kernel_rfl) (fun _ _ _ h => h) (yieldsIf_mid (by rfl) 24 (.tmp 12) rfl w.heap.size 3 rfl D _ (fun _ h => by rw [HDL.out]; have := h.d; rwa [Nat.zero_add] at this) Tryd.underlying24 rfl HSD.out) hHeld ?_
  try simp only [Act.put, List.setIfInBounds_toArray, List.set_cons_zero, List.set_cons_succ]
  refine wpAnyH_take (i := 12) (oi := { dst := some 15, op := Op.fieldAddr 26 (Operand.tmp 1) 4, type := 0, pos := "ref.go:74", after := #[], guard := none }) (v := .pointer (some ⟨w.heap.size, 35, none⟩)) rfl (by kernel_rfl) (by kernel_rfl) (by kernel_rfl) (fun _ _ _ h => h) (Or.inl ⟨by rfl, by intro W hSw; go_simp⟩) hHeld ?_
  try simp only [Act.put, List.setIfInBounds_toArray, List.set_cons_zero, List.set_cons_succ]
  refine wpAnyH_take (i := 13) (oi := { dst := some 16, op := Op.load 3 (Operand.tmp 15), type := 3, pos := "ref.go:74", after := #[{ on := 12, ground := Ground.data }], guard := none }) (v := .int .i64 t) rfl (by kernel_rfl) (by kernel_rfl) (by kernel_rfl) (fun _ _ _ h => h) (Or.inl ⟨by rfl, by intro W hSw; have h1 := hSw.t; rw [← Ht.out, Nat.zero_add] at h1; go_simp⟩) hHeld ?_
  try simp only [Act.put, List.setIfInBounds_toArray, List.set_cons_zero, List.set_cons_succ]
  refine wpAnyH_ready (rs := [2]) (by kernel_rfl) (by simp) ?_
  refine (AllReadyH.cons (o := { dst := some 5, op := Op.call { callee := Callee.value (Operand.func 61), args := #[Operand.tmp 4], argTypes := #[3] }, type := 9, pos := "ref.go:74", after := #[{ on := 1, ground := Ground.data }], guard := none }) rfl (fun K hK => ?_) AllReadyH.nil)
  go_simp
  refine (N1.out _).mono ?_
  rintro e w2 ⟨rfl, hb1⟩
  have HB1 := hidk (HB.out.drew.trans (hb1.mono HB.out.size))
  go_wp2_with fail
  refine hK.out _ _ (hHeld.keep hb1) (fun hHeld => ?_)
  clear hK K
  try simp only [Act.put, List.setIfInBounds_toArray, List.set_cons_zero, List.set_cons_succ]
  refine wpAnyH_ready (rs := [5]) (by kernel_rfl) (by simp) ?_
  refine (AllReadyH.cons (o := { dst := some 8, op := Op.call { callee := Callee.value (Operand.func 61), args := #[Operand.tmp 7], argTypes := #[3] }, type := 9, pos := "ref.go:74", after := #[{ on := 4, ground := Ground.data }, { on := 2, ground := Ground.chain }], guard := none }) rfl (fun K hK => ?_) AllReadyH.nil)
  go_simp
  refine (N2.out _).mono ?_
  rintro e w5 ⟨rfl, hb2⟩
  have HB2 := hidk (HB1.out.trans (hb2.mono HB1.out.size))
  go_wp2_with fail
  refine hK.out _ _ (hHeld.keep hb2) (fun hHeld => ?_)
  clear hK K
  try simp only [Act.put, List.setIfInBounds_toArray, List.set_cons_zero, List.set_cons_succ]
  refine wpAnyH_ready (rs := [8]) (by kernel_rfl) (by simp) ?_
  refine (AllReadyH.cons (o := { dst := some 11, op := Op.call { callee := Callee.value (Operand.func 61), args := #[Operand.tmp 10], argTypes := #[3] }, type := 9, pos := "ref.go:74", after := #[{ on := 7, ground := Ground.data }, { on := 5, ground := Ground.chain }], guard := none }) rfl (fun K hK => ?_) AllReadyH.nil)
  go_simp
  refine (N3.out _).mono ?_
  rintro e w8 ⟨rfl, hb3⟩
  have HB3 := hidk (HB2.out.trans (hb3.mono HB2.out.size))
  go_wp2_with fail
  refine hK.out _ _ (hHeld.keep hb3) (fun hHeld => ?_)
  clear hK K
  try simp only [Act.put, List.setIfInBounds_toArray, List.set_cons_zero, List.set_cons_succ]
  refine wpAnyH_ready (rs := [11]) (by kernel_rfl) (by simp) ?_
  refine (AllReadyH.cons (o := { dst := some 14, op := Op.call { callee := Callee.value (Operand.func 62), args := #[Operand.tmp 13], argTypes := #[24] }, type := 9, pos := "ref.go:74", after := #[{ on := 10, ground := Ground.data }, { on := 8, ground := Ground.chain }], guard := none }) rfl (fun K hK => ?_) AllReadyH.nil)
  go_simp
  refine (X4.out _).mono ?_
  rintro e w11 ⟨rfl, hb4⟩
  have HB4 := hidk (HB3.out.trans (hb4.mono HB3.out.size))
  go_wp2_with fail
  refine hK.out _ _ (hHeld.keep hb4) (fun hHeld => ?_)
  clear hK K
  try simp only [Act.put, List.setIfInBounds_toArray, List.set_cons_zero, List.set_cons_succ]
  refine wpAnyH_ready (rs := [14]) (by kernel_rfl) (by simp) ?_
  refine (AllReadyH.cons (o := { dst := some 17, op := Op.call { callee := Callee.value (Operand.func 61), args := #[Operand.tmp 16], argTypes := #[3] }, type := 9, pos := "ref.go:74", after := #[{ on := 13, ground := Ground.data }, { on := 11, ground := Ground.chain }], guard := none }) rfl (fun K hK => ?_) AllReadyH.nil)
  go_simp
  refine (N5.out _).mono ?_
  rintro e w14 ⟨rfl, hb5⟩
  have HB5 := hidk (HB4.out.trans (hb5.mono HB4.out.size))
  go_wp2_with fail
  refine hK.out _ _ (hHeld.keep hb5) (fun hHeld => ?_)
  clear hK K
  try simp only [Act.put, List.setIfInBounds_toArray, List.set_cons_zero, List.set_cons_succ]
  refine wpAnyH_ready (rs := [15]) (by kernel_rfl) (by simp) ?_
  refine (AllReadyH.cons (o := { dst := some 18, op := Op.buildSlice 76 5 #[(0, Operand.tmp 5), (1, Operand.tmp 8), (2, Operand.tmp 11), (3, Operand.tmp 14), (4, Operand.tmp 17)], type := 76, pos := "ref.go:74", after := #[{ on := 2, ground := Ground.data }, { on := 5, ground := Ground.data }, { on := 8, ground := Ground.data }, { on := 11, ground := Ground.data }, { on := 14, ground := Ground.data }], guard := none }) rfl (fun K hK => ?_) AllReadyH.nil)
  have HR14 := hidk hHeld
  go_simp
  refine hK.out _ _ (hHeld.keep ((Below.refl _ _).alloc (Nat.le_refl _) _)) (fun hHeld => ?_)
  clear hK K
  try simp only [Act.put, List.setIfInBounds_toArray, List.set_cons_zero, List.set_cons_succ]
  refine wpAnyH_ready (rs := [16]) (by kernel_rfl) (by simp) ?_
  refine (AllReadyH.cons (o := { dst := some 19, op := Op.call { callee := Callee.value (Operand.func 60), args := #[Operand.tmp 18], argTypes := #[76] }, type := 35, pos := "ref.go:74", after := #[{ on := 15, ground := Ground.data }, { on := 14, ground := Ground.chain }], guard := none }) rfl (fun K hK => ?_) AllReadyH.nil)
  go_simp
  refine (RW.out _).mono ?_
  rintro e w16 ⟨v, rfl, ho, hb6⟩
  have HOWN := hidk ho
  have HBF := hidk (HB5.out.trans (hb6.mono HB5.out.size))
  go_wp2_with fail
  refine hK.out _ _ (HR14.out.keep hb6) (fun hHeld => ?_)
  clear hK K
  try simp only [Act.put, List.setIfInBounds_toArray, List.set_cons_zero, List.set_cons_succ]
  refine wpAnyH_take (i := 17) (oi := { dst := some 2, op := Op.assign (Operand.tmp 19), type := 35, pos := "ref.go:74", after := #[{ on := 16, ground := Ground.data }, { on := 16, ground := Ground.chain }, { on := 0, ground := Ground.phase }, { on := 1, ground := Ground.phase }, { on := 2, ground := Ground.phase }, { on := 3, ground := Ground.phase }, { on := 4, ground := Ground.phase }, { on := 5, ground := Ground.phase }, { on := 6, ground := Ground.phase }, { on := 7, ground := Ground.phase }, { on := 8, ground := Ground.phase }, { on := 9, ground := Ground.phase }, { on := 10, ground := Ground.phase }, { on := 11, ground := Ground.phase }, { on := 12, ground := Ground.phase }, { on := 13, ground := Ground.phase }, { on := 14, ground := Ground.phase }, { on := 15, ground := Ground.phase }, { on := 16, ground := Ground.phase }], guard := none }) (v := v) rfl (by kernel_rfl) (by kernel_rfl) (by kernel_rfl) (fun _ _ _ h => h) (Or.inl ⟨by rfl, by intro W hSw; go_simp⟩) hHeld ?_
  try simp only [Act.put, List.setIfInBounds_toArray, List.set_cons_zero, List.set_cons_succ]
  refine wpAnyH_done (by kernel_rfl) ?_ _
  go_wp2
  go_ret
  exact ⟨_, rfl, own_lower HOWN.out HB5.out.size, HBF.out⟩
end Go.Proofs.YtdnhnjimhbbabaaDoor

/- What the document's May, BytesSigned, PutSigned and Tag answer. -/
namespace Go.Proofs.YtdnhnjimhbbabaaDoor
open Go.RowKit Sums Nums
set_option linter.unusedVariables false
set_option linter.unusedSimpArgs false
set_option maxRecDepth 100000
/-- What the parts of a signed head's row read as. -/
structure SRow (W : World) (g o : Nat) (s : SgT) : Prop where
  h : W.rangeAt g o (hcells s.h)
  n : W.cell? ⟨g, o + 36, none⟩ = some (.int .i64 s.n)
  g : W.rangeAt g (o + 37) (cellsOf s.g)
theorem SRow.keep {W W' : World} {g o : Nat} {s : SgT} (hr : SRow W g o s) (hb : Below W.heap.size W W') : SRow W' g o s := ⟨range_keep hb hr.h, cell_keep hb hr.n, range_keep hb hr.g⟩
theorem srow_of {W : World} {g o : Nat} {s : SgT} (hd : s.h.d.length = 32) (hr : W.rangeAt g o (scells s)) : SRow W g o s := by
  have hl := hcells_length s.h hd
  refine ⟨?_, ?_, ?_⟩
  · intro j v hj
    have hlt := (List.getElem?_eq_some_iff.1 hj).1
    exact hr j v (by
      unfold scells
      rw [List.append_assoc, List.getElem?_append_left hlt]; exact hj)
  · exact hr 36 (.int .i64 s.n) (by
      unfold scells
      rw [List.append_assoc, List.getElem?_append_right (by omega), hl]
      rfl)
  · intro j v hj
    have hlt := (List.getElem?_eq_some_iff.1 hj).1
    have := hr (37 + j) v (by
      unfold scells
      rw [List.getElem?_append_right (by rw [List.length_append, hl, List.length_singleton]; omega), List.length_append, hl, List.length_singleton, show 37 + j - (36 + 1) = j by omega]
      exact hj)
    rw [Nat.add_assoc]; exact this
theorem srow_new (w : World) (s : SgT) (hd : s.h.d.length = 32) (C : Array Value) (HC : Hid (C = (scells s).toArray)) (t : TypeId) : SRow (w.alloc (.cells C t)) w.heap.size 0 s := by
  refine srow_of hd ?_
  intro j v hj
  rw [Nat.zero_add, cell_of_row _ _ j _ t (0, 0) (heap_alloc_new w _), HC.out]
  simpa using hj
set_option maxHeartbeats 2000000 in
theorem refMay_any (s : SgT) (hd : s.h.d.length = 32) (w : World) (C : Array Value) (HC : Hid (C = (scells s).toArray)) :
    Calls Tryd.prog 32 #[.agg C] w fun e w' => e = .returned (.bool (mayS s)) ∧ Below w.heap.size w w' := by
  have HR := hidk (srow_new w s hd C HC 28)
  have HB : Hid (Below w.heap.size w (w.alloc (.cells C 28))) := (Below.refl _ _).alloc (Nat.le_refl _) _
  obtain ⟨HCs, HHC, HSH, H36⟩ := head_row s.h hd
  have HRH : Hid ((w.alloc (.cells C 28)).rangeAt w.heap.size 0 HCs.toList) := by rw [HHC.out]; exact HR.out.h
  obtain ⟨n, Hn⟩ : ∃ n, Hid (n = s.n) := ⟨s.n, hidk rfl⟩
  obtain ⟨b1, hb1⟩ : ∃ b, rightH s.h = b := ⟨_, rfl⟩
  obtain ⟨b2, hb2⟩ : ∃ b, (decide (1 ≤ n) && decide (n ≤ 3)) = b := ⟨_, rfl⟩
  have R1 : Hid (∀ W, Calls Tryd.prog 27 #[.agg HCs] W fun e w' => e = .returned (.bool b1) ∧ Below W.heap.size W w') := fun W => by rw [← hb1]; exact refRight_any s.h hd W HCs HHC
  have W2 : Hid (∀ W, Calls Tryd.prog 28 #[.int .i64 n, .int .i64 1, .int .i64 3] W fun e w' => e = .returned (.bool b2) ∧ w' = W) := fun W => by rw [← hb2]; exact within_any n 1 3 W
  have hE : mayS s = (b1 && b2) := by
    rw [← hb1, ← hb2, Hn.out]
    unfold mayS
    rw [Bool.and_assoc]
  rw [hE]
  clear hE hb1 hb2 HC
  cases b1
  · go_enter Tryd.func32, Tryd.ntmps32
    go_wp2_with (first
      | (show wpList _ _ _ ({ dst := some 4, op := _, type := _, pos := _, after := _, guard := _ } :: _) _ _; refine wpList_mid rfl 26 (.tmp 3) rfl w.heap.size 0 rfl HCs _ HRH.out Tryd.underlying26 rfl HSH.out ?_; try simp only [Act.put, List.setIfInBounds_toArray, List.set_cons_zero, List.set_cons_succ])
      | fail)
    refine (R1.out _).mono ?_
    rintro e w1 ⟨rfl, hb⟩
    have HB1 := hidk (HB.out.trans (hb.mono HB.out.size))
    clear hb
    go_wp2
    go_ret
    exact ⟨rfl, HB1.out⟩
  · go_enter Tryd.func32, Tryd.ntmps32
    go_wp2_with (first
      | (show wpList _ _ _ ({ dst := some 4, op := _, type := _, pos := _, after := _, guard := _ } :: _) _ _; refine wpList_mid rfl 26 (.tmp 3) rfl w.heap.size 0 rfl HCs _ HRH.out Tryd.underlying26 rfl HSH.out ?_; try simp only [Act.put, List.setIfInBounds_toArray, List.set_cons_zero, List.set_cons_succ])
      | fail)
    refine (R1.out _).mono ?_
    rintro e w1 ⟨rfl, hb⟩
    have HB1 := hidk (HB.out.trans (hb.mono HB.out.size))
    have hc := (HR.out.keep hb).n
    rw [← Hn.out, Nat.zero_add] at hc
    clear hb
    go_wp2_with fail
    refine (W2.out _).mono ?_
    rintro e w2 ⟨rfl, rfl⟩
    go_wp2
    go_ret
    exact ⟨rfl, HB1.out⟩
set_option maxHeartbeats 8000000 in
theorem refSB_any (s : SgT) (hd : s.h.d.length = 32) (hg : s.g.length = 32) (w : World) (C : Array Value) (HC : Hid (C = (scells s).toArray)) :
    Calls Tryd.prog 37 #[.agg C] w fun e w' => ∃ v, e = .returned v ∧ w'.ownsRow w.heap.size 5 1 v (signB s).length (cellsOf (signB s)) ∧ Below w.heap.size w w' := by
  have HR := hidk (srow_new w s hd C HC 28)
  have HB : Hid (Below w.heap.size w (w.alloc (.cells C 28))) := (Below.refl _ _).alloc (Nat.le_refl _) _
  obtain ⟨HCs, HHC, HSH, H36⟩ := head_row s.h hd
  obtain ⟨D, HD, HSD, H1D, H32D⟩ := dig_row' s.g hg
  obtain ⟨n, Hn⟩ : ∃ n, Hid (n = s.n) := ⟨s.n, hidk rfl⟩
  obtain ⟨n2, Hn2⟩ : ∃ x : ByteArray, Hid (x = nOf n) := ⟨nOf n, hidk rfl⟩
  obtain ⟨x1, HX1⟩ : ∃ x : ByteArray, Hid (x = ⟨(headB s.h).toArray⟩) := ⟨⟨(headB s.h).toArray⟩, hidk rfl⟩
  obtain ⟨x3, HX3⟩ : ∃ x : ByteArray, Hid (x = ⟨s.g.toArray⟩) := ⟨⟨s.g.toArray⟩, hidk rfl⟩
  obtain ⟨hl, Hhl⟩ : ∃ l, Hid (l = headB s.h) := ⟨headB s.h, hidk rfl⟩
  have B1 : Hid (∀ W, Calls Tryd.prog 55 #[.agg HCs] W fun e w' => ∃ v, e = .returned v ∧ w'.ownsRow W.heap.size 5 1 v hl.length (cellsOf hl) ∧ Below W.heap.size W w') := fun W => by rw [Hhl.out]; exact refHB_any s.h hd W HCs HHC
  have N2 : Hid (∀ W, Calls Tryd.prog 61 #[.int .i64 n] W fun e w' => e = .returned (.string n2) ∧ Below W.heap.size W w') := fun W => by rw [Hn2.out]; exact refNum_any n W
  have X3 : Hid (∀ W, Calls Tryd.prog 62 #[.agg D] W fun e w' => e = .returned (.string x3) ∧ Below W.heap.size W w') := fun W => by
    have := refText_any s.g hg W x3 HX3 D.toList (by show _ = _; rw [HD.out])
    simpa using this
  have hL3 : sL s = [x1, n2, x3] := by rw [HX1.out, Hn2.out, HX3.out, Hn.out]; rfl
  have RW : Hid (∀ W W0 : World, ∀ a, Texts W a 3 [x1, n2, x3] → Below W0.heap.size W0 W → Calls Tryd.prog 60 #[.slice a 3 3] W fun e w' => ∃ v, e = .returned v ∧ w'.ownsRow W0.heap.size 5 1 v (signB s).length (cellsOf (signB s)) ∧ Below W0.heap.size W0 w') := fun W W0 a hx hb0 => by
    have h1 : ∀ y ∈ [x1, n2, x3], y.size ≤ 65536 := fun y hy => by
      rw [← hL3] at hy
      unfold sL at hy
      simp only [List.mem_cons, List.not_mem_nil, or_false] at hy
      rcases hy with rfl | rfl | rfl
      · rw [bA_size]; have := headB_length s.h hd; omega
      · exact Nat.le_trans (nOf_size _) (by omega)
      · rw [bA_size]; omega
    refine (refRow_any a 3 3 [x1, n2, x3] W hx (by omega) h1).mono ?_
    rintro e w' ⟨v, he, ho, hb⟩
    rw [← hL3] at ho
    exact ⟨v, he, own_lower ho hb0.size, hb0.trans (hb.mono hb0.size)⟩
  have HDL : Hid (D.toList = cellsOf s.g) := by show _ = _; rw [HD.out]
  have HHL : Hid (HCs.toList = hcells s.h) := by show _ = _; rw [HHC.out]
  have HX1' : Hid (x1 = ⟨hl.toArray⟩) := by show _ = _; rw [HX1.out, Hhl.out]
  clear HC hL3 HX1 HX3 HD Hn2 Hhl
  go_enter Tryd.func37, Tryd.ntmps37
  go_wp2
  refine wp_region_held_drew (S := (fun W => SRow W w.heap.size 0 s)) (by kernel_rfl) (HR.out.keep (Below.refl _ _).drew) (fun hHeld => ?_)
  refine wpAnyH_take (i := 0) (oi := { dst := some 3, op := Op.fieldAddr 28 (Operand.tmp 1) 0, type := 0, pos := "ref.go:128", after := #[], guard := none }) (v := .pointer (some ⟨w.heap.size, 0, none⟩)) rfl (by kernel_rfl) (by kernel_rfl) (by kernel_rfl) (fun _ _ _ h => h) (Or.inl ⟨by rfl, by intro W hSw; go_simp⟩) hHeld ?_
  try simp only [Act.put, List.setIfInBounds_toArray, List.set_cons_zero, List.set_cons_succ]
  refine wpAnyH_take (i := 1) (oi := { dst := some 4, op := Op.load 26 (Operand.tmp 3), type := 26, pos := "ref.go:128", after := #[{ on := 0, ground := Ground.data }], guard := none }) (v := .agg HCs) rfl (by kernel_rfl) (by kernel_rfl) (by kernel_rfl) (fun _ _ _ h => h) (yieldsIf_mid (by rfl) 26 (.tmp 3) rfl w.heap.size 0 rfl HCs _ (fun _ h => by rw [HHL.out]; exact h.h) Tryd.underlying26 rfl HSH.out) hHeld ?_
  try simp only [Act.put, List.setIfInBounds_toArray, List.set_cons_zero, List.set_cons_succ]
  refine wpAnyH_take (i := 4) (oi := { dst := some 7, op := Op.fieldAddr 28 (Operand.tmp 1) 1, type := 0, pos := "ref.go:128", after := #[], guard := none }) (v := .pointer (some ⟨w.heap.size, 36, none⟩)) rfl (by kernel_rfl) (by kernel_rfl) (by kernel_rfl) (fun _ _ _ h => h) (Or.inl ⟨by rfl, by intro W hSw; go_simp⟩) hHeld ?_
  try simp only [Act.put, List.setIfInBounds_toArray, List.set_cons_zero, List.set_cons_succ]
  refine wpAnyH_take (i := 5) (oi := { dst := some 8, op := Op.load 3 (Operand.tmp 7), type := 3, pos := "ref.go:128", after := #[{ on := 4, ground := Ground.data }], guard := none }) (v := .int .i64 n) rfl (by kernel_rfl) (by kernel_rfl) (by kernel_rfl) (fun _ _ _ h => h) (Or.inl ⟨by rfl, by intro W hSw; have h1 := hSw.n; rw [← Hn.out, Nat.zero_add] at h1; go_simp⟩) hHeld ?_
  try simp only [Act.put, List.setIfInBounds_toArray, List.set_cons_zero, List.set_cons_succ]
  refine wpAnyH_take (i := 7) (oi := { dst := some 10, op := Op.fieldAddr 28 (Operand.tmp 1) 2, type := 0, pos := "ref.go:128", after := #[], guard := none }) (v := .pointer (some ⟨w.heap.size, 37, none⟩)) rfl (by kernel_rfl) (by kernel_rfl) (by kernel_rfl) (fun _ _ _ h => h) (Or.inl ⟨by rfl, by intro W hSw; go_simp⟩) hHeld ?_
  try simp only [Act.put, List.setIfInBounds_toArray, List.set_cons_zero, List.set_cons_succ]
  refine wpAnyH_take (i := 8) (oi := { dst := some 11, op := Op.load 24 (Operand.tmp 10), type := 24, pos := "ref.go:128", after := #[{ on := 7, ground := Ground.data }], guard := none }) (v := .agg D) rfl (by kernel_rfl) (by kernel_rfl) (by kernel_rfl) (fun _ _ _ h => h) (yieldsIf_mid (by rfl) 24 (.tmp 10) rfl w.heap.size 37 rfl D _ (fun _ h => by rw [HDL.out]; have := h.g; rwa [Nat.zero_add] at this) Tryd.underlying24 rfl HSD.out) hHeld ?_
  try simp only [Act.put, List.setIfInBounds_toArray, List.set_cons_zero, List.set_cons_succ]
  refine wpAnyH_ready (rs := [2]) (by kernel_rfl) (by simp) ?_
  refine (AllReadyH.cons (o := { dst := some 5, op := Op.call { callee := Callee.value (Operand.func 55), args := #[Operand.tmp 4], argTypes := #[26] }, type := 35, pos := "ref.go:128", after := #[{ on := 1, ground := Ground.data }], guard := none }) rfl (fun K hK => ?_) AllReadyH.nil)
  go_simp
  refine (B1.out _).mono ?_
  rintro e w2 ⟨v5, rfl, ho5, hb1⟩
  obtain ⟨a5, c5, rfl, hr5⟩ := reads_own ho5
  have HV := hidk hr5
  have HBc := hidk (HB.out.drew.trans (hb1.mono HB.out.size))
  go_wp2_with fail
  refine hK.out _ _ (hHeld.keep hb1) (fun hHeld => ?_)
  clear hK K
  try simp only [Act.put, List.setIfInBounds_toArray, List.set_cons_zero, List.set_cons_succ]
  refine wpAnyH_ready (rs := [3, 6]) (by kernel_rfl) (by simp) ?_
  refine (AllReadyH.cons (o := { dst := some 6, op := Op.convert 35 9 (Operand.tmp 5), type := 9, pos := "ref.go:128", after := #[{ on := 2, ground := Ground.data }], guard := none }) rfl (fun K hK => ?_) (AllReadyH.cons (o := { dst := some 9, op := Op.call { callee := Callee.value (Operand.func 61), args := #[Operand.tmp 8], argTypes := #[3] }, type := 9, pos := "ref.go:128", after := #[{ on := 5, ground := Ground.data }, { on := 2, ground := Ground.chain }], guard := none }) rfl (fun K hK => ?_) AllReadyH.nil))
  · have hcv := conv_reads HV.out
    rw [← HX1'.out] at hcv
    go_simp
    clear hcv
    refine hK.out _ _ hHeld (fun hHeld => ?_)
    clear hK K
    try simp only [Act.put, List.setIfInBounds_toArray, List.set_cons_zero, List.set_cons_succ]
    refine wpAnyH_ready (rs := [6]) (by kernel_rfl) (by simp) ?_
    refine (AllReadyH.cons (o := { dst := some 9, op := Op.call { callee := Callee.value (Operand.func 61), args := #[Operand.tmp 8], argTypes := #[3] }, type := 9, pos := "ref.go:128", after := #[{ on := 5, ground := Ground.data }, { on := 2, ground := Ground.chain }], guard := none }) rfl (fun K hK => ?_) AllReadyH.nil)
    go_simp
    refine (N2.out _).mono ?_
    rintro e w6 ⟨rfl, hb2⟩
    replace HBc := hidk (HBc.out.trans (hb2.mono HBc.out.size))
    replace HV := hidk (HV.out.below hb2)
    go_wp2_with fail
    refine hK.out _ _ (hHeld.keep hb2) (fun hHeld => ?_)
    clear hK K
    try simp only [Act.put, List.setIfInBounds_toArray, List.set_cons_zero, List.set_cons_succ]
    refine wpAnyH_ready (rs := [9]) (by kernel_rfl) (by simp) ?_
    refine (AllReadyH.cons (o := { dst := some 12, op := Op.call { callee := Callee.value (Operand.func 62), args := #[Operand.tmp 11], argTypes := #[24] }, type := 9, pos := "ref.go:128", after := #[{ on := 8, ground := Ground.data }, { on := 6, ground := Ground.chain }], guard := none }) rfl (fun K hK => ?_) AllReadyH.nil)
    go_simp
    refine (X3.out _).mono ?_
    rintro e w9 ⟨rfl, hb3⟩
    replace HBc := hidk (HBc.out.trans (hb3.mono HBc.out.size))
    replace HV := hidk (HV.out.below hb3)
    go_wp2_with fail
    refine hK.out _ _ (hHeld.keep hb3) (fun hHeld => ?_)
    clear hK K
    try simp only [Act.put, List.setIfInBounds_toArray, List.set_cons_zero, List.set_cons_succ]
    refine wpAnyH_ready (rs := [10]) (by kernel_rfl) (by simp) ?_
    refine (AllReadyH.cons (o := { dst := some 13, op := Op.buildSlice 76 3 #[(0, Operand.tmp 6), (1, Operand.tmp 9), (2, Operand.tmp 12)], type := 76, pos := "ref.go:128", after := #[{ on := 3, ground := Ground.data }, { on := 6, ground := Ground.data }, { on := 9, ground := Ground.data }], guard := none }) rfl (fun K hK => ?_) AllReadyH.nil)
    have HRc := hidk hHeld
    go_simp
    have HTX := hidk (texts_new w9 [x1, n2, x3] 9)
    refine hK.out _ _ (hHeld.keep ((Below.refl _ _).alloc (Nat.le_refl _) _)) (fun hHeld => ?_)
    clear hK K
    try simp only [Act.put, List.setIfInBounds_toArray, List.set_cons_zero, List.set_cons_succ]
    refine wpAnyH_ready (rs := [11]) (by kernel_rfl) (by simp) ?_
    refine (AllReadyH.cons (o := { dst := some 14, op := Op.call { callee := Callee.value (Operand.func 60), args := #[Operand.tmp 13], argTypes := #[76] }, type := 35, pos := "ref.go:128", after := #[{ on := 10, ground := Ground.data }, { on := 9, ground := Ground.chain }], guard := none }) rfl (fun K hK => ?_) AllReadyH.nil)
    go_simp
    refine (RW.out _ w9 _ HTX.out ((Below.refl _ _).alloc (Nat.le_refl _) _)).mono ?_
    rintro e w11 ⟨v, rfl, ho, hb6⟩
    have HOWN := hidk (own_lower ho HBc.out.size)
    have HBF := hidk (HBc.out.trans (hb6.mono HBc.out.size))
    go_wp2_with fail
    refine hK.out _ _ (HRc.out.keep hb6) (fun hHeld => ?_)
    clear hK K
    try simp only [Act.put, List.setIfInBounds_toArray, List.set_cons_zero, List.set_cons_succ]
    refine wpAnyH_take (i := 12) (oi := { dst := some 2, op := Op.assign (Operand.tmp 14), type := 35, pos := "ref.go:128", after := #[{ on := 11, ground := Ground.data }, { on := 11, ground := Ground.chain }, { on := 0, ground := Ground.phase }, { on := 1, ground := Ground.phase }, { on := 2, ground := Ground.phase }, { on := 3, ground := Ground.phase }, { on := 4, ground := Ground.phase }, { on := 5, ground := Ground.phase }, { on := 6, ground := Ground.phase }, { on := 7, ground := Ground.phase }, { on := 8, ground := Ground.phase }, { on := 9, ground := Ground.phase }, { on := 10, ground := Ground.phase }, { on := 11, ground := Ground.phase }], guard := none }) (v := v) rfl (by kernel_rfl) (by kernel_rfl) (by kernel_rfl) (fun _ _ _ h => h) (Or.inl ⟨by rfl, by intro W hSw; go_simp⟩) hHeld ?_
    try simp only [Act.put, List.setIfInBounds_toArray, List.set_cons_zero, List.set_cons_succ]
    refine wpAnyH_done (by kernel_rfl) ?_ _
    go_wp2
    go_ret
    exact ⟨_, rfl, HOWN.out, HBF.out⟩
  · go_simp
    refine (N2.out _).mono ?_
    rintro e w6 ⟨rfl, hb2⟩
    replace HBc := hidk (HBc.out.trans (hb2.mono HBc.out.size))
    replace HV := hidk (HV.out.below hb2)
    go_wp2_with fail
    refine hK.out _ _ (hHeld.keep hb2) (fun hHeld => ?_)
    clear hK K
    try simp only [Act.put, List.setIfInBounds_toArray, List.set_cons_zero, List.set_cons_succ]
    refine wpAnyH_ready (rs := [3, 9]) (by kernel_rfl) (by simp) ?_
    refine (AllReadyH.cons (o := { dst := some 6, op := Op.convert 35 9 (Operand.tmp 5), type := 9, pos := "ref.go:128", after := #[{ on := 2, ground := Ground.data }], guard := none }) rfl (fun K hK => ?_) (AllReadyH.cons (o := { dst := some 12, op := Op.call { callee := Callee.value (Operand.func 62), args := #[Operand.tmp 11], argTypes := #[24] }, type := 9, pos := "ref.go:128", after := #[{ on := 8, ground := Ground.data }, { on := 6, ground := Ground.chain }], guard := none }) rfl (fun K hK => ?_) AllReadyH.nil))
    · have hcv := conv_reads HV.out
      rw [← HX1'.out] at hcv
      go_simp
      clear hcv
      refine hK.out _ _ hHeld (fun hHeld => ?_)
      clear hK K
      try simp only [Act.put, List.setIfInBounds_toArray, List.set_cons_zero, List.set_cons_succ]
      refine wpAnyH_ready (rs := [9]) (by kernel_rfl) (by simp) ?_
      refine (AllReadyH.cons (o := { dst := some 12, op := Op.call { callee := Callee.value (Operand.func 62), args := #[Operand.tmp 11], argTypes := #[24] }, type := 9, pos := "ref.go:128", after := #[{ on := 8, ground := Ground.data }, { on := 6, ground := Ground.chain }], guard := none }) rfl (fun K hK => ?_) AllReadyH.nil)
      go_simp
      refine (X3.out _).mono ?_
      rintro e w9 ⟨rfl, hb3⟩
      replace HBc := hidk (HBc.out.trans (hb3.mono HBc.out.size))
      replace HV := hidk (HV.out.below hb3)
      go_wp2_with fail
      refine hK.out _ _ (hHeld.keep hb3) (fun hHeld => ?_)
      clear hK K
      try simp only [Act.put, List.setIfInBounds_toArray, List.set_cons_zero, List.set_cons_succ]
      refine wpAnyH_ready (rs := [10]) (by kernel_rfl) (by simp) ?_
      refine (AllReadyH.cons (o := { dst := some 13, op := Op.buildSlice 76 3 #[(0, Operand.tmp 6), (1, Operand.tmp 9), (2, Operand.tmp 12)], type := 76, pos := "ref.go:128", after := #[{ on := 3, ground := Ground.data }, { on := 6, ground := Ground.data }, { on := 9, ground := Ground.data }], guard := none }) rfl (fun K hK => ?_) AllReadyH.nil)
      have HRc := hidk hHeld
      go_simp
      have HTX := hidk (texts_new w9 [x1, n2, x3] 9)
      refine hK.out _ _ (hHeld.keep ((Below.refl _ _).alloc (Nat.le_refl _) _)) (fun hHeld => ?_)
      clear hK K
      try simp only [Act.put, List.setIfInBounds_toArray, List.set_cons_zero, List.set_cons_succ]
      refine wpAnyH_ready (rs := [11]) (by kernel_rfl) (by simp) ?_
      refine (AllReadyH.cons (o := { dst := some 14, op := Op.call { callee := Callee.value (Operand.func 60), args := #[Operand.tmp 13], argTypes := #[76] }, type := 35, pos := "ref.go:128", after := #[{ on := 10, ground := Ground.data }, { on := 9, ground := Ground.chain }], guard := none }) rfl (fun K hK => ?_) AllReadyH.nil)
      go_simp
      refine (RW.out _ w9 _ HTX.out ((Below.refl _ _).alloc (Nat.le_refl _) _)).mono ?_
      rintro e w11 ⟨v, rfl, ho, hb6⟩
      have HOWN := hidk (own_lower ho HBc.out.size)
      have HBF := hidk (HBc.out.trans (hb6.mono HBc.out.size))
      go_wp2_with fail
      refine hK.out _ _ (HRc.out.keep hb6) (fun hHeld => ?_)
      clear hK K
      try simp only [Act.put, List.setIfInBounds_toArray, List.set_cons_zero, List.set_cons_succ]
      refine wpAnyH_take (i := 12) (oi := { dst := some 2, op := Op.assign (Operand.tmp 14), type := 35, pos := "ref.go:128", after := #[{ on := 11, ground := Ground.data }, { on := 11, ground := Ground.chain }, { on := 0, ground := Ground.phase }, { on := 1, ground := Ground.phase }, { on := 2, ground := Ground.phase }, { on := 3, ground := Ground.phase }, { on := 4, ground := Ground.phase }, { on := 5, ground := Ground.phase }, { on := 6, ground := Ground.phase }, { on := 7, ground := Ground.phase }, { on := 8, ground := Ground.phase }, { on := 9, ground := Ground.phase }, { on := 10, ground := Ground.phase }, { on := 11, ground := Ground.phase }], guard := none }) (v := v) rfl (by kernel_rfl) (by kernel_rfl) (by kernel_rfl) (fun _ _ _ h => h) (Or.inl ⟨by rfl, by intro W hSw; go_simp⟩) hHeld ?_
      try simp only [Act.put, List.setIfInBounds_toArray, List.set_cons_zero, List.set_cons_succ]
      refine wpAnyH_done (by kernel_rfl) ?_ _
      go_wp2
      go_ret
      exact ⟨_, rfl, HOWN.out, HBF.out⟩
    · go_simp
      refine (X3.out _).mono ?_
      rintro e w9 ⟨rfl, hb3⟩
      replace HBc := hidk (HBc.out.trans (hb3.mono HBc.out.size))
      replace HV := hidk (HV.out.below hb3)
      go_wp2_with fail
      refine hK.out _ _ (hHeld.keep hb3) (fun hHeld => ?_)
      clear hK K
      try simp only [Act.put, List.setIfInBounds_toArray, List.set_cons_zero, List.set_cons_succ]
      refine wpAnyH_ready (rs := [3]) (by kernel_rfl) (by simp) ?_
      refine (AllReadyH.cons (o := { dst := some 6, op := Op.convert 35 9 (Operand.tmp 5), type := 9, pos := "ref.go:128", after := #[{ on := 2, ground := Ground.data }], guard := none }) rfl (fun K hK => ?_) AllReadyH.nil)
      have hcv := conv_reads HV.out
      rw [← HX1'.out] at hcv
      go_simp
      clear hcv
      refine hK.out _ _ hHeld (fun hHeld => ?_)
      clear hK K
      try simp only [Act.put, List.setIfInBounds_toArray, List.set_cons_zero, List.set_cons_succ]
      refine wpAnyH_ready (rs := [10]) (by kernel_rfl) (by simp) ?_
      refine (AllReadyH.cons (o := { dst := some 13, op := Op.buildSlice 76 3 #[(0, Operand.tmp 6), (1, Operand.tmp 9), (2, Operand.tmp 12)], type := 76, pos := "ref.go:128", after := #[{ on := 3, ground := Ground.data }, { on := 6, ground := Ground.data }, { on := 9, ground := Ground.data }], guard := none }) rfl (fun K hK => ?_) AllReadyH.nil)
      have HRc := hidk hHeld
      go_simp
      have HTX := hidk (texts_new w9 [x1, n2, x3] 9)
      refine hK.out _ _ (hHeld.keep ((Below.refl _ _).alloc (Nat.le_refl _) _)) (fun hHeld => ?_)
      clear hK K
      try simp only [Act.put, List.setIfInBounds_toArray, List.set_cons_zero, List.set_cons_succ]
      refine wpAnyH_ready (rs := [11]) (by kernel_rfl) (by simp) ?_
      refine (AllReadyH.cons (o := { dst := some 14, op := Op.call { callee := Callee.value (Operand.func 60), args := #[Operand.tmp 13], argTypes := #[76] }, type := 35, pos := "ref.go:128", after := #[{ on := 10, ground := Ground.data }, { on := 9, ground := Ground.chain }], guard := none }) rfl (fun K hK => ?_) AllReadyH.nil)
      go_simp
      refine (RW.out _ w9 _ HTX.out ((Below.refl _ _).alloc (Nat.le_refl _) _)).mono ?_
      rintro e w11 ⟨v, rfl, ho, hb6⟩
      have HOWN := hidk (own_lower ho HBc.out.size)
      have HBF := hidk (HBc.out.trans (hb6.mono HBc.out.size))
      go_wp2_with fail
      refine hK.out _ _ (HRc.out.keep hb6) (fun hHeld => ?_)
      clear hK K
      try simp only [Act.put, List.setIfInBounds_toArray, List.set_cons_zero, List.set_cons_succ]
      refine wpAnyH_take (i := 12) (oi := { dst := some 2, op := Op.assign (Operand.tmp 14), type := 35, pos := "ref.go:128", after := #[{ on := 11, ground := Ground.data }, { on := 11, ground := Ground.chain }, { on := 0, ground := Ground.phase }, { on := 1, ground := Ground.phase }, { on := 2, ground := Ground.phase }, { on := 3, ground := Ground.phase }, { on := 4, ground := Ground.phase }, { on := 5, ground := Ground.phase }, { on := 6, ground := Ground.phase }, { on := 7, ground := Ground.phase }, { on := 8, ground := Ground.phase }, { on := 9, ground := Ground.phase }, { on := 10, ground := Ground.phase }, { on := 11, ground := Ground.phase }], guard := none }) (v := v) rfl (by kernel_rfl) (by kernel_rfl) (by kernel_rfl) (fun _ _ _ h => h) (Or.inl ⟨by rfl, by intro W hSw; go_simp⟩) hHeld ?_
      try simp only [Act.put, List.setIfInBounds_toArray, List.set_cons_zero, List.set_cons_succ]
      refine wpAnyH_done (by kernel_rfl) ?_ _
      go_wp2
      go_ret
      exact ⟨_, rfl, HOWN.out, HBF.out⟩
set_option maxHeartbeats 2000000 in
theorem refPutS_any (s : SgT) (hd : s.h.d.length = 32) (hg : s.g.length = 32) (w : World) (C : Array Value) (HC : Hid (C = (scells s).toArray)) :
    Calls Tryd.prog 14 #[.agg C] w fun e w' => ∃ v, e = .returned (.tuple #[v, .int .i64 (if mayS s = true then 0 else 70)]) ∧ w'.ownsRow w.heap.size 5 1 v (if mayS s = true then signB s else []).length (cellsOf (if mayS s = true then signB s else [])) ∧ Below w.heap.size w w' := by
  have hnot : ∀ (x : Bool) (w : World), (Op.unary .not (.bool x)).run Tryd.prog w = .ok (.bool (!x)) w := fun _ _ => rfl
  have HSC : Hid ((Tryd.prog.info? 28).map (·.size) = some C.size) := by show _ = _; rw [sizeS, HC.out]; simp [scells_length s hd hg]
  have HR : Hid ((w.alloc (.cells C 28)).heap[w.heap.size]? = some (.cells C 28 (0, 0))) := heap_alloc_new w _
  have HB : Hid (Below w.heap.size w (w.alloc (.cells C 28))) := (Below.refl _ _).alloc (Nat.le_refl _) _
  have M1 : Hid (∀ W, Calls Tryd.prog 32 #[.agg C] W fun e w' => e = .returned (.bool (mayS s)) ∧ Below W.heap.size W w') := fun W => refMay_any s hd W C HC
  have B1 : Hid (∀ W, Calls Tryd.prog 37 #[.agg C] W fun e w' => ∃ v, e = .returned v ∧ w'.ownsRow W.heap.size 5 1 v (signB s).length (cellsOf (signB s)) ∧ Below W.heap.size W w') := fun W => refSB_any s hd hg W C HC
  obtain ⟨b, hb⟩ : ∃ b, mayS s = b := ⟨_, rfl⟩
  obtain ⟨l, Hl⟩ : ∃ l, Hid (l = signB s) := ⟨signB s, hidk rfl⟩
  rw [hb] at M1 ⊢
  rw [← Hl.out] at B1 ⊢
  clear HC hb Hl
  cases b
  · go_enter Tryd.func14, Tryd.ntmps14
    go_wp2_with (first
      | (show wpList _ _ _ ({ dst := some 4, op := _, type := _, pos := _, after := _, guard := _ } :: _) _ _; refine wpList_load_row rfl 28 (.tmp 1) rfl w.heap.size rfl 28 C (0, 0) _ HR.out Tryd.underlying28 rfl HSC.out ?_; try simp only [Act.put, List.setIfInBounds_toArray, List.set_cons_zero, List.set_cons_succ])
      | fail)
    refine (M1.out _).mono ?_
    rintro e w1 ⟨rfl, hb1⟩
    have HB1 := hidk (HB.out.trans (hb1.mono HB.out.size))
    clear hb1
    go_wp2
    go_ret2
    exact ⟨_, rfl, World.ownsRow_nil _ _ _ _, HB1.out⟩
  · go_enter Tryd.func14, Tryd.ntmps14
    go_wp2_with (first
      | (show wpList _ _ _ ({ dst := some 4, op := _, type := _, pos := _, after := _, guard := _ } :: _) _ _; refine wpList_load_row rfl 28 (.tmp 1) rfl w.heap.size rfl 28 C (0, 0) _ HR.out Tryd.underlying28 rfl HSC.out ?_; try simp only [Act.put, List.setIfInBounds_toArray, List.set_cons_zero, List.set_cons_succ])
      | fail)
    refine (M1.out _).mono ?_
    rintro e w1 ⟨rfl, hb1⟩
    have HB1 := hidk (HB.out.trans (hb1.mono HB.out.size))
    have HR1 := hidk ((hb1.block _ (heap_lt HR.out)).trans HR.out)
    clear hb1
    go_wp2_with (first
      | (show wpList _ _ _ ({ dst := some 7, op := _, type := _, pos := _, after := _, guard := _ } :: _) _ _; refine wpList_load_row rfl 28 (.tmp 1) rfl w.heap.size rfl 28 C (0, 0) _ HR1.out Tryd.underlying28 rfl HSC.out ?_; try simp only [Act.put, List.setIfInBounds_toArray, List.set_cons_zero, List.set_cons_succ])
      | fail)
    refine (B1.out _).mono ?_
    rintro e w2 ⟨v, rfl, ho, hb2⟩
    have HO := hidk (own_lower ho HB1.out.size)
    have HB2 := hidk (HB1.out.trans (hb2.mono HB1.out.size))
    clear ho hb2
    go_wp2
    go_ret2
    exact ⟨_, rfl, HO.out, HB2.out⟩
end Go.Proofs.YtdnhnjimhbbabaaDoor

/- Structs of numbers and digests: heads and signed heads, built and compared. -/
namespace Go.Proofs.YtdnhnjimhbbabaaDoor
open Go.RowKit Sums Nums
set_option linter.unusedVariables false
set_option linter.unusedSimpArgs false
set_option maxRecDepth 100000
theorem fold_set (D : List Value) : ∀ (k off : Nat) (cs : Array Value) (pre old rest : List Value), cs.toList = pre ++ old ++ rest → pre.length = off + k → old.length = D.length →
    ((D.zipIdx k).foldl (fun cs (c, j) => cs.setIfInBounds (off + j) c) cs).toList = pre ++ D ++ rest := by
  induction D with
  | nil =>
    intro k off cs pre old rest h hp ho
    have : old = [] := List.eq_nil_of_length_eq_zero ho
    subst this
    simpa using h
  | cons d D ih =>
    intro k off cs pre old rest h hp ho
    match old, ho with
    | x :: old, ho =>
      rw [List.zipIdx_cons, List.foldl_cons]
      have := ih (k + 1) off (cs.setIfInBounds (off + k) d) (pre ++ [d]) old rest (by
        rw [Array.toList_setIfInBounds, h, ← hp]
        simp) (by simp; omega) (by simpa using ho)
      rw [this]
      simp
/-- A struct that is built, where the order is drawn. -/
theorem yieldsIf_build {P : Program} {ops : Array Oper} {S : World → Prop} {o : Oper} {a : Act} (hw : Region.wanted o (yielded ops a.tmps) = true) (t : TypeId) (parts : Array (Nat × Operand)) (ho : o.op = .build t parts) (vals : Array (Nat × Value)) (hv : (parts.toList.map fun p => (p.1, a.eval p.2)) = vals.toList)
    (v : Value) (hrun : ∀ W, (Instr.build t vals).run P W = .ok v W) : YieldsIf P ops S o v a :=
  .inl ⟨hw, fun w _ => by
    have hv' : (parts.map fun (i, x) => (i, a.eval x)) = vals := by
      apply Array.ext'
      rw [Array.toList_map, ← hv]
    subst hv'
    unfold execOp
    simp only [ho, Sem.run_bind, hrun, Result.andThen_ok]
    rfl⟩
theorem fill_val (place : Nat → Option (Nat × Nat)) (i off n : Nat) (v : Value) (D cs : Array Value) (pre old post : List Value) (more : List (Nat × Value)) (hv : v.cells = D) (hp : place i = some (off, n)) (hn : D.size = n) (hcs : cs.toList = pre ++ old ++ post) (hpre : pre.length = off) (hold : old.length = n) :
    Instr.fill place cs ((i, v) :: more) = Instr.fill place (pre ++ D.toList ++ post).toArray more := by
  have hcz : cs.size = off + n + post.length := by rw [← Array.length_toList, hcs]; simp only [List.length_append, hpre, hold]
  conv => lhs; unfold Instr.fill
  simp only [hp, hv, hn]
  rw [if_neg (by simp; omega)]
  congr 1
  apply Array.ext'
  have := fold_set D.toList 0 off cs pre old post hcs (by omega) (by rw [hold, Array.length_toList, hn])
  rw [← this, ← Array.foldl_toList]
  congr 2
  simp
def zeroH : HdT := ⟨0, 0, 0, List.replicate 32 0, 0⟩
def zeroS : SgT := ⟨zeroH, 0, List.replicate 32 0⟩
theorem infoH : (Tryd.prog.info? 26).map (fun i => (i.zero, i.size)) = some (some (.agg (hcells zeroH).toArray), 36) := by kernel_rfl
theorem infoS : (Tryd.prog.info? 28).map (fun i => (i.zero, i.size)) = some (some (.agg (scells zeroS).toArray), 69) := by kernel_rfl
theorem builtH0 : Tryd.prog.built 26 [] = some (hcells zeroH).toArray := by kernel_rfl
theorem builtS0 : Tryd.prog.built 28 [] = some (scells zeroS).toArray := by kernel_rfl
theorem one_cells (h : HdT) : (hcells h).toArray.all (·.oneCell') = true := by
  rw [List.all_toArray, List.all_eq_true]
  intro v hv
  unfold hcells at hv
  simp only [List.mem_append, List.mem_cons, List.not_mem_nil, or_false] at hv
  rcases hv with ((rfl | rfl | rfl) | hv) | rfl
  · rfl
  · rfl
  · rfl
  · exact cellsOf_one _ v hv
  · rfl
theorem one_cellsS (s : SgT) : (scells s).toArray.all (·.oneCell') = true := by
  rw [List.all_toArray, List.all_eq_true]
  intro v hv
  unfold scells at hv
  simp only [List.mem_append, List.mem_cons, List.not_mem_nil, or_false] at hv
  rcases hv with (hv | rfl) | hv
  · have := one_cells s.h
    rw [List.all_toArray, List.all_eq_true] at this
    exact this v hv
  · rfl
  · exact cellsOf_one _ v hv
theorem head_row5 (h : HdT) (hd : h.d.length = 32) : ∃ C : Array Value, Hid (C = (hcells h).toArray) ∧ Hid ((Tryd.prog.info? 26).map (·.size) = some C.size) ∧ Hid (C.all (·.oneCell') = true) ∧ Hid (C.size = 36) := by
  refine ⟨(hcells h).toArray, hidk rfl, ?_, one_cells h, ?_⟩
  · show _ = _
    rw [sizeH]; simp [hcells_length h hd]
  · show _ = _
    simp [hcells_length h hd]
theorem sign_row (s : SgT) (hd : s.h.d.length = 32) (hg : s.g.length = 32) : ∃ C : Array Value, Hid (C = (scells s).toArray) ∧ Hid ((Tryd.prog.info? 28).map (·.size) = some C.size) ∧ Hid (C.all (·.oneCell') = true) ∧ Hid (C.size = 69) := by
  refine ⟨(scells s).toArray, hidk rfl, ?_, one_cellsS s, ?_⟩
  · show _ = _
    rw [sizeS]; simp [scells_length s hd hg]
  · show _ = _
    simp [scells_length s hd hg]
theorem noughtsH : ∃ Z : Array Value, Hid (Z = (hcells zeroH).toArray) ∧ Hid ((Tryd.prog.info? 26).map (fun i => (i.zero, i.size)) = some (some (.agg Z), Z.size)) ∧ Hid (Tryd.prog.built 26 [] = some Z) ∧ Hid (Z.size = 36) :=
  ⟨(hcells zeroH).toArray, hidk rfl, infoH, builtH0, hidk rfl⟩
theorem noughtsS : ∃ Z : Array Value, Hid (Z = (scells zeroS).toArray) ∧ Hid ((Tryd.prog.info? 28).map (fun i => (i.zero, i.size)) = some (some (.agg Z), Z.size)) ∧ Hid (Tryd.prog.built 28 [] = some Z) ∧ Hid (Z.size = 69) :=
  ⟨(scells zeroS).toArray, hidk rfl, infoS, builtS0, hidk rfl⟩
end Go.Proofs.YtdnhnjimhbbabaaDoor

/- What the document's Tag, Sign and Verify answer. -/
namespace Go.Proofs.YtdnhnjimhbbabaaDoor
open Go.RowKit Sums Nums
set_option linter.unusedVariables false
set_option linter.unusedSimpArgs false
set_option maxRecDepth 100000
/-- What Sign answers. -/
def signsO (h : HdT) (n : Int) : Bool := rightH h && (decide (1 ≤ n) && decide (n ≤ 3))
def signO (master : List UInt8) (h : HdT) (n : Int) : SgT := if signsO h n = true then ⟨h, n, tagD master h n⟩ else zeroS
def signE (h : HdT) (n : Int) : Int := if signsO h n = true then 0 else 70
theorem signsO_owner (h : HdT) (n : Int) (hs : signsO h n = true) : owner h.r n = true := by
  unfold signsO at hs
  simp only [Bool.and_eq_true, decide_eq_true_eq] at hs
  have := (rightH_iff h).1 hs.1
  exact (owner_iff _ _).2 (by omega)
end Go.Proofs.YtdnhnjimhbbabaaDoor

/- pack.appendField at whatever tag: its lowest byte. -/
namespace Go.Proofs.YtdnhnjimhbbabaaDoor
open Go.RowKit Nums
set_option maxRecDepth 100000
/-- Whatever is no row of elements of type T lies as it lay. -/
def Spares (T : TypeId) (w w' : World) : Prop := ∀ (b : Nat) (o : Obj), w.heap[b]? = some o → (∀ c m, o ≠ Obj.cells c T m) → w'.heap[b]? = some o
theorem Spares.refl (T : TypeId) (w : World) : Spares T w w := fun _ _ h _ => h
theorem Spares.trans {T : TypeId} {a b c : World} (h : Spares T a b) (k : Spares T b c) : Spares T a c := fun i o hi ho => k i o (h i o hi ho) ho
theorem Spares.below {T : TypeId} {a b : World} (h : Below a.heap.size a b) : Spares T a b := fun i _ hi _ => (h.block i (Array.getElem?_eq_some_iff.1 hi).1).trans hi
theorem Spares.alloc (T : TypeId) (w : World) (o : Obj) : Spares T w (w.alloc o) := Spares.below ((Below.refl _ _).alloc (Nat.le_refl _) _)
theorem Spares.drew (T : TypeId) (w : World) : Spares T w w.drew := fun _ _ h _ => h
theorem Spares.grown {T : TypeId} {w w' : World} {B size n : Nat} {v : Value} {xs : List Value} (hown : w.ownsRow B T size v n xs) (hg : w.grownBy w' v.ownBlock) : Spares T w w' := by
  intro i o hi ho
  refine (hg.block i (Array.getElem?_eq_some_iff.1 hi).1 ?_).trans hi
  intro e
  rcases hown.2 with ⟨rfl, _⟩ | ⟨g, cap, cur, rfl, _, hgb, _⟩
  · simp [Value.ownBlock] at e
  · obtain rfl : i = g := by simpa [Value.ownBlock] using e
    rw [hgb] at hi
    cases hi
    exact ho _ _ rfl
theorem head_cellsI (tag : Int) (d : ByteArray) (hd : d.size ≤ 65536) :
    [Value.int .u8 (tag % 256), .int .u8 ((d.size : Int) / 65536), .int .u8 ((d.size : Int) / 256 % 256), .int .u8 ((d.size : Int) % 256)] ++ Lib.strCells d = cellsOf (fieldBytesI tag d.data.toList) := by
  have hl : d.data.toList.length = d.size := by simp
  have e1 : tag % 256 = ((UInt8.ofNat (tag % 256).toNat).toNat : Int) := by rw [UInt8.toNat_ofNat']; omega
  have e2 : (d.size : Int) / 65536 = (d.size : Int) / 65536 % 256 := by omega
  rw [cellsOf_str, fieldBytesI, hl, e2]
  simp only [cellsOf, List.map_cons, List.cons_append, List.nil_append, byte_mod, ← e1]
  rfl
set_option maxHeartbeats 1000000 in
theorem appendField_int (v : Value) (l : List UInt8) (B : Nat) (tag : Int) (d : ByteArray) (w : World) (hd : d.size ≤ 65536) (hB : B ≤ w.heap.size) (hl : l.length ≤ 1099511627776)
    (hown : w.ownsRow B 5 1 v l.length (cellsOf l)) :
    Calls Tryd.prog 58 #[v, .agg #[.int .i64 tag, .string d]] w fun e w' => ∃ v', e = .returned v' ∧
      w'.ownsRow B 5 1 v' (l ++ fieldBytesI tag d.data.toList).length (cellsOf (l ++ fieldBytesI tag d.data.toList)) ∧ Below B w w' ∧ Spares 5 w w' := by
  obtain ⟨i0, hi, hz0, hz1, hz2⟩ := info_parts info5
  have HL : Hid (l.length ≤ 1099511627776) := hl
  clear hl
  go_enter Tryd.func58, Tryd.ntmps58
  go_wp2_with (first
    | (at_builtin; refine wpList_append_own _ rfl (.tmp 9) (.tmp 21) 35 rfl B 5 i0 (.int .u8 0) 1 1 Tryd.underlying35 hi hz0 hz1 hz2 rfl (by decide) _ _ _ rfl ((hown.alloc _).alloc _) ⟨w.heap.size + 1, 0, none⟩ 4 4 [.int .u8 (tag % 256), .int .u8 ((d.size : Int) / 65536), .int .u8 ((d.size : Int) / 256 % 256), .int .u8 ((d.size : Int) % 256)] rfl rfl ?c1 ?c2 ?c3 ?c4 ?c5 ?_)
    | fail)
  case c1 =>
    intro j u hj
    match j, hj with
    | 0, hj => simp at hj; subst hj; simp [Addr.add]
    | 1, hj => simp at hj; subst hj; simp [Addr.add]
    | 2, hj => simp at hj; subst hj; simp [Addr.add]
    | 3, hj => simp at hj; subst hj; simp [Addr.add]
  case c2 => intro u hu; simp at hu; rcases hu with rfl | rfl | rfl | rfl <;> rfl
  case c3 => have := HL.out; unfold maxLen; omega
  case c4 => have := HL.out; omega
  case c5 => simp; omega
  intro v1 w1 hown1 hgrow1 _
  have hb1 : Below B w w1 := (((Below.refl _ _).alloc hB _).alloc (by simp; omega) _).grown hgrow1 (by simp; omega) (row_low hown)
  have hs1 : Spares 5 w w1 := ((Spares.alloc 5 w _).trans (Spares.alloc 5 _ _)).trans (Spares.grown ((hown.alloc _).alloc _) hgrow1)
  have HS1 : Hid (Spares 5 w w1) := hs1
  clear hs1
  have hbox : w1.cell? ⟨w.heap.size, 1, none⟩ = some (.string d) := by
    refine hgrow1.cell ?_ ?_
    · simp
    · intro e; have := (hown.lt _ e.symm).2; simp at this
  clear hgrow1
  go_wp2_with (first
    | (at_builtin; refine Lib.wpList_append_own_string _ rfl (.tmp 23) (.tmp 25) 35 9 rfl B 5 i0 Tryd.underlying35 Tryd.underlying9 hi hz0 hz1 hz2 _ _ _ rfl hown1 d rfl ?d1 ?d2 ?d3 ?_)
    | fail)
  case d1 => have := HL.out; unfold maxLen; omega
  case d2 => have := HL.out; omega
  case d3 => exact Nat.le_trans hB hb1.size
  intro v2 w2 hown2 hgrow2 _
  have hb2 : Below B w w2 := hb1.grown hgrow2 (Nat.le_trans hB hb1.size) (row_low hown1)
  have HS2 : Hid (Spares 5 w w2) := HS1.out.trans (Spares.grown hown1 hgrow2)
  have hown3 : w2.ownsRow B 5 1 v2 (l ++ fieldBytesI tag d.data.toList).length (cellsOf (l ++ fieldBytesI tag d.data.toList)) := by
    have e1 : (l ++ fieldBytesI tag d.data.toList).length = l.length + 4 + d.size := by
      rw [List.length_append, fieldBytesI_length]; simp; omega
    rw [e1, cellsOf_append, ← head_cellsI tag d hd]
    simpa only [List.append_assoc, List.cons_append, List.nil_append] using hown2
  clear hown2 hgrow2 hown1 hbox
  go_wp2
  go_ret
  exact ⟨_, rfl, hown3, hb2, HS2.out⟩
end Go.Proofs.YtdnhnjimhbbabaaDoor

/- The iterator of pack.judged: each field of a row with what is wrong with it where it stands. -/
namespace Go.Proofs.YtdnhnjimhbbabaaDoor
open Go.RowKit Go.Shelf Nums
set_option maxRecDepth 100000

attribute [local go_sem] Oper.semAt_some
def encJ (x : Jd) : Array Value := #[.agg #[.int .i64 x.tag, .string x.d], .int .i64 x.e]
/-- What a round keeps: all below n₀, and all fields' blocks. -/
def KpJ (n₀ : Nat) (W W' : World) : Prop := Below n₀ W W' ∧ ∀ (b : Nat) (c : Array Value) (m : Nat × Nat), W.heap[b]? = some (Obj.cells c 59 m) → W'.heap[b]? = some (Obj.cells c 59 m)
theorem kpJ_t {n₀ : Nat} {A B C : World} (h : KpJ n₀ A B) (k : KpJ n₀ B C) : KpJ n₀ A C := ⟨h.1.trans k.1, fun b c m hb => k.2 b c m (h.2 b c m hb)⟩
theorem kpJ_b {n₀ : Nat} {w : World} (hn : n₀ ≤ w.heap.size) (W : World) (l : Nat) (o o' : Obj) (hl : w.heap.size ≤ l) (h : W.heap[l]? = some o) (hc : o.isCells = false) (hw : o.isWalk = false) : KpJ n₀ W (W.putObj l o') := by
  refine ⟨belowK_b hn W l o o' hl h hc hw, fun b c m hb => ?_⟩
  have hne : some b ≠ some l := by
    intro e
    cases e
    rw [h] at hb
    cases hb
    cases hc
  rw [(grownBy_putObj' W l o').block b (Array.getElem?_eq_some_iff.1 hb).1 hne]
  exact hb
theorem grown_of_below {w w' : World} (h : Below w.heap.size w w') : w.grownBy w' none := ⟨h.os, h.tape, h.output, h.size, fun k hk _ => h.block k hk⟩
/-- A slice of fields that can be read: its fields are fs. -/
def FReads (n₀ : Nat) (w : World) (a : Option Addr) (len cap : Nat) (fs : List (Int × ByteArray)) : Prop :=
  fs.length = len ∧ len ≤ cap ∧ cap ≤ 9223372036854775807 ∧ (∀ f ∈ fs, f.2.size ≤ maxLen) ∧
  ((a = none ∧ cap = 0) ∨ (∃ ad, a = some ad ∧ len = 0) ∨ ∃ b off, a = some ⟨b, off, none⟩ ∧ b < n₀ ∧ ∀ (i : Nat) (h : i < fs.length), w.cell? ⟨b, off + i * 2, none⟩ = some (.int .i64 fs[i].1) ∧ w.cell? ⟨b, off + i * 2 + 1, none⟩ = some (.string fs[i].2))
set_option maxRecDepth 100000 in
set_option maxHeartbeats 2000000 in
theorem judged1_in (n : Nat) (hn : 1 ≤ n) (l Bs n₀ b off len cap : Nat) (fs : List (Int × ByteArray)) (hlen : fs.length = len) (hm : len ≤ 9223372036854775807) (hb : b < n₀) (hfs : ∀ f ∈ fs, f.2.size ≤ maxLen) (J Jx : List Jd → World → Prop)
    (W : World) (hJ : AbidesFrom W.heap.size J) (hn₀ : n₀ ≤ W.heap.size)
    (hY : ∀ pre x W, J pre W → pre.length < len → YieldAt Fence.wide (n - 1) Tryd.prog l (encJ x) W fun e W' =>
      (e = .returned (.bool true) ∧ J (pre ++ [x]) W' ∧ KpJ n₀ W W') ∨ (e = .returned (.bool false) ∧ Jx (pre ++ [x]) W'))
    (hBs : W.cell? ⟨Bs, 0, none⟩ = some (.slice (some ⟨b, off, none⟩) len cap))
    (hc : ∀ (i : Nat) (h : i < fs.length), W.cell? ⟨b, off + i * 2, none⟩ = some (.int .i64 fs[i].1) ∧ W.cell? ⟨b, off + i * 2 + 1, none⟩ = some (.string fs[i].2)) (h0 : J [] W) :
    CallsIn Fence.wide n Tryd.prog 73 #[.func (.yield l) #[] #[], .pointer (some ⟨Bs, 0, none⟩)] W fun e W' => (∃ v, e = .returned v) ∧
      ((∃ ys, ys = judge 0 fs ∧ J ys W') ∨ (∃ pre, pre <+: judge 0 fs ∧ Jx pre W')) := by
  refine callsIn_of_wp Tryd.func73 rfl trivial ?_ rfl
  simp only [Tryd.ntmps73, List.size_toArray, List.length_cons, List.length_nil, Nat.reduceAdd, Nat.reduceSub, Array.replicate_succ, Array.replicate_zero, List.push_toArray, List.append_toArray, List.nil_append, List.cons_append]
  gi_wp2
  gi_loopw [3, 8] (fun t i wr => ∃ (k : Nat) (last : Int) (pre : List Jd), k ≤ len ∧ i = .int .i64 k ∧ t = .int .i64 last ∧ Hid (pre.length = k) ∧ Hid (judge 0 fs = pre ++ judge last (fs.drop k)) ∧ J pre wr ∧ Below n₀ W wr ∧ W.heap.size ≤ wr.heap.size)
    (fun _ i _ => len - (intOf i).toNat)
  case atStart => exact ⟨0, 0, [], Nat.zero_le _, rfl, rfl, rfl, by simp [Hid], h0, Below.refl _ _, Nat.le_refl _⟩
  case round =>
    obtain ⟨k, last, pre, hk, rfl, rfl, HP, HJD, hJs, hnx, hsz⟩ := hrel
    by_cases hlt : k < len
    · obtain ⟨hc0, hc1⟩ := hc k (by omega)
      have hd0 : wr.cell? ⟨b, off + k * 2, none⟩ = some (.int .i64 (fs[k]'(by omega)).1) := (hnx.cell (p := ⟨b, off + k * 2, none⟩) hb).trans hc0
      have hd1 : wr.cell? ⟨b, off + k * 2 + 1, none⟩ = some (.string (fs[k]'(by omega)).2) := (hnx.cell (p := ⟨b, off + k * 2 + 1, none⟩) hb).trans hc1
      obtain ⟨f, hf⟩ : ∃ f, f = fs[k]'(by omega) := ⟨_, rfl⟩
      rw [← hf] at hd0 hd1
      have HF : Hid (fs.drop k = f :: fs.drop (k + 1)) := by show _ = _; rw [hf]; exact List.drop_eq_getElem_cons (by omega)
      have HM : Hid (f.2.size ≤ maxLen) := hfs f (by rw [hf]; exact List.getElem_mem _)
      have hlen' : (k : Int) < (len : Int) := by omega
      clear hc0 hc1 hc hf hBs
      have HX : Hid (∀ W1, Below (wr.heap.size + 1) (wr.alloc (.cells #[.int .i64 f.1, .string f.2] 59)).drew W1 → W1.cell? ⟨wr.heap.size, 0, none⟩ = some (.int .i64 f.1) ∧ W1.cell? ⟨wr.heap.size, 1, none⟩ = some (.string f.2) ∧
          W1.heap[wr.heap.size]? = some (.cells #[.int .i64 f.1, .string f.2] 59 (0, 0)) ∧ Below n₀ W W1 ∧ W.heap.size ≤ W1.heap.size ∧
          ∃ fn tmps assign body, (Instr.yield l #[.agg #[.int .i64 f.1, .string f.2], .int .i64 (faultOf last f.1 f.2.size)]).run Tryd.prog W1 = .ok (.round l fn tmps assign body) W1 ∧
            RoundIn Fence.wide (n - 1) Tryd.prog l fn tmps assign body W1 fun e W' => ∃ bb, e = .returned (.bool bb) ∧ ((bb = true ∧ J (pre ++ [⟨f.1, f.2, faultOf last f.1 f.2.size, fault_ok last f.1 f.2⟩]) W' ∧ KpJ n₀ W1 W') ∨ (bb = false ∧ Jx (pre ++ [⟨f.1, f.2, faultOf last f.1 f.2.size, fault_ok last f.1 f.2⟩]) W'))) := by
        intro W1 hb1
        have hbw : Below wr.heap.size wr W1 := (((Below.refl _ wr).alloc (Nat.le_refl _) _).drew).trans (hb1.mono (by omega))
        have hblk : W1.heap[wr.heap.size]? = some (.cells #[.int .i64 f.1, .string f.2] 59 (0, 0)) := (hb1.block wr.heap.size (by omega)).trans (World.alloc_heap_new wr _)
        obtain ⟨fn, tmps, assign, body, hy, hR⟩ := hY pre ⟨f.1, f.2, faultOf last f.1 f.2.size, fault_ok last f.1 f.2⟩ W1 (hJ pre wr W1 none hJs (grown_of_below hbw) (fun r e => by cases e)) (by rw [HP.out]; exact hlt)
        refine ⟨by simp [World.cell?, hblk], by simp [World.cell?, hblk], hblk, hnx.trans (hbw.mono (Nat.le_trans hn₀ hsz)), Nat.le_trans hsz hbw.size, fn, tmps, assign, body, hy, hR.mono ?_⟩
        rintro e W' (⟨he, h2, h3⟩ | ⟨he, h2⟩)
        · exact ⟨true, he, .inl ⟨rfl, h2, h3⟩⟩
        · exact ⟨false, he, .inr ⟨rfl, h2⟩⟩
      clear hY
      have hmo : Tryd.prog.follows Departure.mixedOrders = true := by kernel_rfl
      gi_wp2
      gi_region_with_o (first
        | (refine ⟨trivial, ?_⟩; gi_at_call 74; refine (callsIn_wide.2 (fault_any last f.1 f.2 _ HM.out)).mono ?_; rintro e W1 ⟨rfl, hb1⟩; obtain ⟨q0, q1, hblk, hn1, hs1, fn, tmps, assign, body, hy, hR⟩ := HX.out W1 (by simpa using hb1))
        | (refine hR.mono ?_; rintro e W3 ⟨bb, rfl, hbb⟩))
      all_goals
        rcases hbb with ⟨rfl, hJ3, hk3⟩ | ⟨rfl, hJx3⟩
        · have hq3 : W3.cell? ⟨wr.heap.size, 0, none⟩ = some (.int .i64 f.1) := by simp [World.cell?, hk3.2 _ _ _ hblk]
          have HN : Hid (judge 0 fs = (pre ++ [⟨f.1, f.2, faultOf last f.1 f.2.size, fault_ok last f.1 f.2⟩]) ++ judge f.1 (fs.drop (k + 1))) := by
            show _ = _
            rw [HJD.out, HF.out, judge]; simp
          have HL : Hid ((pre ++ [(⟨f.1, f.2, faultOf last f.1 f.2.size, fault_ok last f.1 f.2⟩ : Jd)]).length = k + 1) := by
            show _ = _
            rw [List.length_append, HP.out]; rfl
          have HB3 : Hid (Below n₀ W W3 ∧ W.heap.size ≤ W3.heap.size) := ⟨hn1.trans hk3.1, Nat.le_trans hs1 hk3.1.size⟩
          clear hy hR hn1 hs1 hk3 hblk q0 q1 hb1 hd0 hd1
          gi_wp2
          go_roundw
          case rel => exact ⟨k + 1, f.1, _, by omega, by go_num, rfl, HL, HN, hJ3, HB3.out.1, HB3.out.2⟩
          case measure => simp [intOf]; omega
        · have HPX : Hid ((pre ++ [(⟨f.1, f.2, faultOf last f.1 f.2.size, fault_ok last f.1 f.2⟩ : Jd)]) <+: judge 0 fs) := by
            show _ <+: _
            rw [HJD.out, HF.out, judge]; exact ⟨judge f.1 (fs.drop (k + 1)), by simp⟩
          clear hy hR hblk q0 q1 hb1 hd0 hd1
          gi_wp2
          refine bodyPost_ret (results_none rfl _ _ _) rfl ?_
          exact ⟨⟨_, rfl⟩, .inr ⟨_, HPX.out, hJx3⟩⟩
    · have HE : Hid (pre = judge 0 fs) := by
        show _ = _
        rw [HJD.out, List.drop_of_length_le (by omega), judge, List.append_nil]
      clear hY
      gi_wp2
      go_end0
      exact ⟨⟨_, rfl⟩, .inl ⟨pre, HE.out, hJs⟩⟩
set_option maxRecDepth 100000 in
set_option maxHeartbeats 1000000 in
theorem judged1_none (n : Nat) (l Bs cap : Nat) (a : Option Addr) (J : List Jd → World → Prop) (W : World) (hBs : W.cell? ⟨Bs, 0, none⟩ = some (.slice a 0 cap)) (h0 : J [] W) :
    CallsIn Fence.wide n Tryd.prog 73 #[.func (.yield l) #[] #[], .pointer (some ⟨Bs, 0, none⟩)] W fun e W' => (∃ v, e = .returned v) ∧ J [] W' := by
  refine callsIn_of_wp Tryd.func73 rfl trivial ?_ rfl
  simp only [Tryd.ntmps73, List.size_toArray, List.length_cons, List.length_nil, Nat.reduceAdd, Nat.reduceSub, Array.replicate_succ, Array.replicate_zero, List.push_toArray, List.append_toArray, List.nil_append, List.cons_append]
  gi_wp2
  gi_loopw [3, 8] (fun t i wr => t = .int .i64 0 ∧ i = .int .i64 0 ∧ J [] wr) (fun _ _ _ => 0)
  case atStart => exact ⟨rfl, rfl, h0⟩
  case round =>
    obtain ⟨rfl, rfl, hJs⟩ := hrel
    gi_wp2
    go_end0
    exact ⟨⟨_, rfl⟩, hJs⟩
set_option maxHeartbeats 1000000 in
theorem judged_in (n : Nat) (a : Option Addr) (len cap : Nat) (w : World) :
    CallsIn Fence.wide n Tryd.prog 57 #[.slice a len cap] w fun e w' => e = .returned (.func (.func 73) #[] #[.pointer (some ⟨w.heap.size, 0, none⟩)]) ∧ w' = w.alloc (.cells #[.slice a len cap] 62) := by
  refine callsIn_of_wp Tryd.func57 rfl trivial ?_ rfl
  simp only [Tryd.ntmps57, List.size_toArray, List.length_cons, List.length_nil, Nat.reduceAdd, Nat.reduceSub, Array.replicate_succ, Array.replicate_zero, List.push_toArray, List.append_toArray, List.nil_append, List.cons_append]
  gi_wp2
  go_ret
  exact ⟨rfl, rfl⟩
theorem FReads.below {n₀ : Nat} {A B : World} (h : Below n₀ A B) {a : Option Addr} {len cap : Nat} {fs : List (Int × ByteArray)} (hr : FReads n₀ A a len cap fs) : FReads n₀ B a len cap fs := by
  obtain ⟨h1, h2, h3, h4, h5⟩ := hr
  refine ⟨h1, h2, h3, h4, ?_⟩
  rcases h5 with h5 | h5 | ⟨b, off, e, hb, hc⟩
  · exact .inl h5
  · exact .inr (.inl h5)
  · exact .inr (.inr ⟨b, off, e, hb, fun i hi => ⟨(h.cell (p := ⟨b, off + i * 2, none⟩) hb).trans (hc i hi).1, (h.cell (p := ⟨b, off + i * 2 + 1, none⟩) hb).trans (hc i hi).2⟩⟩)
/-- judged hands back a value that goes through all, or through a part. -/
theorem judged_stops (n : Nat) (hn : 1 ≤ n) (Bs n₀ : Nat) (a : Option Addr) (len cap : Nat) (fs : List (Int × ByteArray)) (w : World) (hBs : Bs < w.heap.size) (hn₀ : n₀ ≤ w.heap.size)
    (hc : w.cell? ⟨Bs, 0, none⟩ = some (.slice a len cap)) (hI : FReads n₀ w a len cap fs) :
    SeqStopsK Fence.wide n Tryd.prog 73 #[.pointer (some ⟨Bs, 0, none⟩)] encJ (KpJ n₀) (fun ys => ys = judge 0 fs) (fun pre => pre <+: judge 0 fs) len w := fun l J Jx W hW hJ _ hY h0 => by
  have hc' := (hW.cell (p := ⟨Bs, 0, none⟩) hBs).trans hc
  obtain ⟨h1, h2, h3, h4, h5⟩ := hI.below (hW.mono hn₀)
  have hz : len = 0 → CallsIn Fence.wide n Tryd.prog 73 (#[.func (.yield l) #[] #[]] ++ #[.pointer (some ⟨Bs, 0, none⟩)]) W fun e W' => (∃ v, e = .returned v) ∧ ((∃ xs, xs = judge 0 fs ∧ J xs W') ∨ (∃ pre, pre <+: judge 0 fs ∧ Jx pre W')) := by
    intro hl
    subst hl
    have hf : fs = [] := List.eq_nil_of_length_eq_zero h1
    exact (judged1_none n l Bs cap a J W hc' h0).mono fun e W' ⟨he, hj⟩ => ⟨he, .inl ⟨_, by rw [hf]; rfl, hj⟩⟩
  rcases h5 with ⟨_, h⟩ | ⟨_, _, h⟩ | ⟨b, off, rfl, hb, hcs⟩
  · exact hz (by omega)
  · exact hz h
  · exact judged1_in n hn l Bs n₀ b off len cap fs h1 (by omega) hb h4 J Jx W hJ (Nat.le_trans hn₀ hW.size) hY hc' hcs h0
end Go.Proofs.YtdnhnjimhbbabaaDoor

/- The iterator of pack.parsed: the fields that bytes are made of, each with what is wrong with it. -/
namespace Go.Proofs.YtdnhnjimhbbabaaDoor
open Go.RowKit Go.Shelf Nums
set_option maxRecDepth 100000

attribute [local go_sem] Oper.semAt_some
def encP (x : Pd) : Array Value := #[.agg #[.int .i64 x.tag, .string ⟨x.d.toArray⟩], .int .i64 x.e]
/-- What a round keeps: all below n₀, and every field's block. -/
def KpP (n₀ : Nat) (W W' : World) : Prop := Below n₀ W W' ∧ ∀ (b : Nat) (x y : Value) (m : Nat × Nat), W.heap[b]? = some (Obj.cells #[x, y] 59 m) → W'.heap[b]? = some (Obj.cells #[x, y] 59 m)
theorem kpP_t {n₀ : Nat} {A B C : World} (h : KpP n₀ A B) (k : KpP n₀ B C) : KpP n₀ A C := ⟨h.1.trans k.1, fun b x y m hb => k.2 b x y m (h.2 b x y m hb)⟩
theorem kpP_b {n₀ : Nat} {w : World} (hn : n₀ ≤ w.heap.size) (W : World) (l : Nat) (o o' : Obj) (hl : w.heap.size ≤ l) (h : W.heap[l]? = some o) (hc : o.isCells = false) (hw : o.isWalk = false) : KpP n₀ W (W.putObj l o') := by
  refine ⟨belowK_b hn W l o o' hl h hc hw, fun b x y m hb => ?_⟩
  have hne : some b ≠ some l := by
    intro e
    cases e
    rw [h] at hb
    cases hb
    cases hc
  rw [(grownBy_putObj' W l o').block b (Array.getElem?_eq_some_iff.1 hb).1 hne]
  exact hb
/-- Bytes that can be read, in a block below n₀. -/
def LReads (n₀ : Nat) (w : World) (a : Option Addr) (len cap : Nat) (l : List UInt8) : Prop :=
  l.length = len ∧ len ≤ cap ∧ cap ≤ 9223372036854775807 ∧
  ((a = none ∧ cap = 0) ∨ (∃ ad, a = some ad ∧ len = 0) ∨ ∃ b off, a = some ⟨b, off, none⟩ ∧ b < n₀ ∧ ∀ (i : Nat) (h : i < l.length), w.cell? ⟨b, off + i, none⟩ = some (.int .u8 l[i].toNat))
theorem LReads.below {n₀ : Nat} {A B : World} (h : Below n₀ A B) {a : Option Addr} {len cap : Nat} {l : List UInt8} (hr : LReads n₀ A a len cap l) : LReads n₀ B a len cap l := by
  obtain ⟨h1, h2, h3, h5⟩ := hr
  refine ⟨h1, h2, h3, ?_⟩
  rcases h5 with h5 | h5 | ⟨b, off, e, hb, hc⟩
  · exact .inl h5
  · exact .inr (.inl h5)
  · exact .inr (.inr ⟨b, off, e, hb, fun i hi => (h.cell (p := ⟨b, off + i, none⟩) hb).trans (hc i hi)⟩)
theorem LReads.reads {n₀ : Nat} {A : World} {a : Option Addr} {len cap : Nat} {l : List UInt8} (hr : LReads n₀ A a len cap l) (hn : n₀ ≤ A.heap.size) : Reads A a len cap l := by
  obtain ⟨h1, h2, h3, h5⟩ := hr
  refine ⟨h1, h2, h3, ?_⟩
  rcases h5 with h5 | h5 | ⟨b, off, e, hb, hc⟩
  · exact .inl h5
  · exact .inr (.inl h5)
  · exact .inr (.inr ⟨b, off, e, Nat.lt_of_lt_of_le hb hn, hc⟩)
theorem Reads.lreads {A : World} {a : Option Addr} {len cap : Nat} {l : List UInt8} (hr : Reads A a len cap l) : LReads A.heap.size A a len cap l := hr
/-- The rest behind the first n bytes. -/
theorem LReads.drop {n₀ : Nat} {A : World} {b off len cap n : Nat} {l : List UInt8} (hr : LReads n₀ A (some ⟨b, off, none⟩) len cap l) (hn : n ≤ len) (h0 : 0 < len) :
    LReads n₀ A (if cap = n then some ⟨b, off, none⟩ else some ⟨b, off + n, none⟩) (len - n) (cap - n) (l.drop n) := by
  obtain ⟨h1, h2, h3, h5⟩ := hr
  refine ⟨by rw [List.length_drop]; omega, by omega, by omega, ?_⟩
  rcases h5 with ⟨h, _⟩ | ⟨_, _, h⟩ | ⟨b', off', e, hb, hc⟩
  · cases h
  · omega
  · cases e
    by_cases hcn : cap = n
    · rw [if_pos hcn]; exact .inr (.inl ⟨_, rfl, by omega⟩)
    · rw [if_neg hcn]
      refine .inr (.inr ⟨b, off + n, rfl, hb, fun i hi => ?_⟩)
      have := hc (n + i) (by rw [List.length_drop] at hi; omega)
      rw [← Nat.add_assoc] at this
      rw [this, List.getElem_drop]
end Go.Proofs.YtdnhnjimhbbabaaDoor

/- pack.parsed goes through the fields that bytes are made of: all, or a part where a round says no more. -/
namespace Go.Proofs.YtdnhnjimhbbabaaDoor
open Go.RowKit Go.Shelf Nums
set_option maxRecDepth 100000

attribute [local go_sem] Oper.semAt_some
theorem pE_bad {last : Nat} {l : List UInt8} (h : gE l ≠ 0) : pE last l = gE l := by rw [pE, if_neg h]
theorem pE_fault {last : Nat} {l : List UInt8} (h : gE l = 0) (hf : faultOf last (gT l) (gD l).length ≠ 0) : pE last l = 11 := by rw [pE, if_pos h, if_neg hf]
set_option maxRecDepth 100000 in
set_option maxHeartbeats 4000000 in
theorem parsed1_in (n : Nat) (hn : 1 ≤ n) (l Bs n₀ : Nat) (a : Option Addr) (len cap : Nat) (bs : List UInt8) (J Jx : List Pd → World → Prop)
    (W : World) (hJ : AbidesFrom W.heap.size J) (hn₀ : n₀ ≤ W.heap.size)
    (hY : ∀ pre x W, J pre W → pre.length < len + 1 → YieldAt Fence.wide (n - 1) Tryd.prog l (encP x) W fun e W' =>
      (e = .returned (.bool true) ∧ J (pre ++ [x]) W' ∧ KpP n₀ W W') ∨ (e = .returned (.bool false) ∧ Jx (pre ++ [x]) W'))
    (hBs : W.cell? ⟨Bs, 0, none⟩ = some (.slice a len cap)) (hR : LReads n₀ W a len cap bs) (h0 : J [] W) :
    CallsIn Fence.wide n Tryd.prog 86 #[.func (.yield l) #[] #[], .pointer (some ⟨Bs, 0, none⟩)] W fun e W' => (∃ v, e = .returned v) ∧
      ((∃ ys, ys = parse (len + 1) 0 bs ∧ J ys W') ∨ (∃ pre, pre <+: parse (len + 1) 0 bs ∧ Jx pre W')) := by
  refine callsIn_of_wp Tryd.func86 rfl trivial ?_ rfl
  simp only [Tryd.ntmps86, List.size_toArray, List.length_cons, List.length_nil, Nat.reduceAdd, Nat.reduceSub, Array.replicate_succ, Array.replicate_zero, List.push_toArray, List.append_toArray, List.nil_append, List.cons_append]
  gi_wp2
  gi_loopw [3, 4] (fun t s wr => ∃ (last : Nat) (pre : List Pd) (ra : Option Addr) (rlen rcap : Nat) (rl : List UInt8), s = .slice ra rlen rcap ∧ t = .int .i64 last ∧ Hid (LReads n₀ W ra rlen rcap rl) ∧ rlen + pre.length ≤ len ∧ Hid (parse (len + 1) 0 bs = pre ++ parse (rlen + 1) last rl) ∧ J pre wr ∧ Below n₀ W wr ∧ W.heap.size ≤ wr.heap.size)
    (fun _ s _ => match s with | .slice _ k _ => k | _ => 0)
  case atStart => exact ⟨0, [], a, len, cap, bs, rfl, rfl, hR, by simp, by simp [Hid], h0, Below.refl _ _, Nat.le_refl _⟩
  case round =>
    obtain ⟨last, pre, ra, rlen, rcap, rl, rfl, rfl, HR, hle, HP, hJs, hnx, hsz⟩ := hrel
    clear hBs
    have hrc : rlen ≤ rcap := HR.out.2.1
    have hrm : rcap ≤ 9223372036854775807 := HR.out.2.2.1
    by_cases hz : rlen = 0
    · subst hz
      clear hY
      gi_wp2
      go_end0
      have hl : rl = [] := List.eq_nil_of_length_eq_zero HR.out.1
      refine ⟨⟨_, rfl⟩, .inl ⟨pre, ?_, hJs⟩⟩
      rw [HP.out, hl]; simp [parse]
    · have hpos : (0 : Int) < (rlen : Int) := by omega
      have HNE : Hid (rl ≠ []) := by intro e; have := HR.out.1; rw [e] at this; simp at this; omega
      have HRD : Hid (Reads wr ra rlen rcap rl) := (HR.out.below hnx).reads (Nat.le_trans hn₀ hsz)
      have HX : Hid (∀ W2, Below wr.heap.size wr W2 → ∃ fn tmps assign body, (Instr.yield l #[.agg #[.int .i64 (gT rl), .string ⟨(gD rl).toArray⟩], .int .i64 (pE last rl)]).run Tryd.prog W2 = .ok (.round l fn tmps assign body) W2 ∧
            RoundIn Fence.wide (n - 1) Tryd.prog l fn tmps assign body W2 fun e W' => ∃ bb, e = .returned (.bool bb) ∧ ((bb = true ∧ J (pre ++ [pX last rl]) W' ∧ KpP n₀ W2 W') ∨ (bb = false ∧ Jx (pre ++ [pX last rl]) W'))) := by
        intro W2 hb2
        obtain ⟨fn, tmps, assign, body, hy, hR⟩ := hY pre (pX last rl) W2 (hJ pre wr W2 none hJs (grown_of_below hb2) (fun r e => by cases e)) (by omega)
        refine ⟨fn, tmps, assign, body, hy, hR.mono ?_⟩
        rintro e W' (⟨he, h2, h3⟩ | ⟨he, h2⟩)
        · exact ⟨true, he, .inl ⟨rfl, h2, h3⟩⟩
        · exact ⟨false, he, .inr ⟨rfl, h2⟩⟩
      have HPR : Hid ((pre ++ [pX last rl]) <+: parse (len + 1) 0 bs) := by
        show _ <+: _
        rw [HP.out, parse_cons HNE.out]
        exact ⟨if pE last rl = 0 then parse rlen (gT rl) (rl.drop (gN rl)) else [], by simp⟩
      clear hY
      by_cases hE : gE rl = 0
      · have hE1 : ((gE rl : Int) == 0) = true := by simpa using hE
        have hgn := gN_le hE
        obtain ⟨b, off, hra⟩ : ∃ b off, ra = some ⟨b, off, none⟩ := by
          rcases HR.out.2.2.2 with ⟨_, h⟩ | ⟨_, _, h⟩ | ⟨b, off, h, _⟩
          · omega
          · omega
          · exact ⟨b, off, h⟩
        subst hra
        have hds : (⟨(gD rl).toArray⟩ : ByteArray).size = (gD rl).length := by show (gD rl).toArray.size = _; simp
        have HFC : Hid (∀ w, Calls Tryd.prog 74 #[.int .i64 last, .agg #[.int .i64 (gT rl), .string ⟨(gD rl).toArray⟩]] w fun e w' => e = .returned (.int .i64 (faultOf last (gT rl) (gD rl).length)) ∧ Below w.heap.size w w') := fun w => by
          have := fault_any last (gT rl) ⟨(gD rl).toArray⟩ w (by rw [hds]; unfold maxLen; omega)
          rwa [hds] at this
        clear hds
        by_cases hF : faultOf last (gT rl) (gD rl).length = 0
        · have HPE : Hid (pE last rl = 0) := pE_ok hE hF
          have HPG : Hid (pE last rl = gE rl) := HPE.out.trans hE.symm
          have HFD : Hid (∀ w, Calls Tryd.prog 74 #[.int .i64 last, .agg #[.int .i64 (gT rl), .string ⟨(gD rl).toArray⟩]] w fun e w' => e = .returned (.int .i64 0) ∧ Below w.heap.size w w') := fun w => by
            have := HFC.out w
            rwa [hF] at this
          have hE3 : ((gE rl : Int) != 0) = false := by simpa using hE
          have HNX : Hid (parse (len + 1) 0 bs = (pre ++ [pX last rl]) ++ parse (rlen - gN rl + 1) (gT rl) (rl.drop (gN rl))) := by
            show _ = _
            rw [HP.out, parse_cons HNE.out, if_pos HPE.out, parse_fuel (rlen - gN rl + 1) rlen (gT rl) (rl.drop (gN rl)) (by rw [List.length_drop, HR.out.1]; omega) (by omega)]
            simp
          have HDR := HR.out.drop (n := gN rl) (by rw [← HR.out.1]; exact hgn.2.1) (by omega)
          have hgl : gN rl ≤ rlen := by rw [← HR.out.1]; exact hgn.2.1
          have hg4 : 4 ≤ gN rl := hgn.1
          have HZ : Hid (gE rl = 0) := hE
          have hmo : Tryd.prog.follows Departure.mixedOrders = true := by kernel_rfl
          clear hE hF HFC hgn
          have HDD : Hid (LReads n₀ W (if rcap = gN rl then some ⟨b, off, none⟩ else some ⟨b, off + gN rl, none⟩) (rlen - gN rl) (rcap - gN rl) (rl.drop (gN rl))) := HDR
          clear HDR
          gi_wp2_with (first
            | (refine ⟨trivial, ?_⟩; gi_at_call 87; refine (callsIn_wide.2 (get_any _ _ _ rl _ HRD.out)).mono ?_; rintro e W1 ⟨rfl, hb1⟩; unfold gotten)
            | (refine ⟨trivial, ?_⟩; gi_at_call 74; refine (callsIn_wide.2 (HFD.out _)).mono ?_; rintro e W2 ⟨rfl, hb2⟩; have hb3 : Below wr.heap.size wr W2 := (hb1.alloc hb1.size _).trans (hb2.mono (by have := hb1.size; simp; omega)); have hblk : W2.heap[W1.heap.size]? = some (.cells #[.int .i64 (gT rl), .string ⟨(gD rl).toArray⟩] 59 (0, 0)) := (hb2.block W1.heap.size (by simp)).trans (World.alloc_heap_new W1 _); have q0 : W2.cell? ⟨W1.heap.size, 0, none⟩ = some (.int .i64 (gT rl)) := (by simp [World.cell?, hblk]); have q1 : W2.cell? ⟨W1.heap.size, 1, none⟩ = some (.string ⟨(gD rl).toArray⟩) := (by simp [World.cell?, hblk]); obtain ⟨fn, tmps, assign, body, hy, hR⟩ := HX.out W2 hb3; rw [HPG.out] at hy))
          refine hR.mono ?_
          rintro e W3 ⟨bb, rfl, ⟨rfl, hJ3, hk3⟩ | ⟨rfl, hJx3⟩⟩
          · have hq3 : W3.cell? ⟨W1.heap.size, 0, none⟩ = some (.int .i64 (gT rl)) := by simp [World.cell?, hk3.2 _ _ _ _ hblk]
            have HB3 : Hid (Below n₀ W W3 ∧ W.heap.size ≤ W3.heap.size) := ⟨hnx.trans ((hb3.mono (Nat.le_trans hn₀ hsz)).trans hk3.1), Nat.le_trans hsz (Nat.le_trans hb3.size hk3.1.size)⟩
            clear hy hR hk3 hblk q0 q1 hb1 hb2 hb3 hnx hJs
            gi_wp2
            gi_region_with_o (fail)
            gi_wp2
            all_goals
              refine ⟨⟨gT rl, pre ++ [pX last rl], _, _, _, ⟨rfl, rfl, rfl⟩, rfl, rl.drop (gN rl), ?_, ?_, HNX, hJ _ W3 W3.drew none hJ3 (grown_of_below (Below.refl _ _).drew) (fun r e => by cases e), HB3.out.1.drew, HB3.out.2⟩, by omega⟩
              · have hdd := HDD.out
                first
                  | (have hp : rcap = gN rl := by assumption
                     rw [if_pos hp, show rcap - gN rl = 0 by omega] at hdd
                     exact hdd)
                  | (have hp : ¬ rcap = gN rl := by assumption
                     rw [if_neg hp] at hdd
                     exact hdd)
              · rw [List.length_append]; simp; omega
          · clear hy hR hblk q0 q1 hb1 hb2 hb3
            gi_wp2
            refine bodyPost_ret (results_none rfl _ _ _) rfl ?_
            exact ⟨⟨_, rfl⟩, .inr ⟨_, HPR.out, hJx3⟩⟩
        · have HPE : Hid (pE last rl = 11) := pE_fault hE hF
          have hF2 : (faultOf last (gT rl) (gD rl).length != 0) = true := by simpa using hF
          have HALL : Hid (pre ++ [pX last rl] = parse (len + 1) 0 bs) := by
            show _ = _
            rw [HP.out, parse_cons HNE.out, if_neg (by rw [HPE.out]; decide)]
          have HZ : Hid (gE rl = 0) := hE
          clear hE hF hgn
          gi_wp2_with (first
            | (refine ⟨trivial, ?_⟩; gi_at_call 87; refine (callsIn_wide.2 (get_any _ _ _ rl _ HRD.out)).mono ?_; rintro e W1 ⟨rfl, hb1⟩; unfold gotten)
            | (refine ⟨trivial, ?_⟩; gi_at_call 74; refine (callsIn_wide.2 (HFC.out _)).mono ?_; rintro e W2 ⟨rfl, hb2⟩; have hb3 : Below wr.heap.size wr W2 := (hb1.alloc hb1.size _).trans (hb2.mono (by have := hb1.size; simp; omega)); have hblk : W2.heap[W1.heap.size]? = some (.cells #[.int .i64 (gT rl), .string ⟨(gD rl).toArray⟩] 59 (0, 0)) := (hb2.block W1.heap.size (by simp)).trans (World.alloc_heap_new W1 _); have q0 : W2.cell? ⟨W1.heap.size, 0, none⟩ = some (.int .i64 (gT rl)) := (by simp [World.cell?, hblk]); have q1 : W2.cell? ⟨W1.heap.size, 1, none⟩ = some (.string ⟨(gD rl).toArray⟩) := (by simp [World.cell?, hblk]); obtain ⟨fn, tmps, assign, body, hy, hR⟩ := HX.out W2 hb3; rw [HPE.out] at hy; simp only [Int.cast_ofNat_Int] at hy))
          refine hR.mono ?_
          rintro e W3 ⟨bb, rfl, ⟨rfl, hJ3, _⟩ | ⟨rfl, hJx3⟩⟩
          · clear hy hR hblk q0 q1 hb1 hb2 hb3
            gi_wp2
            refine bodyPost_ret (results_none rfl _ _ _) rfl ?_
            exact ⟨⟨_, rfl⟩, .inl ⟨_, HALL.out, hJ3⟩⟩
          · clear hy hR hblk q0 q1 hb1 hb2 hb3
            gi_wp2
            refine bodyPost_ret (results_none rfl _ _ _) rfl ?_
            exact ⟨⟨_, rfl⟩, .inr ⟨_, HPR.out, hJx3⟩⟩
      · have hE1 : ((gE rl : Int) == 0) = false := by simpa using hE
        have hE2 : ((gE rl : Int) != 0) = true := by simpa using hE
        have HPE : Hid (pE last rl = gE rl) := pE_bad hE
        have HALL : Hid (pre ++ [pX last rl] = parse (len + 1) 0 bs) := by
          show _ = _
          rw [HP.out, parse_cons HNE.out, if_neg (by rw [HPE.out]; exact hE)]
        have HGE : Hid (¬ gE rl = 0) := hE
        clear hE
        gi_wp2_with (refine ⟨trivial, ?_⟩; gi_at_call 87; refine (callsIn_wide.2 (get_any _ _ _ rl _ HRD.out)).mono ?_; rintro e W1 ⟨rfl, hb1⟩; unfold gotten)
        refine ⟨trivial, ?_⟩
        obtain ⟨fn, tmps, assign, body, hy, hR⟩ := HX.out (W1.alloc (.cells #[.int .i64 (gT rl), .string ⟨(gD rl).toArray⟩] 59)) (hb1.alloc hb1.size _)
        rw [HPE.out] at hy
        gi_wp2
        refine hR.mono ?_
        rintro e W3 ⟨bb, rfl, ⟨rfl, hJ3, _⟩ | ⟨rfl, hJx3⟩⟩
        · clear hy hR
          gi_wp2
          refine bodyPost_ret (results_none rfl _ _ _) rfl ?_
          exact ⟨⟨_, rfl⟩, .inl ⟨_, HALL.out, hJ3⟩⟩
        · clear hy hR
          gi_wp2
          refine bodyPost_ret (results_none rfl _ _ _) rfl ?_
          exact ⟨⟨_, rfl⟩, .inr ⟨_, HPR.out, hJx3⟩⟩
set_option maxHeartbeats 1000000 in
theorem parsed_in (n : Nat) (a : Option Addr) (len cap : Nat) (w : World) :
    CallsIn Fence.wide n Tryd.prog 78 #[.slice a len cap] w fun e w' => e = .returned (.func (.func 86) #[] #[.pointer (some ⟨w.heap.size, 0, none⟩)]) ∧ w' = w.alloc (.cells #[.slice a len cap] 35) := by
  refine callsIn_of_wp Tryd.func78 rfl trivial ?_ rfl
  simp only [Tryd.ntmps78, List.size_toArray, List.length_cons, List.length_nil, Nat.reduceAdd, Nat.reduceSub, Array.replicate_succ, Array.replicate_zero, List.push_toArray, List.append_toArray, List.nil_append, List.cons_append]
  gi_wp2
  go_ret
  exact ⟨rfl, rfl⟩
theorem parsed_stops (n : Nat) (hn : 1 ≤ n) (Bs n₀ : Nat) (a : Option Addr) (len cap : Nat) (bs : List UInt8) (w : World) (hBs : Bs < w.heap.size) (hn₀ : n₀ ≤ w.heap.size)
    (hc : w.cell? ⟨Bs, 0, none⟩ = some (.slice a len cap)) (hI : LReads n₀ w a len cap bs) :
    SeqStopsK Fence.wide n Tryd.prog 86 #[.pointer (some ⟨Bs, 0, none⟩)] encP (KpP n₀) (fun ys => ys = parse (len + 1) 0 bs) (fun pre => pre <+: parse (len + 1) 0 bs) (len + 1) w := fun l J Jx W hW hJ _ hY h0 =>
  parsed1_in n hn l Bs n₀ a len cap bs J Jx W hJ (Nat.le_trans hn₀ hW.size) hY ((hW.cell (p := ⟨Bs, 0, none⟩) hBs).trans hc) (hI.below (hW.mono hn₀)) h0
end Go.Proofs.YtdnhnjimhbbabaaDoor

/- What pack.Lay answers: the bytes of a row's fields, or the first field's fault. -/
namespace Go.Proofs.YtdnhnjimhbbabaaDoor
open Go.RowKit Go.Shelf Nums
set_option maxRecDepth 100000

attribute [local go_sem] Oper.semAt_some
def outB (pre : List Jd) : List UInt8 := (pre.map fun x => fieldBytesI x.tag x.d.data.toList).flatten
theorem outB_snoc (pre : List Jd) (x : Jd) : outB (pre ++ [x]) = outB pre ++ fieldBytesI x.tag x.d.data.toList := by simp [outB]
theorem outB_length : ∀ (pre : List Jd), (∀ x ∈ pre, x.e = 0) → (outB pre).length ≤ pre.length * 65540
  | [], _ => by simp [outB]
  | x :: r, h => by
    have h1 := outB_length r (fun y hy => h y (List.mem_cons_of_mem _ hy))
    have h2 := x.ok (h x List.mem_cons_self)
    have e : outB (x :: r) = fieldBytesI x.tag x.d.data.toList ++ outB r := by simp [outB]
    rw [e, List.length_append, fieldBytesI_length]
    simp only [Array.length_toList, List.length_cons]
    have : x.d.data.size ≤ 65536 := h2
    omega
/-- A block of cells stays under the turn of a block that is none. -/
theorem cells_stay {W W' : World} {row : Option Nat} {b : Nat} {c : Array Value} {t : TypeId} {m : Nat × Nat} (h : W.heap[b]? = some (.cells c t m)) (hg : W.grownBy W' row) (hr : ∀ r, row = some r → ∃ o : Obj, W.heap[r]? = some o ∧ o.isCells = false) :
    W'.heap[b]? = some (.cells c t m) := by
  refine (hg.block b (Array.getElem?_eq_some_iff.1 h).1 ?_).trans h
  intro e
  obtain ⟨o, ho, hc⟩ := hr b e.symm
  rw [h] at ho; cases ho; cases hc
theorem spares_box {w w' : World} (h : Spares 5 w w') {b : Nat} {c : Array Value} {t : TypeId} {m : Nat × Nat} (ht : t ≠ 5) (hb : w.heap[b]? = some (.cells c t m)) : w'.heap[b]? = some (.cells c t m) :=
  h b _ hb (fun c' m' e => by cases e; exact ht rfl)
theorem spares_others {w w' : World} (h : Spares 5 w w') (hs : w.heap.size ≤ w'.heap.size) : KeepsOthers w w' := ⟨hs, fun k o hk ho => h k o hk (fun c m e => by subst e; cases ho)⟩
theorem set_other {W : World} {B B' : Nat} {c : Array Value} {t : TypeId} {m : Nat × Nat} (h : W.heap[B]? = some (.cells c t m)) (hne : B ≠ B') (v : Value) : (W.setCell ⟨B', 0, none⟩ v).heap[B]? = some (.cells c t m) :=
  (Below.heap_setCell W ⟨B', 0, none⟩ v B hne).trans h
set_option maxRecDepth 100000 in
set_option maxHeartbeats 4000000 in
theorem lay_in (n : Nat) (hn : 3 ≤ n) (a : Option Addr) (len cap : Nat) (fs : List (Int × ByteArray)) (w : World) (hR : FReads w.heap.size w a len cap fs) (hl : len ≤ 400) :
    CallsIn Fence.wide n Tryd.prog 33 #[.slice a len cap] w fun e W' =>
      ((∀ x ∈ judge 0 fs, x.e = 0) ∧ ∃ v, e = .returned (.tuple #[v, .int .i64 0]) ∧ W'.ownsRow w.heap.size 5 1 v (outB (judge 0 fs)).length (cellsOf (outB (judge 0 fs))) ∧ Below w.heap.size w W') ∨
      (∃ pre x, (pre ++ [x]) <+: judge 0 fs ∧ (∀ y ∈ pre, y.e = 0) ∧ x.e ≠ 0 ∧ e = .returned (.tuple #[.slice none 0 0, .int .i64 x.e]) ∧ Below w.heap.size w W') := by
  have h1 : 1 ≤ n := by omega
  refine callsIn_of_wp_marks Tryd.func33 rfl trivial ?_ rfl
  simp only [Tryd.ntmps33, List.size_toArray, List.length_cons, List.length_nil, Nat.reduceAdd, Nat.reduceSub, Array.replicate_succ, Array.replicate_zero, List.push_toArray, List.append_toArray, List.nil_append, List.cons_append]
  gi_wp2_with (refine ⟨trivial, ?_⟩; gi_at_call 57; refine (judged_in (n - 1) _ _ _ _).mono ?_; rintro e w' ⟨rfl, rfl⟩)
  have bR1 := (((Boxed.new w 35 (.slice none 0 0)).alloc (.cells #[.int .i64 0] 29)).alloc (.cells #[.slice none 0 0] 35)).alloc (.cells #[.slice a len cap] 62)
  have bR2 := ((Boxed.new (w.alloc (.cells #[.slice none 0 0] 35)) 29 (.int .i64 0)).alloc (.cells #[.slice none 0 0] 35)).alloc (.cells #[.slice a len cap] 62)
  have bO := (Boxed.new ((w.alloc (.cells #[.slice none 0 0] 35)).alloc (.cells #[.int .i64 0] 29)) 35 (.slice none 0 0)).alloc (.cells #[.slice a len cap] 62)
  have bA := Boxed.new (((w.alloc (.cells #[.slice none 0 0] 35)).alloc (.cells #[.int .i64 0] 29)).alloc (.cells #[.slice none 0 0] 35)) 62 (.slice a len cap)
  simp only [World.size_alloc] at bR2 bO bA
  have hB0 : Below w.heap.size w ((((w.alloc (.cells #[.slice none 0 0] 35)).alloc (.cells #[.int .i64 0] 29)).alloc (.cells #[.slice none 0 0] 35)).alloc (.cells #[.slice a len cap] 62)) :=
    ((((Below.refl _ w).alloc (Nat.le_refl _) _).alloc (by simp) _).alloc (by simp; omega) _).alloc (by simp; omega) _
  have hsz : ((((w.alloc (.cells #[.slice none 0 0] 35)).alloc (.cells #[.int .i64 0] 29)).alloc (.cells #[.slice none 0 0] 35)).alloc (.cells #[.slice a len cap] 62)).heap.size = w.heap.size + 4 := by simp
  obtain ⟨W0, hW0⟩ : ∃ W0, (((w.alloc (.cells #[.slice none 0 0] 35)).alloc (.cells #[.int .i64 0] 29)).alloc (.cells #[.slice none 0 0] 35)).alloc (.cells #[.slice a len cap] 62) = W0 := ⟨_, rfl⟩
  rw [hW0] at bR1 bR2 bO bA hB0 hsz ⊢
  clear hW0
  have hge : w.heap.size + 4 ≤ W0.heap.size := Nat.le_of_eq hsz.symm
  clear hsz
  refine wpIn_rangeFunc_ownH rfl h1 (gf := 73) (lb := #[.pointer (some ⟨w.heap.size + 1 + 1 + 1, 0, none⟩)]) rfl trivial (enters_of Tryd.func73 (by kernel_rfl) rfl)
    (judged_stops (n - 1) (by omega) (w.heap.size + 1 + 1 + 1) w.heap.size a len cap fs W0 (by omega) (by omega) bA.cell (hR.below hB0)) kpJ_t (kpJ_b (by omega)) (Below.refl _ _) (fun _ => rfl)
    (fun pre W => ((∃ v, Boxed W (w.heap.size + 1 + 1) 35 v ∧ W.ownsRow W0.heap.size 5 1 v (outB pre).length (cellsOf (outB pre)) ∧ True) ∧ (Boxed W w.heap.size 35 (.slice none 0 0) ∧ Boxed W (w.heap.size + 1) 29 (.int .i64 0))) ∧ ((∀ x ∈ pre, x.e = 0) ∧ Below w.heap.size w W))
    (fun c pre W => (c = .ret ∧ ∃ pre' x, pre = pre' ++ [x] ∧ (∀ y ∈ pre', y.e = 0) ∧ x.e ≠ 0 ∧ Boxed W w.heap.size 35 (.slice none 0 0) ∧ Boxed W (w.heap.size + 1) 29 (.int .i64 x.e)) ∧ Below w.heap.size w W)
    (OwnFrom.and (OwnFrom.and (Own.from (holdsRow_own W0.heap.size (w.heap.size + 1 + 1) 35 5 1 (fun pre => (outB pre).length) (fun pre => cellsOf (outB pre)) (fun _ _ => True)) _) (OwnFrom.and (Own.from (boxed_own _ _ _) _) (Own.from (boxed_own _ _ _) _))) (OwnFrom.and (ownFrom_pure _ _) (ownFrom_below (Nat.le_refl _) (by omega))))
    (fun c => OwnFrom.and (fun s X Y row hs hg hr => by
      obtain ⟨hc, pre', x, e1, e2, e3, b1, b2⟩ := hs
      exact ⟨hc, pre', x, e1, e2, e3, cells_stay b1 hg (fun r e => (hr r e).2), cells_stay b2 hg (fun r e => (hr r e).2)⟩) (ownFrom_below (Nat.le_refl _) (by omega)))
    ⟨⟨⟨_, bO, World.ownsRow_nil _ _ _ _, trivial⟩, bR1, bR2⟩, by simp, hB0⟩
    (fun x a' W => ∃ Bx, w.heap.size + 1 + 1 < Bx ∧ W.heap[Bx]? = some (.cells #[.int .i64 x.tag, .string x.d] 59 (0, 0)) ∧ a' = { tmps := #[.slice a len cap, undef, .pointer (some ⟨w.heap.size, 0, none⟩), .pointer (some ⟨w.heap.size + 1, 0, none⟩), .pointer (some ⟨w.heap.size + 1 + 1, 0, none⟩), .pointer (some ⟨Bx, 0, none⟩), .int .i64 x.e, .slice a len cap, .func (.func 73) #[] #[.pointer (some ⟨w.heap.size + 1 + 1 + 1, 0, none⟩)], .agg #[.int .i64 x.tag, .string x.d], .int .i64 x.e, undef, undef, undef, undef, undef, undef, undef], defers := [] })
    (fun x a' _ X Y row hs hg hr => by obtain ⟨Bx, h1, h2, h3⟩ := hs; exact ⟨Bx, h1, cells_stay h2 hg (fun r e => (hr r e).2), h3⟩)
    ?assign ?body ?done ?stop
  case assign =>
    rintro l pre x W K ⟨⟨⟨v, bO1, hrow, ht⟩, bR11, bR21⟩, hz, hB1⟩ hK
    dsimp only [encJ]
    gi_wp2
    refine hK _ _ ((KeepsOthers.alloc _ _).from _) ⟨(Below.refl _ W).alloc hB1.size _, fun b c m hb => (Below.heap_alloc W _ b (Array.getElem?_eq_some_iff.1 hb).1).trans hb⟩ ⟨⟨⟨v, bO1.alloc _, hrow.alloc _, ht⟩, bR11.alloc _, bR21.alloc _⟩, hz, hB1.alloc hB1.size _⟩ ⟨W.heap.size, bO1.lt, World.alloc_heap_new W _, rfl⟩
  case body =>
    rintro l pre x a' W hl0 ⟨r, hr⟩ ⟨⟨⟨v, bO1, hrow, ht⟩, bR11, bR21⟩, hz, hB1⟩ ⟨Bx, hBx, bX, rfl⟩ hlt
    have hsW := hB1.size
    have hlW : W0.heap.size ≤ W.heap.size := Nat.le_trans hl0 (Nat.le_of_lt (Array.getElem?_eq_some_iff.1 hr).1)
    clear hr
    have cO := bO1.cell
    have fO := bO1.frozen
    have cX0 : W.cell? ⟨Bx, 0, none⟩ = some (.int .i64 x.tag) := by simp [World.cell?, bX]
    have cX1 : W.cell? ⟨Bx, 1, none⟩ = some (.string x.d) := by simp [World.cell?, bX]
    have c1 := bR11.cell
    have f1 := bR11.frozen
    have c2 := bR21.cell
    have f2 := bR21.frozen
    by_cases he : x.e = 0
    · have HE : Hid (x.e = 0) := he
      have he' : (x.e != 0) = false := by rw [he]; rfl
      clear he
      have hd := x.ok HE.out
      have hol := outB_length pre hz
      gi_wp2
      refine ⟨trivial, fun h => (by cases h), ?_⟩
      refine (CallsIn.inRound l (callsIn_wide.2 (appendField_int v (outB pre) W0.heap.size x.tag x.d W hd (by omega) (by omega) hrow))).mono ?_
      rintro e W1 ⟨v', rfl, hown', hb', hs'⟩
      rw [← outB_snoc] at hown'
      have hs1 : W.heap.size ≤ W1.heap.size := hb'.size
      have bO2 : Boxed W1 (w.heap.size + 1 + 1) 35 v := spares_box hs' (by decide) bO1
      have cO2 := bO2.cell
      have fO2 := bO2.frozen
      obtain ⟨a', n', c', hv'⟩ : ∃ a' n' c', v' = .slice a' n' c' := by
        rcases hown'.2 with ⟨h, _⟩ | ⟨g, cp, _, h, _⟩
        · exact ⟨_, _, _, h⟩
        · exact ⟨_, _, _, h⟩
      have hne : ∀ (b : Nat) (c : Array Value) (m : Nat × Nat), W.heap[b]? = some (Obj.cells c 59 m) → b ≠ w.heap.size + 1 + 1 := by
        intro b c m hb e
        subst e
        rw [show W.heap[w.heap.size + 1 + 1]? = _ from bO1] at hb
        cases hb
      have FIN : Hid (KeepsFrom W0.heap.size W (W1.setCell ⟨w.heap.size + 1 + 1, 0, none⟩ v') ∧ KpJ w.heap.size W (W1.setCell ⟨w.heap.size + 1 + 1, 0, none⟩ v') ∧
          (((∃ v, Boxed (W1.setCell ⟨w.heap.size + 1 + 1, 0, none⟩ v') (w.heap.size + 1 + 1) 35 v ∧ (W1.setCell ⟨w.heap.size + 1 + 1, 0, none⟩ v').ownsRow W0.heap.size 5 1 v (outB (pre ++ [x])).length (cellsOf (outB (pre ++ [x]))) ∧ True) ∧
            (Boxed (W1.setCell ⟨w.heap.size + 1 + 1, 0, none⟩ v') w.heap.size 35 (.slice none 0 0) ∧ Boxed (W1.setCell ⟨w.heap.size + 1 + 1, 0, none⟩ v') (w.heap.size + 1) 29 (.int .i64 0))) ∧
          ((∀ y ∈ pre ++ [x], y.e = 0) ∧ Below w.heap.size w (W1.setCell ⟨w.heap.size + 1 + 1, 0, none⟩ v')))) := by
        refine ⟨((spares_others hs' hs1).trans (KeepsOthers.setCell _ _ _)).from _, ⟨(hb'.mono (by omega)).setCell (p := ⟨w.heap.size + 1 + 1, 0, none⟩) (by show w.heap.size ≤ w.heap.size + 1 + 1; omega) _, fun b c m hb => set_other (spares_box hs' (by decide) hb) (hne b c m hb) _⟩,
          ⟨⟨⟨v', bO2.set _, ?_, trivial⟩, set_other (spares_box hs' (by decide) bR11) (by omega) _, set_other (spares_box hs' (by decide) bR21) (by omega) _⟩, ?_, (hB1.trans (hb'.mono (by omega))).setCell (p := ⟨w.heap.size + 1 + 1, 0, none⟩) (by show w.heap.size ≤ w.heap.size + 1 + 1; omega) _⟩⟩
        · refine hown'.kept (grownBy_setCell' W1 _ v') ?_
          rcases hown'.2 with ⟨h, _⟩ | ⟨g, cp, _, h, hg, _⟩
          · left; rw [h]; rfl
          · right; rw [h]; intro e; simp [Value.ownBlock] at e; omega
        · intro y hy
          rcases List.mem_append.1 hy with h | h
          · exact hz y h
          · simp at h; subst h; exact HE.out
      subst hv'
      clear hown' hrow hs' hb'
      gi_wp2
      exact FIN.out
    · have HE : Hid (x.e ≠ 0) := he
      have he' : (x.e != 0) = true := by simpa using he
      clear he
      have FIN : Hid (KeepsFrom W0.heap.size W ((W.setCell ⟨w.heap.size, 0, none⟩ (.slice none 0 0)).setCell ⟨w.heap.size + 1, 0, none⟩ (.int .i64 x.e)) ∧
          ((∃ pre' x', pre ++ [x] = pre' ++ [x'] ∧ (∀ y ∈ pre', y.e = 0) ∧ x'.e ≠ 0 ∧ Boxed ((W.setCell ⟨w.heap.size, 0, none⟩ (.slice none 0 0)).setCell ⟨w.heap.size + 1, 0, none⟩ (.int .i64 x.e)) w.heap.size 35 (.slice none 0 0) ∧
            Boxed ((W.setCell ⟨w.heap.size, 0, none⟩ (.slice none 0 0)).setCell ⟨w.heap.size + 1, 0, none⟩ (.int .i64 x.e)) (w.heap.size + 1) 29 (.int .i64 x'.e)) ∧ Below w.heap.size w ((W.setCell ⟨w.heap.size, 0, none⟩ (.slice none 0 0)).setCell ⟨w.heap.size + 1, 0, none⟩ (.int .i64 x.e)))) :=
        ⟨((KeepsOthers.setCell _ _ _).trans (KeepsOthers.setCell _ _ _)).from _, ⟨pre, x, rfl, hz, HE.out, set_other (bR11.set _) (by omega) _, Boxed.set _ (show Boxed _ _ _ _ from set_other bR21 (by omega) _)⟩,
          (hB1.setCell (p := ⟨w.heap.size, 0, none⟩) (Nat.le_refl _) _).setCell (p := ⟨w.heap.size + 1, 0, none⟩) (by show w.heap.size ≤ w.heap.size + 1; omega) _⟩
      gi_wp2
      exact ⟨FIN.out.1, ⟨rfl, FIN.out.2.1⟩, FIN.out.2.2⟩
  case done =>
    rintro D ys W hD rfl ⟨⟨⟨v, bO1, hrow, ht⟩, bR11, bR21⟩, hz, hB1⟩ hK
    obtain ⟨a', n', c', hv'⟩ : ∃ a' n' c', v = .slice a' n' c' := by
      rcases hrow.2 with ⟨h, _⟩ | ⟨g, cp, _, h, _⟩
      · exact ⟨_, _, _, h⟩
      · exact ⟨_, _, _, h⟩
    subst hv'
    have cO := bO1.cell
    have c1 := bR11.cell
    have f1 := bR11.frozen
    have c2 := bR21.cell
    have f2 := bR21.frozen
    have HRW : Hid (W.ownsRow W0.heap.size 5 1 (.slice a' n' c') (outB (judge 0 fs)).length (cellsOf (outB (judge 0 fs)))) := hrow
    clear hrow
    gi_wp2
    have hK' := ((KeepsOthers.setCell W ⟨w.heap.size, 0, none⟩ (.slice a' n' c')).trans (KeepsOthers.setCell _ ⟨w.heap.size + 1, 0, none⟩ (.int .i64 0))).same D _ hK rfl
    refine ⟨by simp, .inl ⟨_, _, rfl, run_takeDeferred hK', ?_⟩⟩
    have b1 : Boxed ((W.setCell ⟨w.heap.size, 0, none⟩ (.slice a' n' c')).setCell ⟨w.heap.size + 1, 0, none⟩ (.int .i64 0)) w.heap.size 35 (.slice a' n' c') := set_other (bR11.set _) (by omega) _
    have b2 : Boxed ((W.setCell ⟨w.heap.size, 0, none⟩ (.slice a' n' c')).setCell ⟨w.heap.size + 1, 0, none⟩ (.int .i64 0)) (w.heap.size + 1) 29 (.int .i64 0) := Boxed.set _ (show Boxed _ _ _ _ from set_other bR21 (by omega) _)
    have q1 := cell_kept b1.cell (grownBy_putObj' _ D (.deferred none)) (fun r e => by cases e; exact ⟨_, hK', rfl⟩)
    have q2 := cell_kept b2.cell (grownBy_putObj' _ D (.deferred none)) (fun r e => by cases e; exact ⟨_, hK', rfl⟩)
    have hoff : ∀ B', B' < W0.heap.size → Value.ownBlock (.slice a' n' c') ≠ some B' := by
      intro B' hlt e
      have := (HRW.out.lt B' e).1
      omega
    have hrow2 := (HRW.out.kept (grownBy_setCell' W w.heap.size (.slice a' n' c')) (.inr (hoff _ (by omega)))).kept (grownBy_setCell' _ (w.heap.size + 1) (.int .i64 0)) (.inr (hoff _ (by omega)))
    refine ⟨.tuple #[.slice a' n' c', .int .i64 0], ?_, .inl ⟨hz, _, rfl, own_lower (ownsRow_putObj hrow2 _ hK' rfl) (by omega), ((hB1.setCell (p := ⟨w.heap.size, 0, none⟩) (Nat.le_refl _) _).setCell (p := ⟨w.heap.size + 1, 0, none⟩) (by show w.heap.size ≤ w.heap.size + 1; omega) _).trans (belowK_b (w := w) (Nat.le_refl _) _ D _ _ (by omega) hK' rfl rfl)⟩⟩
    simp [results, Tryd.f33, go_sem, q1, q2]
  case stop =>
    rintro D c pre W hD hpre ⟨⟨rfl, pre', x, rfl, hz, hx, bR11, bR21⟩, hB1⟩ hK
    gi_wp2
    refine ⟨by simp, .inl ⟨_, _, rfl, run_takeDeferred hK, ?_⟩⟩
    have q1 := cell_kept bR11.cell (grownBy_putObj' _ D (.deferred none)) (fun r e => by cases e; exact ⟨_, hK, rfl⟩)
    have q2 := cell_kept bR21.cell (grownBy_putObj' _ D (.deferred none)) (fun r e => by cases e; exact ⟨_, hK, rfl⟩)
    refine ⟨.tuple #[.slice none 0 0, .int .i64 x.e], ?_, .inr ⟨pre', x, hpre, hz, hx, rfl, hB1.trans (belowK_b (w := w) (Nat.le_refl _) W D _ _ (by omega) hK rfl rfl)⟩⟩
    simp [results, Tryd.f33, go_sem, q1, q2]
end Go.Proofs.YtdnhnjimhbbabaaDoor

/- What pack.Read answers: the row of fields that bytes are made of, or what is wrong first. -/
namespace Go.Proofs.YtdnhnjimhbbabaaDoor
open Go.RowKit Go.Shelf Nums
set_option maxRecDepth 100000

attribute [local go_sem] Oper.semAt_some
theorem info37 : (Tryd.prog.info? 59).map (fun i => (i.zero, i.size, i.bytes)) = some (some (.agg #[.int .i64 0, .string ⟨#[]⟩]), 2, 24) := by kernel_rfl
/-- Every field's block lies as it lay. -/
def Keep2 (W W' : World) : Prop := ∀ (b : Nat) (x y : Value) (m : Nat × Nat), W.heap[b]? = some (Obj.cells #[x, y] 59 m) → W'.heap[b]? = some (Obj.cells #[x, y] 59 m)
theorem Keep2.trans {A B C : World} (h : Keep2 A B) (k : Keep2 B C) : Keep2 A C := fun b x y m hb => k b x y m (h b x y m hb)
theorem Keep2.below {A B : World} (h : Below A.heap.size A B) : Keep2 A B := fun b _ _ _ hb => (h.block b (Array.getElem?_eq_some_iff.1 hb).1).trans hb
theorem Keep2.none {A B : World} (h : A.grownBy B none) : Keep2 A B := fun b _ _ _ hb => (h.block b (Array.getElem?_eq_some_iff.1 hb).1 (by simp)).trans hb
theorem run_append_field (W : World) (B : Nat) (v : Value) (fs : List (Int × ByteArray)) (f : Int × ByteArray) (hown : W.ownsRow B 59 2 v fs.length (fcells fs)) (hnil : v = .slice none 0 0 ↔ fs = []) (hB : B ≤ W.heap.size) (hl : fs.length ≤ 1048576) :
    ∃ v' w1, (Builtin.append_ #[62, 62] 62 #[v, .slice (some ⟨W.heap.size, 0, none⟩) 1 1]).run Tryd.prog (W.alloc (.cells #[.int .i64 f.1, .string f.2] 59)) = .ok v' w1 ∧
      w1.ownsRow B 59 2 v' (fs.length + 1) (fcells (fs ++ [f])) ∧ Below B W w1 ∧ Spares 59 W w1 ∧ Keep2 W w1 := by
  obtain ⟨i0, hi, hz0, hz1, hz2⟩ := info_parts info37
  have hb0 : Below W.heap.size W (W.alloc (.cells #[.int .i64 f.1, .string f.2] 59)) := (Below.refl _ _).alloc (Nat.le_refl _) _
  have hn : ∀ (j : Nat) (u : Value), (fcells [f])[j]? = some u → (W.alloc (.cells #[.int .i64 f.1, .string f.2] 59)).cell? ((⟨W.heap.size, 0, none⟩ : Addr).add j) = some u := by
    intro j u hj
    rw [add_plain]
    match j, hj with
    | 0, hj => simp [fcells] at hj; subst hj; simp
    | 1, hj => simp [fcells] at hj; subst hj; simp
    | j + 2, hj => simp [fcells] at hj
  have h1 : ∀ u ∈ fcells [f], u.oneCell' = true := by
    intro u hu
    simp [fcells] at hu
    rcases hu with rfl | rfl <;> rfl
  have hown1 := hown.alloc (.cells #[.int .i64 f.1, .string f.2] 59)
  have hsz : (W.alloc (.cells #[.int .i64 f.1, .string f.2] 59)).heap.size = W.heap.size + 1 := by simp
  rcases hown.2 with ⟨hv, h0⟩ | ⟨g, cap, cur, hv, hbg, hgb, hnc, hcm, hcs, htk⟩
  · obtain ⟨v', w1, hr, ho, hg, _⟩ := run_append_own (P := Tryd.prog) _ B 62 62 59 i0 (.agg #[.int .i64 0, .string ⟨#[]⟩]) 2 24 Tryd.underlying62 hi hz0 hz1 hz2 rfl (by decide) v fs.length _ hown1 ⟨W.heap.size, 0, none⟩ 1 1 (fcells [f]) (by simp [fcells]) hn h1 (by unfold maxLen; omega) (by omega) (by rw [hsz]; omega)
    rw [hv] at hg
    refine ⟨v', w1, hr, by rw [fcells_append]; exact ho, (hb0.mono hB).grown hg (by rw [hsz]; omega) (by intro k hk; cases hk), (Spares.alloc 59 W (.cells #[.int .i64 f.1, .string f.2] 59)).trans ?_, (Keep2.below hb0).trans (Keep2.none hg)⟩
    exact Spares.grown (v := .slice none 0 0) (by rw [← hv]; exact hown1) hg
  · have hfs : fs.length ≠ 0 := by
      intro e
      have : fs = [] := List.eq_nil_of_length_eq_zero e
      have := hnil.2 this
      rw [hv] at this; cases this
    by_cases hroom : fs.length + 1 ≤ cap
    · rw [hv] at hown1 ⊢
      obtain ⟨w1, hr, ho, hg⟩ := run_append_fits (P := Tryd.prog) _ B 62 62 59 i0 2 Tryd.underlying62 hi hz1 g fs.length cap _ hown1 ⟨W.heap.size, 0, none⟩ 1 1 (fcells [f]) (by simp [fcells]) hn h1 hroom
      refine ⟨_, w1, hr, by rw [fcells_append]; exact ho, (hb0.mono hB).grown hg (by rw [hsz]; omega) (by intro k hk; cases hk; exact hbg), (Spares.alloc 59 W (.cells #[.int .i64 f.1, .string f.2] 59)).trans (Spares.grown hown1 hg), (Keep2.below hb0).trans ?_⟩
      intro b x y m hb
      refine (hg.block b (Array.getElem?_eq_some_iff.1 hb).1 ?_).trans hb
      intro e
      cases e
      have hgb' : (W.alloc (.cells #[.int .i64 f.1, .string f.2] 59)).heap[g]? = some (.cells cur 59 (0, 0)) := (hb0.block g (Array.getElem?_eq_some_iff.1 hgb).1).trans hgb
      rw [hgb'] at hb
      cases hb
      simp at hcs
      omega
    · rw [hv]
      have hcells : ∀ (j : Nat) (u : Value), (fcells fs)[j]? = some u → (W.alloc (.cells #[.int .i64 f.1, .string f.2] 59)).cell? ((⟨g, 0, none⟩ : Addr).add j) = some u := hown1.cells (g := g) (by rw [hv]; rfl)
      obtain ⟨v', w1, hr, ho, hg⟩ := run_append_arg_grows (P := Tryd.prog) _ 62 62 59 i0 (.agg #[.int .i64 0, .string ⟨#[]⟩]) 2 24 Tryd.underlying62 hi hz0 hz1 hz2 rfl (by decide) ⟨g, 0, none⟩ fs.length cap (fcells fs) (fcells_length fs) hcells ⟨W.heap.size, 0, none⟩ 1 1 (fcells [f]) (by simp [fcells]) hn (by omega) (by unfold maxLen; omega) (by omega)
      refine ⟨v', w1, hr, by rw [fcells_append]; exact own_lower ho (by rw [hsz]; omega), (hb0.mono hB).grown hg (by rw [hsz]; omega) (by intro k hk; cases hk), (Spares.alloc 59 W (.cells #[.int .i64 f.1, .string f.2] 59)).trans ?_, (Keep2.below hb0).trans (Keep2.none hg)⟩
      intro i o hi2 _
      exact (hg.block i (Array.getElem?_eq_some_iff.1 hi2).1 (by simp)).trans hi2
theorem wpListIn_append_run {F : Fence} {n : Nat} {P : Program} {w : World} {ops : Array Oper} {rest : List Oper} {o : Oper} {a : Act} {Q : Exit → Act → World → Prop}
    (hg : o.guard = none) (s x : Operand) (t u : TypeId) (hop : o.op = Op.call { callee := Callee.builtin Builtin.append, args := #[s, x], argTypes := #[t, u] })
    (vs vx v' : Value) (w' : World) (hs : a.eval s = vs) (hx : a.eval x = vx) (hrun : (Builtin.append_ #[t, u] o.type #[vs, vx]).run P w = .ok v' w')
    (hK : wpListIn F n P ops Q rest (a.put o.dst v') w') : wpListIn F n P ops Q (o :: rest) a w := by
  refine wpListIn_plain hg fun K hK' => ?_
  unfold Oper.wpIn
  refine ⟨?_, ?_⟩
  · simp [Oper.about, hop, resolve, Target.leads, Sem.run_pure]
  · rw [Oper.semAt_plain F _ _ (by rw [hop]; intro c hc'; cases hc')]
    simp [execOp, hop, resolve, invoke, builtin, hs, hx, hrun, Result.andThen]
    exact hK' _ _ hK
theorem spares_boxT {T : TypeId} {w w' : World} (h : Spares T w w') {b : Nat} {c : Array Value} {t : TypeId} {m : Nat × Nat} (ht : t ≠ T) (hb : w.heap[b]? = some (.cells c t m)) : w'.heap[b]? = some (.cells c t m) :=
  h b _ hb (fun c' m' e => by cases e; exact ht rfl)
theorem spares_othersT {T : TypeId} {w w' : World} (h : Spares T w w') (hs : w.heap.size ≤ w'.heap.size) : KeepsOthers w w' := ⟨hs, fun k o hk ho => h k o hk (fun c m e => by subst e; cases ho)⟩
set_option maxRecDepth 100000 in
set_option maxHeartbeats 4000000 in
theorem read_in (n : Nat) (hn : 3 ≤ n) (a : Option Addr) (len cap : Nat) (bs : List UInt8) (w : World) (hR : Reads w a len cap bs) (hl : len ≤ 1000000) :
    CallsIn Fence.wide n Tryd.prog 63 #[.slice a len cap] w fun e W' =>
      ((∀ x ∈ parse (len + 1) 0 bs, x.e = 0) ∧ ∃ v, e = .returned (.tuple #[v, .int .i64 0]) ∧ W'.ownsRow w.heap.size 59 2 v (toF (parse (len + 1) 0 bs)).length (fcells (toF (parse (len + 1) 0 bs))) ∧ Below w.heap.size w W') ∨
      (∃ pre x, (pre ++ [x]) <+: parse (len + 1) 0 bs ∧ (∀ y ∈ pre, y.e = 0) ∧ x.e ≠ 0 ∧ e = .returned (.tuple #[.slice none 0 0, .int .i64 x.e]) ∧ Below w.heap.size w W') := by
  have h1 : 1 ≤ n := by omega
  refine callsIn_of_wp_marks Tryd.func63 rfl trivial ?_ rfl
  simp only [Tryd.ntmps63, List.size_toArray, List.length_cons, List.length_nil, Nat.reduceAdd, Nat.reduceSub, Array.replicate_succ, Array.replicate_zero, List.push_toArray, List.append_toArray, List.nil_append, List.cons_append]
  gi_wp2_with (refine ⟨trivial, ?_⟩; gi_at_call 78; refine (parsed_in (n - 1) _ _ _ _).mono ?_; rintro e w' ⟨rfl, rfl⟩)
  have bR1 := (((Boxed.new w 62 (.slice none 0 0)).alloc (.cells #[.int .i64 0] 29)).alloc (.cells #[.slice none 0 0] 62)).alloc (.cells #[.slice a len cap] 35)
  have bR2 := ((Boxed.new (w.alloc (.cells #[.slice none 0 0] 62)) 29 (.int .i64 0)).alloc (.cells #[.slice none 0 0] 62)).alloc (.cells #[.slice a len cap] 35)
  have bO := (Boxed.new ((w.alloc (.cells #[.slice none 0 0] 62)).alloc (.cells #[.int .i64 0] 29)) 62 (.slice none 0 0)).alloc (.cells #[.slice a len cap] 35)
  have bA := Boxed.new (((w.alloc (.cells #[.slice none 0 0] 62)).alloc (.cells #[.int .i64 0] 29)).alloc (.cells #[.slice none 0 0] 62)) 35 (.slice a len cap)
  simp only [World.size_alloc] at bR2 bO bA
  have hB0 : Below w.heap.size w ((((w.alloc (.cells #[.slice none 0 0] 62)).alloc (.cells #[.int .i64 0] 29)).alloc (.cells #[.slice none 0 0] 62)).alloc (.cells #[.slice a len cap] 35)) :=
    ((((Below.refl _ w).alloc (Nat.le_refl _) _).alloc (by simp) _).alloc (by simp; omega) _).alloc (by simp; omega) _
  have hsz : ((((w.alloc (.cells #[.slice none 0 0] 62)).alloc (.cells #[.int .i64 0] 29)).alloc (.cells #[.slice none 0 0] 62)).alloc (.cells #[.slice a len cap] 35)).heap.size = w.heap.size + 4 := by simp
  obtain ⟨W0, hW0⟩ : ∃ W0, (((w.alloc (.cells #[.slice none 0 0] 62)).alloc (.cells #[.int .i64 0] 29)).alloc (.cells #[.slice none 0 0] 62)).alloc (.cells #[.slice a len cap] 35) = W0 := ⟨_, rfl⟩
  rw [hW0] at bR1 bR2 bO bA hB0 hsz ⊢
  clear hW0
  have hge : w.heap.size + 4 ≤ W0.heap.size := Nat.le_of_eq hsz.symm
  clear hsz
  refine wpIn_rangeFunc_ownH rfl h1 (gf := 86) (lb := #[.pointer (some ⟨w.heap.size + 1 + 1 + 1, 0, none⟩)]) rfl trivial (enters_of Tryd.func86 (by kernel_rfl) rfl)
    (parsed_stops (n - 1) (by omega) (w.heap.size + 1 + 1 + 1) w.heap.size a len cap bs W0 (by omega) (by omega) bA.cell (LReads.below hB0 hR.lreads)) kpP_t (kpP_b (by omega)) (Below.refl _ _) (fun _ => rfl)
    (fun pre W => ((∃ v, Boxed W (w.heap.size + 1 + 1) 62 v ∧ W.ownsRow W0.heap.size 59 2 v (toF pre).length (fcells (toF pre)) ∧ (v = .slice none 0 0 ↔ toF pre = [])) ∧ (Boxed W w.heap.size 62 (.slice none 0 0) ∧ Boxed W (w.heap.size + 1) 29 (.int .i64 0))) ∧ ((∀ x ∈ pre, x.e = 0) ∧ Below w.heap.size w W))
    (fun c pre W => (c = .ret ∧ ∃ pre' x, pre = pre' ++ [x] ∧ (∀ y ∈ pre', y.e = 0) ∧ x.e ≠ 0 ∧ Boxed W w.heap.size 62 (.slice none 0 0) ∧ Boxed W (w.heap.size + 1) 29 (.int .i64 x.e)) ∧ Below w.heap.size w W)
    (OwnFrom.and (OwnFrom.and (Own.from (holdsRow_own W0.heap.size (w.heap.size + 1 + 1) 62 59 2 (fun pre => (toF pre).length) (fun pre => fcells (toF pre)) (fun pre v => v = .slice none 0 0 ↔ toF pre = [])) _) (OwnFrom.and (Own.from (boxed_own _ _ _) _) (Own.from (boxed_own _ _ _) _))) (OwnFrom.and (ownFrom_pure _ _) (ownFrom_below (Nat.le_refl _) (by omega))))
    (fun c => OwnFrom.and (fun s X Y row hs hg hr => by
      obtain ⟨hc, pre', x, e1, e2, e3, b1, b2⟩ := hs
      exact ⟨hc, pre', x, e1, e2, e3, cells_stay b1 hg (fun r e => (hr r e).2), cells_stay b2 hg (fun r e => (hr r e).2)⟩) (ownFrom_below (Nat.le_refl _) (by omega)))
    ⟨⟨⟨_, bO, World.ownsRow_nil _ _ _ _, by simp [toF]⟩, bR1, bR2⟩, by simp, hB0⟩
    (fun x a' W => ∃ Bx, w.heap.size + 1 + 1 < Bx ∧ W.heap[Bx]? = some (.cells #[.int .i64 x.tag, .string ⟨x.d.toArray⟩] 59 (0, 0)) ∧ a' = { tmps := #[.slice a len cap, undef, .pointer (some ⟨w.heap.size, 0, none⟩), .pointer (some ⟨w.heap.size + 1, 0, none⟩), .pointer (some ⟨w.heap.size + 1 + 1, 0, none⟩), .pointer (some ⟨Bx, 0, none⟩), .int .i64 x.e, .slice a len cap, .func (.func 86) #[] #[.pointer (some ⟨w.heap.size + 1 + 1 + 1, 0, none⟩)], .agg #[.int .i64 x.tag, .string ⟨x.d.toArray⟩], .int .i64 x.e, undef, undef, undef, undef, undef, undef, undef, undef], defers := [] })
    (fun x a' _ X Y row hs hg hr => by obtain ⟨Bx, h1, h2, h3⟩ := hs; exact ⟨Bx, h1, cells_stay h2 hg (fun r e => (hr r e).2), h3⟩)
    ?assign ?body ?done ?stop
  case assign =>
    rintro l pre x W K ⟨⟨⟨v, bO1, hrow, ht⟩, bR11, bR21⟩, hz, hB1⟩ hK
    dsimp only [encP]
    gi_wp2
    refine hK _ _ ((KeepsOthers.alloc _ _).from _) ⟨(Below.refl _ W).alloc hB1.size _, fun b c _ m hb => (Below.heap_alloc W _ b (Array.getElem?_eq_some_iff.1 hb).1).trans hb⟩ ⟨⟨⟨v, bO1.alloc _, hrow.alloc _, ht⟩, bR11.alloc _, bR21.alloc _⟩, hz, hB1.alloc hB1.size _⟩ ⟨W.heap.size, bO1.lt, World.alloc_heap_new W _, rfl⟩
  case body =>
    rintro l pre x a' W hl0 ⟨r, hr⟩ ⟨⟨⟨v, bO1, hrow, ht⟩, bR11, bR21⟩, hz, hB1⟩ ⟨Bx, hBx, bX, rfl⟩ hlt
    have hsW := hB1.size
    have hlW : W0.heap.size ≤ W.heap.size := Nat.le_trans hl0 (Nat.le_of_lt (Array.getElem?_eq_some_iff.1 hr).1)
    clear hr
    have cO := bO1.cell
    have fO := bO1.frozen
    have cX0 : W.cell? ⟨Bx, 0, none⟩ = some (.int .i64 x.tag) := by simp [World.cell?, bX]
    have cX1 : W.cell? ⟨Bx, 1, none⟩ = some (.string ⟨x.d.toArray⟩) := by simp [World.cell?, bX]
    have c1 := bR11.cell
    have f1 := bR11.frozen
    have c2 := bR21.cell
    have f2 := bR21.frozen
    by_cases he : x.e = 0
    · have HE : Hid (x.e = 0) := he
      have he' : ((x.e : Int) != 0) = false := by rw [he]; rfl
      clear he
      obtain ⟨v', W1, hrun, hown', hb', hs', hk'⟩ := run_append_field W W0.heap.size v (toF pre) ((x.tag : Int), ⟨x.d.toArray⟩) hrow ht hlW (by rw [toF_length]; omega)
      have HRUN : Hid _ := hrun
      clear hrun
      rw [← toF_snoc] at hown'
      have hl1 : (toF pre).length + 1 = (toF (pre ++ [x])).length := by rw [toF_length, toF_length, List.length_append]; rfl
      rw [hl1] at hown'
      have hs1 : W.heap.size ≤ W1.heap.size := hb'.size
      have bO2 : Boxed W1 (w.heap.size + 1 + 1) 62 v := spares_boxT hs' (by decide) bO1
      have cO2 := bO2.cell
      have fO2 := bO2.frozen
      have hpos : (toF (pre ++ [x])).length ≠ 0 := by rw [toF_length, List.length_append]; simp
      obtain ⟨a', n', c', hv'⟩ : ∃ a' n' c', v' = .slice (some a') n' c' := by
        rcases hown'.2 with ⟨_, h⟩ | ⟨g, cp, _, h, _⟩
        · exact absurd h hpos
        · exact ⟨_, _, _, h⟩
      have hne : ∀ (b : Nat) (c d : Value) (m : Nat × Nat), W.heap[b]? = some (Obj.cells #[c, d] 59 m) → b ≠ w.heap.size + 1 + 1 := by
        intro b c d m hb e
        subst e
        rw [show W.heap[w.heap.size + 1 + 1]? = _ from bO1] at hb
        cases hb
      have FIN : Hid (KeepsFrom W0.heap.size W (W1.setCell ⟨w.heap.size + 1 + 1, 0, none⟩ v') ∧ KpP w.heap.size W (W1.setCell ⟨w.heap.size + 1 + 1, 0, none⟩ v') ∧
          (((∃ v, Boxed (W1.setCell ⟨w.heap.size + 1 + 1, 0, none⟩ v') (w.heap.size + 1 + 1) 62 v ∧ (W1.setCell ⟨w.heap.size + 1 + 1, 0, none⟩ v').ownsRow W0.heap.size 59 2 v (toF (pre ++ [x])).length (fcells (toF (pre ++ [x]))) ∧ (v = .slice none 0 0 ↔ toF (pre ++ [x]) = [])) ∧
            (Boxed (W1.setCell ⟨w.heap.size + 1 + 1, 0, none⟩ v') w.heap.size 62 (.slice none 0 0) ∧ Boxed (W1.setCell ⟨w.heap.size + 1 + 1, 0, none⟩ v') (w.heap.size + 1) 29 (.int .i64 0))) ∧
          ((∀ y ∈ pre ++ [x], y.e = 0) ∧ Below w.heap.size w (W1.setCell ⟨w.heap.size + 1 + 1, 0, none⟩ v')))) := by
        refine ⟨((spares_othersT hs' hs1).trans (KeepsOthers.setCell _ _ _)).from _, ⟨(hb'.mono (by omega)).setCell (p := ⟨w.heap.size + 1 + 1, 0, none⟩) (by show w.heap.size ≤ w.heap.size + 1 + 1; omega) _, fun b c d m hb => set_other (hk' b c d m hb) (hne b c d m hb) _⟩,
          ⟨⟨⟨v', bO2.set _, ?_, ?_⟩, set_other (spares_boxT hs' (by decide) bR11) (by omega) _, set_other (spares_boxT hs' (by decide) bR21) (by omega) _⟩, ?_, (hB1.trans (hb'.mono (by omega))).setCell (p := ⟨w.heap.size + 1 + 1, 0, none⟩) (by show w.heap.size ≤ w.heap.size + 1 + 1; omega) _⟩⟩
        · refine hown'.kept (grownBy_setCell' W1 _ v') ?_
          rcases hown'.2 with ⟨h, _⟩ | ⟨g, cp, _, h, hg, _⟩
          · left; rw [h]; rfl
          · right; rw [h]; intro e; simp [Value.ownBlock] at e; omega
        · rw [hv']
          constructor
          · intro h; cases h
          · intro h; rw [h] at hpos; exact absurd rfl hpos
        · intro y hy
          rcases List.mem_append.1 hy with h | h
          · exact hz y h
          · simp at h; subst h; exact HE.out
      subst hv'
      clear hown' hrow hs' hb' hk' ht hl1 hpos
      gi_wp2_with (first
        | (gi_at_builtin; refine wpListIn_append_run (by rfl) (.tmp 14) (.tmp 16) 62 62 (by rfl) _ _ _ _ (by rfl) (by rfl) HRUN.out ?_)
        | fail)
      exact FIN.out
    · have HE : Hid (x.e ≠ 0) := he
      have he' : ((x.e : Int) != 0) = true := by simpa using he
      clear he
      have FIN : Hid (KeepsFrom W0.heap.size W ((W.setCell ⟨w.heap.size, 0, none⟩ (.slice none 0 0)).setCell ⟨w.heap.size + 1, 0, none⟩ (.int .i64 x.e)) ∧
          ((∃ pre' x', pre ++ [x] = pre' ++ [x'] ∧ (∀ y ∈ pre', y.e = 0) ∧ x'.e ≠ 0 ∧ Boxed ((W.setCell ⟨w.heap.size, 0, none⟩ (.slice none 0 0)).setCell ⟨w.heap.size + 1, 0, none⟩ (.int .i64 x.e)) w.heap.size 62 (.slice none 0 0) ∧
            Boxed ((W.setCell ⟨w.heap.size, 0, none⟩ (.slice none 0 0)).setCell ⟨w.heap.size + 1, 0, none⟩ (.int .i64 x.e)) (w.heap.size + 1) 29 (.int .i64 x'.e)) ∧ Below w.heap.size w ((W.setCell ⟨w.heap.size, 0, none⟩ (.slice none 0 0)).setCell ⟨w.heap.size + 1, 0, none⟩ (.int .i64 x.e)))) :=
        ⟨((KeepsOthers.setCell _ _ _).trans (KeepsOthers.setCell _ _ _)).from _, ⟨pre, x, rfl, hz, HE.out, set_other (bR11.set _) (by omega) _, Boxed.set _ (show Boxed _ _ _ _ from set_other bR21 (by omega) _)⟩,
          (hB1.setCell (p := ⟨w.heap.size, 0, none⟩) (Nat.le_refl _) _).setCell (p := ⟨w.heap.size + 1, 0, none⟩) (by show w.heap.size ≤ w.heap.size + 1; omega) _⟩
      gi_wp2
      exact ⟨FIN.out.1, ⟨rfl, FIN.out.2.1⟩, FIN.out.2.2⟩
  case done =>
    rintro D ys W hD rfl ⟨⟨⟨v, bO1, hrow, ht⟩, bR11, bR21⟩, hz, hB1⟩ hK
    obtain ⟨a', n', c', hv'⟩ : ∃ a' n' c', v = .slice a' n' c' := by
      rcases hrow.2 with ⟨h, _⟩ | ⟨g, cp, _, h, _⟩
      · exact ⟨_, _, _, h⟩
      · exact ⟨_, _, _, h⟩
    subst hv'
    have cO := bO1.cell
    have c1 := bR11.cell
    have f1 := bR11.frozen
    have c2 := bR21.cell
    have f2 := bR21.frozen
    have HRW : Hid (W.ownsRow W0.heap.size 59 2 (.slice a' n' c') (toF (parse (len + 1) 0 bs)).length (fcells (toF (parse (len + 1) 0 bs)))) := hrow
    clear hrow
    gi_wp2
    have hK' := ((KeepsOthers.setCell W ⟨w.heap.size, 0, none⟩ (.slice a' n' c')).trans (KeepsOthers.setCell _ ⟨w.heap.size + 1, 0, none⟩ (.int .i64 0))).same D _ hK rfl
    refine ⟨by simp, .inl ⟨_, _, rfl, run_takeDeferred hK', ?_⟩⟩
    have b1 : Boxed ((W.setCell ⟨w.heap.size, 0, none⟩ (.slice a' n' c')).setCell ⟨w.heap.size + 1, 0, none⟩ (.int .i64 0)) w.heap.size 62 (.slice a' n' c') := set_other (bR11.set _) (by omega) _
    have b2 : Boxed ((W.setCell ⟨w.heap.size, 0, none⟩ (.slice a' n' c')).setCell ⟨w.heap.size + 1, 0, none⟩ (.int .i64 0)) (w.heap.size + 1) 29 (.int .i64 0) := Boxed.set _ (show Boxed _ _ _ _ from set_other bR21 (by omega) _)
    have q1 := cell_kept b1.cell (grownBy_putObj' _ D (.deferred none)) (fun r e => by cases e; exact ⟨_, hK', rfl⟩)
    have q2 := cell_kept b2.cell (grownBy_putObj' _ D (.deferred none)) (fun r e => by cases e; exact ⟨_, hK', rfl⟩)
    have hoff : ∀ B', B' < W0.heap.size → Value.ownBlock (.slice a' n' c') ≠ some B' := by
      intro B' hlt e
      have := (HRW.out.lt B' e).1
      omega
    have hrow2 := (HRW.out.kept (grownBy_setCell' W w.heap.size (.slice a' n' c')) (.inr (hoff _ (by omega)))).kept (grownBy_setCell' _ (w.heap.size + 1) (.int .i64 0)) (.inr (hoff _ (by omega)))
    refine ⟨.tuple #[.slice a' n' c', .int .i64 0], ?_, .inl ⟨hz, _, rfl, own_lower (ownsRow_putObj hrow2 _ hK' rfl) (by omega), ((hB1.setCell (p := ⟨w.heap.size, 0, none⟩) (Nat.le_refl _) _).setCell (p := ⟨w.heap.size + 1, 0, none⟩) (by show w.heap.size ≤ w.heap.size + 1; omega) _).trans (belowK_b (w := w) (Nat.le_refl _) _ D _ _ (by omega) hK' rfl rfl)⟩⟩
    simp [results, Tryd.f63, go_sem, q1, q2]
  case stop =>
    rintro D c pre W hD hpre ⟨⟨rfl, pre', x, rfl, hz, hx, bR11, bR21⟩, hB1⟩ hK
    gi_wp2
    refine ⟨by simp, .inl ⟨_, _, rfl, run_takeDeferred hK, ?_⟩⟩
    have q1 := cell_kept bR11.cell (grownBy_putObj' _ D (.deferred none)) (fun r e => by cases e; exact ⟨_, hK, rfl⟩)
    have q2 := cell_kept bR21.cell (grownBy_putObj' _ D (.deferred none)) (fun r e => by cases e; exact ⟨_, hK, rfl⟩)
    refine ⟨.tuple #[.slice none 0 0, .int .i64 x.e], ?_, .inr ⟨pre', x, hpre, hz, hx, rfl, hB1.trans (belowK_b (w := w) (Nat.le_refl _) W D _ _ (by omega) hK rfl rfl)⟩⟩
    simp [results, Tryd.f63, go_sem, q1, q2]
end Go.Proofs.YtdnhnjimhbbabaaDoor

/- What Lay and Read answer, as plain functions; pack.Lay and pack.Read answer so. -/
namespace Go.Proofs.YtdnhnjimhbbabaaDoor
open Go.RowKit Go.Shelf Nums
set_option maxRecDepth 100000
theorem outB_judge : ∀ (last : Int) (fs : List (Int × ByteArray)), outB (judge last fs) = rowB fs
  | _, [] => rfl
  | last, f :: r => by
    have := outB_judge f.1 r
    simp only [judge, rowB]
    rw [← this]
    simp [outB]
theorem lay_any (a : Option Addr) (len cap : Nat) (fs : List (Int × ByteArray)) (w : World) (hR : FReads w.heap.size w a len cap fs) (hl : len ≤ 400) :
    Calls Tryd.prog 33 #[.slice a len cap] w fun e W' => ∃ v, e = .returned (.tuple #[v, .int .i64 (layE 0 fs)]) ∧ W'.ownsRow w.heap.size 5 1 v (rowOf fs).length (cellsOf (rowOf fs)) ∧ Below w.heap.size w W' := by
  refine ((callsIn_wide (n := 3)).1 (lay_in 3 (by decide) a len cap fs w hR hl)).mono ?_
  rintro e W' (⟨hz, v, rfl, hown, hb⟩ | ⟨pre, x, hp, hz, hx, rfl, hb⟩)
  · have h0 := layE_all 0 fs hz
    refine ⟨v, by rw [h0], ?_, hb⟩
    rw [rowOf, if_pos h0, ← outB_judge 0 fs]
    exact hown
  · have h0 := layE_first pre 0 fs x hp hz hx
    refine ⟨_, by rw [h0], ?_, hb⟩
    rw [rowOf, if_neg (by rw [h0]; exact hx)]
    exact World.ownsRow_nil _ _ _ _
theorem read_any (a : Option Addr) (len cap : Nat) (bs : List UInt8) (w : World) (hR : Reads w a len cap bs) (hl : len ≤ 1000000) :
    Calls Tryd.prog 63 #[.slice a len cap] w fun e W' => ∃ v, e = .returned (.tuple #[v, .int .i64 (readE bs)]) ∧ W'.ownsRow w.heap.size 59 2 v (readF bs).length (fcells (readF bs)) ∧ Below w.heap.size w W' := by
  refine ((callsIn_wide (n := 3)).1 (read_in 3 (by decide) a len cap bs w hR hl)).mono ?_
  have hlen : bs.length = len := hR.1
  rintro e W' (⟨hz, v, rfl, hown, hb⟩ | ⟨pre, x, hp, hz, hx, rfl, hb⟩)
  · have h0 : readE bs = 0 := by rw [readE, hlen]; exact firstE_all _ hz
    refine ⟨v, by rw [h0]; rfl, ?_, hb⟩
    rw [readF, if_pos h0, hlen]
    exact hown
  · have h0 : readE bs = x.e := by rw [readE, hlen]; exact firstE_first pre _ x hp hz hx
    refine ⟨_, by rw [h0], ?_, hb⟩
    rw [readF, if_neg (by rw [h0]; exact hx)]
    exact World.ownsRow_nil _ _ _ _
/-- A row of fields that is owned can be read. -/
theorem freads_own {w : World} {B : Nat} {v : Value} {fs : List (Int × ByteArray)} (h : w.ownsRow B 59 2 v fs.length (fcells fs)) (hm : ∀ f ∈ fs, f.2.size ≤ maxLen) : ∃ a cap, v = .slice a fs.length cap ∧ FReads w.heap.size w a fs.length cap fs := by
  have hcell : ∀ (fs : List (Int × ByteArray)) (i : Nat) (hi : i < fs.length), (fcells fs)[i * 2]? = some (.int .i64 fs[i].1) ∧ (fcells fs)[i * 2 + 1]? = some (.string fs[i].2) := by
    intro fs
    induction fs with
    | nil => intro i hi; simp at hi
    | cons f r ih =>
      intro i hi
      cases i with
      | zero => simp [fcells]
      | succ i =>
        have := ih i (by simpa using hi)
        have e1 : (i + 1) * 2 = i * 2 + 1 + 1 := by omega
        rw [e1]
        simpa [fcells] using this
  rcases h.2 with ⟨rfl, h0⟩ | ⟨g, cap, cur, rfl, hb, hg, hn, hcm, hs, ht⟩
  · exact ⟨none, 0, by rw [h0], rfl, by omega, by decide, hm, .inl ⟨rfl, rfl⟩⟩
  · have hlt := (h.lt g rfl).2
    refine ⟨_, _, rfl, rfl, hn, by unfold maxLen at hcm; omega, hm, .inr (.inr ⟨g, 0, rfl, hlt, fun i hi => ?_⟩)⟩
    have h1 := h.cellAt (i * 2) (by omega)
    have h2 := h.cellAt (i * 2 + 1) (by omega)
    have := hcell fs i hi
    rw [Nat.zero_add]
    exact ⟨h1.trans this.1, h2.trans this.2⟩
end Go.Proofs.YtdnhnjimhbbabaaDoor

/- The examples of the document for rows hold, whatever the world. -/
namespace Go.Proofs.YtdnhnjimhbbabaaDoor
open Go.RowKit Nums
set_option maxRecDepth 100000
theorem parse_small : ∀ (k last : Nat) (l : List UInt8), ∀ x ∈ parse k last l, x.d.length ≤ 65536
  | 0, _, _, x, h => by simp [parse] at h
  | k + 1, last, l, x, h => by
    rw [parse] at h
    by_cases hl : l = []
    · rw [if_pos hl] at h; simp at h
    · rw [if_neg hl] at h
      rcases List.mem_cons.1 h with rfl | h
      · exact gD_le l
      · by_cases he : pE last l = 0
        · rw [if_pos he] at h; exact parse_small k _ _ x h
        · rw [if_neg he] at h; simp at h
theorem readF_small (bs : List UInt8) : ∀ f ∈ readF bs, f.2.size ≤ maxLen := by
  intro f hf
  unfold readF at hf
  by_cases h : readE bs = 0
  · rw [if_pos h] at hf
    unfold toF at hf
    obtain ⟨x, hx, rfl⟩ := List.mem_map.1 hf
    have := parse_small _ _ _ x hx
    show x.d.toArray.size ≤ maxLen
    unfold maxLen
    simp
    omega
  · rw [if_neg h] at hf; simp at hf
theorem lay_reads (a : Option Addr) (len cap : Nat) (fs : List (Int × ByteArray)) (w : World) (hR : FReads w.heap.size w a len cap fs) (hl : len ≤ 400) {k : Int} {l : List UInt8} (hk : layE 0 fs = k) (hr : rowOf fs = l) :
    Calls Tryd.prog 33 #[.slice a len cap] w fun e W' => ∃ a' c', e = .returned (.tuple #[.slice a' l.length c', .int .i64 k]) ∧ Reads W' a' l.length c' l ∧ Below w.heap.size w W' := by
  refine (lay_any a len cap fs w hR hl).mono ?_
  rintro e W' ⟨v, rfl, hown, hb⟩
  rw [hr] at hown
  obtain ⟨a', c', rfl, hrd⟩ := reads_own hown
  exact ⟨a', c', by rw [hk], hrd, hb⟩
/-- A literal slice of fields can be read. -/
theorem freads_lit (w : World) (cs : Array Value) (m : Nat × Nat) (fs : List (Int × ByteArray)) (h : cs.toList = fcells fs) (hl : fs.length ≤ 1048576) (hm : ∀ f ∈ fs, f.2.size ≤ maxLen) :
    FReads (w.heap.size + 1) (w.alloc (.cells cs 59 m)) (some ⟨w.heap.size, 0, none⟩) fs.length fs.length fs := by
  have hcell : ∀ (fs : List (Int × ByteArray)) (i : Nat) (hi : i < fs.length), (fcells fs)[i * 2]? = some (.int .i64 fs[i].1) ∧ (fcells fs)[i * 2 + 1]? = some (.string fs[i].2) := by
    intro fs
    induction fs with
    | nil => intro i hi; simp at hi
    | cons f r ih =>
      intro i hi
      cases i with
      | zero => simp [fcells]
      | succ i =>
        have := ih i (by simpa using hi)
        have e1 : (i + 1) * 2 = i * 2 + 1 + 1 := by omega
        rw [e1]
        simpa [fcells] using this
  refine ⟨rfl, Nat.le_refl _, by omega, hm, .inr (.inr ⟨w.heap.size, 0, rfl, by omega, fun i hi => ?_⟩)⟩
  have e : ∀ j, (w.alloc (.cells cs 59 m)).cell? ⟨w.heap.size, j, none⟩ = (fcells fs)[j]? := fun j => by
    rw [World.cell?_alloc_mark w cs 59 m j, ← Array.getElem?_toList, h]
  rw [Nat.zero_add, e, e]
  exact hcell fs i hi
end Go.Proofs.YtdnhnjimhbbabaaDoor

/- What the document's Get answers. -/
namespace Go.Proofs.YtdnhnjimhbbabaaDoor
open Go.RowKit Sums Nums
set_option linter.unusedVariables false
set_option linter.unusedSimpArgs false
set_option maxRecDepth 100000
def getHO (bs : List UInt8) : HdT := (getO bs).getD zeroH
def getHE (bs : List UInt8) : Int := if (getO bs).isSome then 0 else 70
theorem getHO_digs (bs : List UInt8) : (getHO bs).d.length = 32 := by
  unfold getHO
  cases h : getO bs with
  | none => rfl
  | some x => exact (getO_some h).2.1
end Go.Proofs.YtdnhnjimhbbabaaDoor

/- What the document's GetSigned answers. -/
namespace Go.Proofs.YtdnhnjimhbbabaaDoor
open Go.RowKit Sums Nums
set_option linter.unusedVariables false
set_option linter.unusedSimpArgs false
set_option maxRecDepth 100000
/-- '[]byte(s)': a new row that reads s. -/
theorem wpList_conv_text {P : Program} {ops : Array Oper} {rest : List Oper} {o : Oper} {a : Act} {w : World} {Q : Exit → Act → World → Prop} (hg : o.guard = none) (src dst e : TypeId) (x : Operand) (ho : o.op = .convert src dst x)
    (s : ByteArray) (hx : a.eval x = .string s) (hs : P.underlying src = some .string) (hd : P.underlying dst = some (.slice e)) (he : P.underlying e = some (.int .u8)) (hl : s.size ≤ maxLen)
    (h : ∀ b c w', Hid (Reads w' (some b) s.size c s.data.toList ∧ Below w.heap.size w w') → wpList P ops Q rest (a.put o.dst (.slice (some b) s.size c)) w') : wpList P ops Q (o :: rest) a w := by
  refine wpList_plain hg fun K hK => ?_
  have hr := run_bytes_of_string (P := P) w src dst e s hs hd he
  obtain ⟨c, hc⟩ : ∃ c, grownCap w s.size 0 e = c := ⟨_, rfl⟩
  have h1 : s.size ≤ c := by rw [← hc]; exact grownCap_ge w s.size 0 e
  have h2 : c ≤ maxLen := by rw [← hc]; exact grownCap_le_maxLen w s.size 0 e hl
  rw [hc] at hr
  obtain ⟨C, hC⟩ : ∃ C, bytesRow s c = C := ⟨_, rfl⟩
  rw [hC] at hr
  have hB : Below w.heap.size w (w.drew.alloc (.cells C e (C.size, C.size + 1))) := (Below.refl _ _).drew.alloc (Nat.le_refl _) _
  have hR : Reads (w.drew.alloc (.cells C e (C.size, C.size + 1))) (some ⟨w.heap.size, 0, none⟩) s.size c s.data.toList := by
    refine ⟨Array.length_toList, h1, by unfold maxLen at h2; omega, .inr (.inr ⟨w.heap.size, 0, rfl, ?_, fun i hi => ?_⟩)⟩
    · show w.heap.size < (w.heap.push _).size
      simp
    · have hn : (w.drew.alloc (.cells C e (C.size, C.size + 1))).heap[w.heap.size]? = some (.cells C e (C.size, C.size + 1)) := by
        show (w.heap.push _)[w.heap.size]? = _
        simp
      have hi' : i < s.data.size := by simpa using hi
      simp only [World.cell?, hn, Nat.zero_add]
      rw [← hC]
      unfold bytesRow
      rw [Array.getElem?_append_left (by simpa using hi')]
      simp
      exact ⟨s.data[i], Array.getElem?_eq_getElem hi', rfl⟩
  have hk := hK _ _ (h _ _ _ ⟨hR, hB⟩)
  unfold Oper.wp execOp
  simp only [ho]
  simp [hx, hr]
  exact hk
def getSO (bs : List UInt8) : SgT := (getS bs).getD zeroS
def getSE (bs : List UInt8) : Int := if (getS bs).isSome then 0 else 70
end Go.Proofs.YtdnhnjimhbbabaaDoor

/- Heads and signed heads held against each other by == and !=. -/
namespace Go.Proofs.YtdnhnjimhbbabaaDoor
open Go.RowKit Sums Nums
set_option linter.unusedVariables false
set_option linter.unusedSimpArgs false
set_option maxRecDepth 100000
theorem sizeOfDD (w : World) : (sizeOf 24).run Tryd.prog w = .ok 32 w := by
  cases hq : Tryd.prog.info? 24 with
  | none => have := size23; simp [hq] at this
  | some i => have := size23; simp [hq] at this; simp [sizeOf, typeInfo, hq, this]
theorem sizeOfHH (w : World) : (sizeOf 26).run Tryd.prog w = .ok 36 w := by
  cases hq : Tryd.prog.info? 26 with
  | none => have := sizeH; simp [hq] at this
  | some i => have := sizeH; simp [hq] at this; simp [sizeOf, typeInfo, hq, this]
theorem cut_list (l : List Value) (off n : Nat) (m : List Value) (h : (l.drop off).take n = m) : l.toArray.extract off (off + n) = m.toArray := by
  rw [← h, List.extract_toArray, List.extract_eq_take_drop, Nat.add_sub_cancel_left]
theorem part_dig (l : List Value) (off : Nat) (m : List Value) (h : (l.drop off).take 32 = m) (w : World) : (Go.part 24 l.toArray off).run Tryd.prog w = .ok (.agg m.toArray) w := by
  have e := cut_list l off 32 m h
  simp only [Go.part, isAgg, run_underlying Tryd.underlying24, sizeOfDD, Sem.run_bind, Sem.run_pure, Result.andThen_ok, if_true, e]
theorem part_head (l : List Value) (off : Nat) (m : List Value) (h : (l.drop off).take 36 = m) (w : World) : (Go.part 26 l.toArray off).run Tryd.prog w = .ok (.agg m.toArray) w := by
  have e := cut_list l off 36 m h
  simp only [Go.part, isAgg, run_underlying Tryd.underlying26, sizeOfHH, Sem.run_bind, Sem.run_pure, Result.andThen_ok, if_true, e]
theorem part_int (l : List Value) (off : Nat) (v : Value) (h : l[off]? = some v) (w : World) : (Go.part 3 l.toArray off).run Tryd.prog w = .ok v w := by
  simp [Go.part, isAgg, run_underlying Tryd.underlying3, h]
theorem heldH : Tryd.prog.stoodInHeld 26 = false := by kernel_rfl
theorem heldS : Tryd.prog.stoodInHeld 28 = false := by kernel_rfl
theorem hcells_d (h : HdT) (hd : h.d.length = 32) : ((hcells h).drop 3).take 32 = cellsOf h.d := by
  show (cellsOf h.d ++ [Value.int .i64 h.t]).take 32 = _
  rw [List.take_left' (by rw [cellsOf_length, hd])]
theorem hcells_t (h : HdT) (hd : h.d.length = 32) : (hcells h)[35]? = some (.int .i64 h.t) := by
  unfold hcells
  rw [List.getElem?_append_right (by simp [cellsOf_length, hd])]
  simp [cellsOf_length, hd]
theorem scells_h (s : SgT) (hd : s.h.d.length = 32) : ((scells s).drop 0).take 36 = hcells s.h := by
  unfold scells
  rw [List.drop_zero, List.append_assoc, List.take_left' (hcells_length _ hd)]
theorem scells_n (s : SgT) (hd : s.h.d.length = 32) : (scells s)[36]? = some (.int .i64 s.n) := by
  unfold scells
  rw [List.append_assoc, List.getElem?_append_right (by rw [hcells_length _ hd]; omega), hcells_length _ hd]
  rfl
theorem scells_g (s : SgT) (hd : s.h.d.length = 32) (hg : s.g.length = 32) : ((scells s).drop 37).take 32 = cellsOf s.g := by
  unfold scells
  rw [List.drop_left' (by simp [hcells_length _ hd]), List.take_of_length_le (by rw [cellsOf_length, hg]; omega)]
theorem equalHead (d : Nat) (a b : HdT) (ha : a.d.length = 32) (hb : b.d.length = 32) (x : Bool) (hx : x = true ↔ a = b) (w : World) : (Op.equalIn (d + 4) 26 (.agg (hcells a).toArray) (.agg (hcells b).toArray)).run Tryd.prog w = .ok x w := by
  have hf : Tryd.prog.fieldsOf 26 = #[{ name := "Region", type := 3, offset := 0, embedded := false, tag := "", pkgPath := "", byteOffset := 0 }, { name := "Epoch", type := 3, offset := 1, embedded := false, tag := "", pkgPath := "", byteOffset := 8 }, { name := "Size", type := 3, offset := 2, embedded := false, tag := "", pkgPath := "", byteOffset := 16 }, { name := "Root", type := 24, offset := 3, embedded := false, tag := "", pkgPath := "", byteOffset := 24 }, { name := "Tick", type := 3, offset := 35, embedded := false, tag := "", pkgPath := "", byteOffset := 56 }] := by
    unfold Program.fieldsOf; rw [Tryd.underlying26]
  have p0 := fun (h : HdT) W => part_int (hcells h) 0 (.int .i64 h.r) rfl W
  have p1 := fun (h : HdT) W => part_int (hcells h) 1 (.int .i64 h.e) rfl W
  have p2 := fun (h : HdT) W => part_int (hcells h) 2 (.int .i64 h.s) rfl W
  have p3a := fun W => part_dig (hcells a) 3 _ (hcells_d a ha) W
  have p3b := fun W => part_dig (hcells b) 3 _ (hcells_d b hb) W
  have p4a := fun W => part_int (hcells a) 35 _ (hcells_t a ha) W
  have p4b := fun W => part_int (hcells b) 35 _ (hcells_t b hb) W
  have ei := fun (x y : Int) W => run_equalIn_int (P := Tryd.prog) W (d + 2) 3 .i64 .i64 x y Tryd.underlying3
  have ed : ∀ W, (Op.equalIn (d + 3) 24 (.agg (cellsOf a.d).toArray) (.agg (cellsOf b.d).toArray)).run Tryd.prog W = .ok (a.d == b.d) W := fun W => run_equalIn_bytes (P := Tryd.prog) W (d + 1) 24 5 32 Tryd.underlying24 Tryd.underlying5 sizeOf5 a.d b.d ha hb
  rw [run_equalIn_struct w (d + 3) 26 _ _ (by rw [hf]; exact Tryd.underlying26) heldH, hf]
  obtain ⟨b0, h0⟩ : ∃ x, (a.r == b.r) = x := ⟨_, rfl⟩
  obtain ⟨b1, h1⟩ : ∃ x, (a.e == b.e) = x := ⟨_, rfl⟩
  obtain ⟨b2, h2⟩ : ∃ x, (a.s == b.s) = x := ⟨_, rfl⟩
  obtain ⟨b3, h3⟩ : ∃ x, (a.d == b.d) = x := ⟨_, rfl⟩
  obtain ⟨b4, h4⟩ : ∃ x, (a.t == b.t) = x := ⟨_, rfl⟩
  have hq : x = (b0 && b1 && b2 && b3 && b4) := by
    rw [← h0, ← h1, ← h2, ← h3, ← h4, Bool.eq_iff_iff]
    rw [hx]
    simp only [Bool.and_eq_true, beq_iff_eq]
    constructor
    · rintro rfl; simp
    · rintro ⟨⟨⟨⟨e0, e1⟩, e2⟩, e3⟩, e4⟩
      cases a; cases b
      simp only at e0 e1 e2 e3 e4
      rw [e0, e1, e2, e3, e4]
  have x0 := ei a.r b.r
  have x1 := ei a.e b.e
  have x2 := ei a.s b.s
  have x4 := ei a.t b.t
  rw [h0] at x0
  rw [h1] at x1
  rw [h2] at x2
  rw [h3] at ed
  rw [h4] at x4
  rw [hq]
  obtain ⟨A, hA⟩ : ∃ A, (hcells a).toArray = A := ⟨_, rfl⟩
  obtain ⟨B, hB⟩ : ∃ B, (hcells b).toArray = B := ⟨_, rfl⟩
  have p0a := p0 a
  have p0b := p0 b
  have p1a := p1 a
  have p1b := p1 b
  have p2a := p2 a
  have p2b := p2 b
  rw [hA] at p0a p1a p2a p3a p4a
  rw [hB] at p0b p1b p2b p3b p4b
  rw [hA, hB]
  obtain ⟨DA, hDA⟩ : ∃ D, (cellsOf a.d).toArray = D := ⟨_, rfl⟩
  obtain ⟨DB, hDB⟩ : ∃ D, (cellsOf b.d).toArray = D := ⟨_, rfl⟩
  rw [hDA] at p3a ed
  rw [hDB] at p3b ed
  simp [Op.eqFields, p0a, p0b, p1a, p1b, p2a, p2b, p3a, p3b, p4a, p4b, x0, x1, x2, x4, ed]
  cases b0 <;> cases b1 <;> cases b2 <;> cases b3 <;> cases b4 <;> simp
theorem equalSigned (d : Nat) (a b : SgT) (ha : a.h.d.length = 32) (hb : b.h.d.length = 32) (ga : a.g.length = 32) (gb : b.g.length = 32) (x : Bool) (hx : x = true ↔ a = b) (w : World) : (Op.equalIn (d + 5) 28 (.agg (scells a).toArray) (.agg (scells b).toArray)).run Tryd.prog w = .ok x w := by
  have hf : Tryd.prog.fieldsOf 28 = #[{ name := "Head", type := 26, offset := 0, embedded := false, tag := "", pkgPath := "", byteOffset := 0 }, { name := "Node", type := 3, offset := 36, embedded := false, tag := "", pkgPath := "", byteOffset := 64 }, { name := "Tag", type := 24, offset := 37, embedded := false, tag := "", pkgPath := "", byteOffset := 72 }] := by
    unfold Program.fieldsOf; rw [Tryd.underlying28]
  obtain ⟨b0, hb0⟩ : ∃ x : Bool, x = true ↔ a.h = b.h := by
    by_cases h : a.h = b.h
    · exact ⟨true, by simp [h]⟩
    · exact ⟨false, by simp [h]⟩
  have p0a := fun W => part_head (scells a) 0 _ (scells_h a ha) W
  have p0b := fun W => part_head (scells b) 0 _ (scells_h b hb) W
  have p1a := fun W => part_int (scells a) 36 _ (scells_n a ha) W
  have p1b := fun W => part_int (scells b) 36 _ (scells_n b hb) W
  have p2a := fun W => part_dig (scells a) 37 _ (scells_g a ha ga) W
  have p2b := fun W => part_dig (scells b) 37 _ (scells_g b hb gb) W
  have x0 : ∀ W, (Op.equalIn (d + 4) 26 (.agg (hcells a.h).toArray) (.agg (hcells b.h).toArray)).run Tryd.prog W = .ok b0 W := fun W => equalHead d a.h b.h ha hb b0 hb0 W
  have x1 := fun W => run_equalIn_int (P := Tryd.prog) W (d + 3) 3 .i64 .i64 a.n b.n Tryd.underlying3
  have x2 : ∀ W, (Op.equalIn (d + 4) 24 (.agg (cellsOf a.g).toArray) (.agg (cellsOf b.g).toArray)).run Tryd.prog W = .ok (a.g == b.g) W := fun W => run_equalIn_bytes (P := Tryd.prog) W (d + 2) 24 5 32 Tryd.underlying24 Tryd.underlying5 sizeOf5 a.g b.g ga gb
  rw [run_equalIn_struct w (d + 4) 28 _ _ (by rw [hf]; exact Tryd.underlying28) heldS, hf]
  obtain ⟨b1, h1⟩ : ∃ x, (a.n == b.n) = x := ⟨_, rfl⟩
  obtain ⟨b2, h2⟩ : ∃ x, (a.g == b.g) = x := ⟨_, rfl⟩
  have hq : x = (b0 && b1 && b2) := by
    rw [← h1, ← h2, Bool.eq_iff_iff]
    rw [hx]
    simp only [Bool.and_eq_true, beq_iff_eq, hb0]
    constructor
    · rintro rfl; simp
    · rintro ⟨⟨e0, e1⟩, e2⟩
      cases a; cases b
      simp only at e0 e1 e2
      rw [e0, e1, e2]
  rw [h1] at x1
  rw [h2] at x2
  rw [hq]
  obtain ⟨A, hA⟩ : ∃ A, (scells a).toArray = A := ⟨_, rfl⟩
  obtain ⟨B, hB⟩ : ∃ B, (scells b).toArray = B := ⟨_, rfl⟩
  rw [hA] at p0a p1a p2a
  rw [hB] at p0b p1b p2b
  rw [hA, hB]
  obtain ⟨DA, hDA⟩ : ∃ D, (cellsOf a.g).toArray = D := ⟨_, rfl⟩
  obtain ⟨DB, hDB⟩ : ∃ D, (cellsOf b.g).toArray = D := ⟨_, rfl⟩
  rw [hDA] at p2a x2
  rw [hDB] at p2b x2
  obtain ⟨EA, hEA⟩ : ∃ D, (hcells a.h).toArray = D := ⟨_, rfl⟩
  obtain ⟨EB, hEB⟩ : ∃ D, (hcells b.h).toArray = D := ⟨_, rfl⟩
  rw [hEA] at p0a x0
  rw [hEB] at p0b x0
  simp [Op.eqFields, p0a, p0b, p1a, p1b, p2a, p2b, x0, x1, x2]
  cases b0 <;> cases b1 <;> cases b2 <;> simp
theorem eqHead (a b : HdT) (ha : a.d.length = 32) (hb : b.d.length = 32) (A B : Array Value) (HA : Hid (A = (hcells a).toArray)) (HB : Hid (B = (hcells b).toArray)) (x : Bool) (hx : x = true ↔ a = b) (w : World) : (binOp .eql 26 (.agg A) (.agg B)).run Tryd.prog w = .ok (.bool x) w := by
  rw [run_eql_struct, HA.out, HB.out, show (10000 : Nat) = 9996 + 4 from rfl, equalHead 9996 a b ha hb x hx]; rfl
theorem eqSigned (a b : SgT) (ha : a.h.d.length = 32) (hb : b.h.d.length = 32) (ga : a.g.length = 32) (gb : b.g.length = 32) (A B : Array Value) (HA : Hid (A = (scells a).toArray)) (HB : Hid (B = (scells b).toArray)) (x : Bool) (hx : x = true ↔ a = b) (w : World) : (binOp .eql 28 (.agg A) (.agg B)).run Tryd.prog w = .ok (.bool x) w := by
  rw [run_eql_struct, HA.out, HB.out, show (10000 : Nat) = 9995 + 5 from rfl, equalSigned 9995 a b ha hb ga gb x hx]; rfl
end Go.Proofs.YtdnhnjimhbbabaaDoor

/- What the calls of package head answer, as the document says (their proofs are of one commit of the code). -/
namespace Go.Proofs.YtdnhnjimhbbabaaDoor
open Go.RowKit Sums Nums
set_option linter.unusedVariables false
set_option linter.unusedSimpArgs false
set_option maxRecDepth 100000
/-- The tables that head reads. -/
def TabH (w : World) : Prop := Table 0 w
theorem TabH.keep {w w' : World} (h : TabH w) (hb : Below w.heap.size w w') : TabH w' := Table.keep h hb
def In64 (z : Int) : Prop := -9223372036854775808 ≤ z ∧ z ≤ 9223372036854775807
/-- A head that lies in a variable. -/
structure InH (h : HdT) : Prop where
  d : h.d.length = 32
  r : In64 h.r
  e : In64 h.e
  s : In64 h.s
  t : In64 h.t
structure InS (s : SgT) : Prop where
  h : InH s.h
  n : In64 s.n
  g : s.g.length = 32
def signV (z : SgT) : Value := .agg (scells z).toArray
/-- A row of bytes and an error. -/
def BytesE (bs : List UInt8) (E : Int) (e : Ending) (w' : World) : Prop := ∃ a cap, e = .returned (.tuple #[.slice a bs.length cap, .int .i64 E]) ∧ Reads w' a bs.length cap bs
def putB (h : HdT) : List UInt8 := if rightH h = true then headB h else []
def putE (h : HdT) : Int := if rightH h = true then 0 else 70
def putSB (s : SgT) : List UInt8 := if mayS s = true then signB s else []
def putSE (s : SgT) : Int := if mayS s = true then 0 else 70
/-- What the calls of package head answer. -/
structure HeadC : Prop where
  check : ∀ (h : HdT) (hh : InH h) (w : World) (C : Array Value) (HC : Hid (C = (hcells h).toArray)),
    Calls Tryd.prog 38 #[.agg C] w fun e w' => e = .returned (.int .i64 (putE h)) ∧ Below w.heap.size w w'
  put : ∀ (h : HdT) (hh : InH h) (w : World) (C : Array Value) (HC : Hid (C = (hcells h).toArray)),
    Calls Tryd.prog 22 #[.agg C] w fun e w' => BytesE (putB h) (putE h) e w' ∧ Below w.heap.size w w'
  get : ∀ (a : Option Addr) (len cap : Nat) (bs : List UInt8) (w : World) (hR : Reads w a len cap bs) (hl : len ≤ 100000) (R : Array Value) (HR : Hid (R = (hcells (getHO bs)).toArray)),
    Calls Tryd.prog 18 #[.slice a len cap] w fun e w' => e = .returned (.tuple #[.agg R, .int .i64 (getHE bs)]) ∧ Below w.heap.size w w'
  sign : ∀ (master : List UInt8) (h : HdT) (n : Int) (w : World) (M C R : Array Value) (HM : Hid (M = (cellsOf master).toArray)) (HC : Hid (C = (hcells h).toArray)) (hm : master.length = 32) (hh : InH h) (hn : In64 n) (hT : TabH w) (HR : Hid (R = (scells (signO master h n)).toArray)),
    Calls Tryd.prog 8 #[.agg M, .agg C, .int .i64 n] w fun e w' => e = .returned (.tuple #[.agg R, .int .i64 (signE h n)]) ∧ Below w.heap.size w w'
  verify : ∀ (master : List UInt8) (s : SgT) (w : World) (M C : Array Value) (HM : Hid (M = (cellsOf master).toArray)) (HC : Hid (C = (scells s).toArray)) (hm : master.length = 32) (hs : InS s) (hT : TabH w),
    Calls Tryd.prog 11 #[.agg M, .agg C] w fun e w' => e = .returned (.int .i64 (verE master s)) ∧ Below w.heap.size w w'
  putS : ∀ (s : SgT) (hs : InS s) (w : World) (C : Array Value) (HC : Hid (C = (scells s).toArray)),
    Calls Tryd.prog 13 #[.agg C] w fun e w' => BytesE (putSB s) (putSE s) e w' ∧ Below w.heap.size w w'
  getS : ∀ (a : Option Addr) (len cap : Nat) (bs : List UInt8) (w : World) (hR : Reads w a len cap bs) (hl : len ≤ 100000) (R : Array Value) (HR : Hid (R = (scells (getSO bs)).toArray)),
    Calls Tryd.prog 16 #[.slice a len cap] w fun e w' => e = .returned (.tuple #[.agg R, .int .i64 (getSE bs)]) ∧ Below w.heap.size w w'
theorem right_in {h : HdT} (hr : rightH h = true) (hd : h.d.length = 32) : InH h := by
  have := (rightH_iff h).1 hr
  refine ⟨hd, ?_, ?_, ?_, ?_⟩ <;> unfold In64 <;> omega
theorem zero_in : InH zeroH := ⟨rfl, by unfold In64; decide, by unfold In64; decide, by unfold In64; decide, by unfold In64; decide⟩
theorem may_in {s : SgT} (hm : mayS s = true) (hd : s.h.d.length = 32) (hg : s.g.length = 32) : InS s := by
  have := (mayS_iff s).1 hm
  exact ⟨right_in this.1 hd, by unfold In64; omega, hg⟩
/-! The document's H. -/
def oneH : HdT := ⟨1, 1, 0, List.replicate 32 0, 0⟩
theorem one_in : InH oneH := ⟨rfl, by unfold In64; decide, by unfold In64; decide, by unfold In64; decide, by unfold In64; decide⟩
theorem one_right : rightH oneH = true := by decide
theorem wpList_build_two {P : Program} {ops : Array Oper} {rest : List Oper} {o : Oper} {a : Act} {w : World} {Q : Exit → Act → World → Prop} (hg : o.guard = none) (t : TypeId) (i j : Nat) (x y : Operand) (ho : o.op = .build t #[(i, x), (j, y)])
    (cs : Array Value) (v u : Value) (hv : a.eval x = v) (hu : a.eval y = u) (hb : P.built t [(i, v), (j, u)] = some cs) (h : wpList P ops Q rest (a.put o.dst (.agg cs)) w) : wpList P ops Q (o :: rest) a w :=
  wpList_build_row hg t #[(i, x), (j, y)] ho cs (by simpa [hv, hu] using hb) h
theorem builtOne : Tryd.prog.built 26 [(0, .int .i64 1), (1, .int .i64 1)] = some (hcells oneH).toArray := by kernel_rfl
theorem one_any (w : World) (C : Array Value) (HC : Hid (C = (hcells oneH).toArray)) :
    Calls Tryd.prog 30 #[] w fun e w' => e = .returned (.agg C) ∧ Below w.heap.size w w' := by
  obtain ⟨Z, HZ, HA, HBZ, H36⟩ := noughtsH
  have HSC : Hid ((Tryd.prog.info? 26).map (·.size) = some C.size) := by show _ = _; rw [sizeH, HC.out]; rfl
  have H1C : Hid (C.all (·.oneCell') = true) := by show _ = _; rw [HC.out]; exact one_cells _
  have HZC : Hid (Z.size = C.size) := by show _ = _; rw [H36.out, HC.out]; rfl
  have HBO : Hid (Tryd.prog.built 26 [(0, .int .i64 1), (1, .int .i64 1)] = some C) := by show _ = _; rw [HC.out]; exact builtOne
  clear HC HZ HBZ H36
  go_enter Tryd.func30, Tryd.ntmps30
  go_wp2_with (first
    | (show wpList _ _ _ ({ dst := some 0, op := _, type := _, pos := _, after := _, guard := _ } :: _) _ _; refine wpList_new_var rfl 26 rfl Z HA.out ?_; intro g0 w1 HM0; try simp only [Act.put, List.setIfInBounds_toArray, List.set_cons_zero, List.set_cons_succ])
    | (show wpList _ _ _ ({ dst := some 1, op := _, type := _, pos := _, after := _, guard := _ } :: _) _ _; refine wpList_build_two rfl 26 0 1 (.const (.int .i64 1)) (.const (.int .i64 1)) rfl C (.int .i64 1) (.int .i64 1) rfl rfl HBO.out ?_; try simp only [Act.put, List.setIfInBounds_toArray, List.set_cons_zero, List.set_cons_succ])
    | (refine wpList_set_var rfl 26 (.tmp 0) (.tmp 1) rfl g0 C rfl rfl 26 Z HM0.out.row HSC.out HZC.out H1C.out ?_; intro w2 HW0; try simp only [Act.put, List.setIfInBounds_toArray, List.set_cons_zero, List.set_cons_succ])
    | fail)
  refine bodyPost_ret (v := .agg C) ?_ rfl ⟨rfl, HW0.out.below w.heap.size w HM0.out.below (Nat.le_of_eq HM0.out.new.symm)⟩
  exact results_cell_row (p := 0) (ty := 26) rfl _ _ g0 26 C (0, 0) _ rfl HW0.out.row Tryd.underlying26 rfl HSC.out
end Go.Proofs.YtdnhnjimhbbabaaDoor

/- The statements' own example of signing, over what the calls of package head answer. -/
namespace Go.Proofs.YtdnhnjimhbbabaaDoor
open Go.RowKit Sums Nums
set_option linter.unusedVariables false
set_option linter.unusedSimpArgs false
set_option maxRecDepth 100000
theorem tags_apart : tagD (List.replicate 32 0) oneH 2 ≠ tagD (List.replicate 32 0) oneH 1 := by decide +kernel
theorem headB_one : headB oneH = [1, 0, 0, 1, 1, 2, 0, 0, 1, 1, 3, 0, 0, 0, 4, 0, 0, 32] ++ List.replicate 32 0 ++ [5, 0, 0, 0] := by decide +kernel
theorem wrote_part {w : World} {g k : Nat} {D : Array Value} {t : TypeId} {v : Value} (h : w.heap[g]? = some (.cells D t (0, 0))) : Wrote g (D.setIfInBounds k v) t w (w.setCell ⟨g, k, none⟩ v) :=
  ⟨heap_setCell_same w g k D t v h, fun j hj => Below.heap_setCell _ _ _ _ hj, fun B a hb hg => hb.setCell hg v⟩
/-- A number stored in the midst of a variable. -/
theorem wpList_set_int {P : Program} {ops : Array Oper} {rest : List Oper} {o : Oper} {a : Act} {w : World} {Q : Exit → Act → World → Prop} (hgd : o.guard = none) (ty : TypeId) (x y : Operand) (ho : o.op = .store ty x y)
    (g k : Nat) (q : IntKind) (n : Int) (hx : a.eval x = .pointer (some ⟨g, k, none⟩)) (hy : a.eval y = .int q n) (t' : TypeId) (D : Array Value) (hg : w.heap[g]? = some (.cells D t' (0, 0))) (hk : k < D.size) (hi : (P.info? ty).map (·.size) = some 1)
    (h : ∀ w', Hid (Wrote g (D.setIfInBounds k (.int q n)) t' w w') → wpList P ops Q rest (a.put o.dst undef) w') : wpList P ops Q (o :: rest) a w := by
  refine wpList_plain hgd fun K hK => ?_
  have hkk := hK _ _ (h _ (wrote_part (k := k) (v := .int q n) hg))
  have hc : w.cell? ⟨g, k, none⟩ = some D[k] := by rw [cell_of_row w g k D t' (0, 0) hg]; simp [hk]
  have hf : w.frozen? ⟨g, k, none⟩ = false := frozen_of_row w g k D t' hg
  cases hq : P.info? ty with
  | none => simp [hq] at hi
  | some i =>
    have hs : i.size = 1 := by simpa [hq] using hi
    have := run_storeCells_cells (P := P) g k [.int q n] 0 w (fun j hj => by
      obtain rfl : j = 0 := by simpa using hj
      simp [hc]) (fun j hj => by
      obtain rfl : j = 0 := by simpa using hj
      simpa using hf) (fun v hv => by simp at hv; subst hv; rfl)
    unfold Oper.wp execOp
    simp only [ho, hx, hy, Instr.storeAt, Instr.sureAddr, Sem.run_bind, Sem.run_pure, Result.andThen_ok]
    simp only [Nat.add_zero] at this
    simp [storeVar, sizeOf, typeInfo, hq, Value.cells, hs, this]
    exact hkk
theorem scells_set (h : HdT) (n m : Int) (t : List UInt8) (hd : h.d.length = 32) : (scells ⟨h, n, t⟩).toArray.setIfInBounds 36 (.int .i64 m) = (scells ⟨h, m, t⟩).toArray := by
  simp only [List.setIfInBounds_toArray]
  congr 1
  unfold scells
  simp only [List.append_assoc]
  rw [List.set_append_right _ _ (by rw [hcells_length _ hd]; omega), hcells_length _ hd]
  rfl
theorem wpList_build_none_w {P : Program} {ops : Array Oper} {rest : List Oper} {o : Oper} {a : Act} {w : World} {Q : Exit → Act → World → Prop} (hw : Region.wanted o (yielded ops a.tmps) = true) (t : TypeId) (ho : o.op = .build t #[])
    (cs : Array Value) (hb : P.built t [] = some cs) (h : wpList P ops Q rest (a.put o.dst (.agg cs)) w) : wpList P ops Q (o :: rest) a w :=
  BigFrame.wpList_want hw fun _ hK => by
    have hr := run_build w t #[] cs (by simpa using hb)
    unfold Oper.wp execOp
    simp [ho, hr]
    exact hK _ _ h
set_option maxHeartbeats 4000000 in
theorem signs_true (ck : HeadC) (w : World) (hT : TabH w) : Calls Tryd.prog 10 #[] w fun e w' => e = .returned (.bool true) ∧ Below w.heap.size w w' := by
  obtain ⟨Y, HY, HAY, H32Y⟩ := noughtsY
  have HBY : Hid (Tryd.prog.built 23 [] = some Y) := by show _ = _; rw [HY.out]; kernel_rfl
  obtain ⟨Z, HZ, HA, HBZ, H69⟩ := noughtsS
  obtain ⟨C, HC, HSC, H1C, H36⟩ := head_row5 oneH rfl
  have hs1 : signsO oneH 1 = true := by decide
  have hs4 : signsO oneH 4 = false := by decide
  have hg1 : (tagD (List.replicate 32 0) oneH 1).length = 32 := tagD_length sumD_length _ _ _
  obtain ⟨X, HX, HSX, H1X, H69X⟩ := sign_row ⟨oneH, 1, tagD (List.replicate 32 0) oneH 1⟩ rfl hg1
  obtain ⟨U, HU, HSU, H1U, H69U⟩ := sign_row ⟨oneH, 2, tagD (List.replicate 32 0) oneH 1⟩ rfl hg1
  have HZX : Hid (Z.size = X.size) := by show _ = _; rw [H69.out, H69X.out]
  have HSZ : Hid ((Tryd.prog.info? 28).map (·.size) = some Z.size) := by show _ = _; rw [sizeS, H69.out]
  have H1Z : Hid (Z.all (·.oneCell') = true) := by show _ = _; rw [HZ.out]; exact one_cellsS _
  have HXU : Hid (X.setIfInBounds 36 (.int .i64 2) = U) := by show _ = _; rw [HX.out, HU.out]; exact scells_set oneH 1 2 _ rfl
  have H36X : Hid (36 < X.size) := by show _ < _; rw [H69X.out]; omega
  have hi3 : (Tryd.prog.info? 3).map (·.size) = some 1 := by kernel_rfl
  have hzl : (List.replicate 32 (0 : UInt8)).length = 32 := rfl
  have ON : Hid (∀ W, Calls Tryd.prog 30 #[] W fun e w' => e = .returned (.agg C) ∧ Below W.heap.size W w') := fun W => one_any W C HC
  have S1 : Hid (∀ W, Below w.heap.size w W → Calls Tryd.prog 8 #[.agg Y, .agg C, .int .i64 1] W fun e w' => e = .returned (.tuple #[.agg X, .int .i64 0]) ∧ Below W.heap.size W w') := fun W hb => by
    have := ck.sign _ oneH 1 W Y C X HY HC hzl one_in (by unfold In64; decide) (hT.keep hb) (by show _ = _; unfold signO; rw [hs1]; exact HX.out)
    have e : signE oneH 1 = 0 := by decide
    rwa [e] at this
  have S4 : Hid (∀ W, Below w.heap.size w W → Calls Tryd.prog 8 #[.agg Y, .agg C, .int .i64 4] W fun e w' => e = .returned (.tuple #[.agg Z, .int .i64 70]) ∧ Below W.heap.size W w') := fun W hb => by
    have := ck.sign _ oneH 4 W Y C Z HY HC hzl one_in (by unfold In64; decide) (hT.keep hb) (by show _ = _; unfold signO; rw [hs4]; exact HZ.out)
    have e : signE oneH 4 = 70 := by decide
    rwa [e] at this
  have hm1 : mayS ⟨oneH, 1, tagD (List.replicate 32 0) oneH 1⟩ = true := (mayS_iff _).2 ⟨one_right, by show (1 : Int) ≤ 1; omega, by show (1 : Int) ≤ 3; omega⟩
  have hm2 : mayS ⟨oneH, 2, tagD (List.replicate 32 0) oneH 1⟩ = true := (mayS_iff _).2 ⟨one_right, by show (1 : Int) ≤ 2; omega, by show (2 : Int) ≤ 3; omega⟩
  have V1 : Hid (∀ W, Below w.heap.size w W → Calls Tryd.prog 11 #[.agg Y, .agg X] W fun e w' => e = .returned (.int .i64 0) ∧ Below W.heap.size W w') := fun W hb => by
    have := ck.verify _ ⟨oneH, 1, tagD (List.replicate 32 0) oneH 1⟩ W Y X HY HX hzl (may_in hm1 rfl hg1) (hT.keep hb)
    have e : verE (List.replicate 32 0) ⟨oneH, 1, tagD (List.replicate 32 0) oneH 1⟩ = 0 := by unfold verE; rw [if_pos hm1, if_pos rfl]
    rwa [e] at this
  have V2 : Hid (∀ W, Below w.heap.size w W → Calls Tryd.prog 11 #[.agg Y, .agg U] W fun e w' => e = .returned (.int .i64 72) ∧ Below W.heap.size W w') := fun W hb => by
    have := ck.verify _ ⟨oneH, 2, tagD (List.replicate 32 0) oneH 1⟩ W Y U HY HU hzl (may_in hm2 rfl hg1) (hT.keep hb)
    have e : verE (List.replicate 32 0) ⟨oneH, 2, tagD (List.replicate 32 0) oneH 1⟩ = 72 := by unfold verE; rw [if_pos hm2, if_neg tags_apart]
    rwa [e] at this
  clear hT HY HZ HC HX HU hm1 hm2 hg1 hs1 hs4 hzl HSC H1C H36 HAY
  go_enter Tryd.func10, Tryd.ntmps10
  go_wp2_with (first
    | (show wpList _ _ _ ({ dst := some 7, op := _, type := _, pos := _, after := _, guard := _ } :: _) _ _; refine wpList_build_none rfl 23 rfl Y HBY.out ?_; try simp only [Act.put, List.setIfInBounds_toArray, List.set_cons_zero, List.set_cons_succ])
    | fail)
  refine (ON.out _).mono ?_
  rintro e w1 ⟨rfl, hb1⟩
  have HB1 := hidk hb1
  clear hb1
  go_wp2_with fail
  refine (S1.out _ HB1.out).mono ?_
  rintro e w2 ⟨rfl, hb2⟩
  have HB2 := hidk (HB1.out.trans (hb2.mono HB1.out.size))
  clear hb2 HB1 S1
  go_wp2_with (first
    | (show wpList _ _ _ ({ dst := some 1, op := _, type := _, pos := _, after := _, guard := _ } :: _) _ _; refine wpList_new_var rfl 28 rfl Z HA.out ?_; intro g1 w3 HM1; try simp only [Act.put, List.setIfInBounds_toArray, List.set_cons_zero, List.set_cons_succ])
    | (refine wpList_set_var rfl 28 (.tmp 1) (.tmp 10) rfl g1 X rfl rfl 28 Z HM1.out.row HSX.out HZX.out H1X.out ?_; intro w4 HW1; try simp only [Act.put, List.setIfInBounds_toArray, List.set_cons_zero, List.set_cons_succ])
    | (show wpList _ _ _ ({ dst := some 12, op := _, type := _, pos := _, after := _, guard := _ } :: _) _ _; refine wpList_load_row rfl 28 (.tmp 1) rfl g1 rfl 28 X (0, 0) _ HW1.out.row Tryd.underlying28 rfl HSX.out ?_; try simp only [Act.put, List.setIfInBounds_toArray, List.set_cons_zero, List.set_cons_succ])
    | (show wpList _ _ _ ({ dst := some 3, op := _, type := _, pos := _, after := _, guard := _ } :: _) _ _; refine wpList_new_var rfl 28 rfl Z HA.out ?_; intro g3 w5 HM3; try simp only [Act.put, List.setIfInBounds_toArray, List.set_cons_zero, List.set_cons_succ])
    | (refine wpList_set_var rfl 28 (.tmp 3) (.tmp 12) rfl g3 X rfl rfl 28 Z HM3.out.row HSX.out HZX.out H1X.out ?_; intro w6 HW3; try simp only [Act.put, List.setIfInBounds_toArray, List.set_cons_zero, List.set_cons_succ])
    | (refine wpList_set_int rfl 3 (.tmp 13) (.const (.int .i64 2)) rfl g3 36 .i64 2 rfl rfl 28 X HW3.out.row H36X.out hi3 ?_; intro w7 HW7; try simp only [Act.put, List.setIfInBounds_toArray, List.set_cons_zero, List.set_cons_succ])
    | (show wpList _ _ _ ({ dst := some 15, op := _, type := _, pos := _, after := _, guard := _ } :: _) _ _; refine wpList_build_none rfl 23 rfl Y HBY.out ?_; try simp only [Act.put, List.setIfInBounds_toArray, List.set_cons_zero, List.set_cons_succ])
    | fail)
  have h1 : w.heap.size ≤ g1 := by rw [HM1.out.new]; exact HB2.out.size
  have h3 : g1 < g3 := by rw [HM3.out.new]; exact heap_lt HW1.out.row
  have HB4 := hidk (HW1.out.below w.heap.size w (HB2.out.trans (HM1.out.below.mono HB2.out.size)) h1)
  have HB6 := hidk (HW3.out.below w.heap.size w (HB4.out.trans (HM3.out.below.mono HB4.out.size)) (by omega))
  have HB7 := hidk (HW7.out.below w.heap.size w HB6.out (by omega))
  have HR1 : Hid (w7.heap[g1]? = some (.cells X 28 (0, 0))) := by
    show _ = _
    rw [HW7.out.other _ (by omega), HW3.out.other _ (by omega), HM3.out.below.block _ (heap_lt HW1.out.row)]
    exact HW1.out.row
  have HR3 : Hid (w7.heap[g3]? = some (.cells U 28 (0, 0))) := by
    show _ = _
    rw [HW7.out.row, HXU.out]
  clear HW7 HW3 HM3 HW1 HM1 HB2 HB4 HB6
  refine (ON.out _).mono ?_
  rintro e w8 ⟨rfl, hb8⟩
  have HB8 := hidk (HB7.out.trans (hb8.mono HB7.out.size))
  have HR18 := hidk ((hb8.block _ (heap_lt HR1.out)).trans HR1.out)
  have HR38 := hidk ((hb8.block _ (heap_lt HR3.out)).trans HR3.out)
  clear hb8 HB7 HR1 HR3 ON
  go_wp2_with fail
  refine (S4.out _ HB8.out).mono ?_
  rintro e w9 ⟨rfl, hb9⟩
  have HB9 := hidk (HB8.out.trans (hb9.mono HB8.out.size))
  have HR19 := hidk ((hb9.block _ (heap_lt HR18.out)).trans HR18.out)
  have HR39 := hidk ((hb9.block _ (heap_lt HR38.out)).trans HR38.out)
  clear hb9 HB8 HR18 HR38 S4
  go_wp2_with (first
    | (show wpList _ _ _ ({ dst := some 4, op := _, type := _, pos := _, after := _, guard := _ } :: _) _ _; refine wpList_new_var rfl 28 rfl Z HA.out ?_; intro g4 w10 HM4; try simp only [Act.put, List.setIfInBounds_toArray, List.set_cons_zero, List.set_cons_succ])
    | (refine wpList_set_var rfl 28 (.tmp 4) (.tmp 18) rfl g4 Z rfl rfl 28 Z HM4.out.row HSZ.out rfl H1Z.out ?_; intro w11 HW4; have HX11 := hidk (HW4.out.below w9.heap.size w9 HM4.out.below (Nat.le_of_eq HM4.out.new.symm)); have HRa := hidk ((HX11.out.block _ (heap_lt HR19.out)).trans HR19.out); try simp only [Act.put, List.setIfInBounds_toArray, List.set_cons_zero, List.set_cons_succ])
    | (show wpList _ _ _ ({ dst := some 23, op := _, type := _, pos := _, after := _, guard := _ } :: _) _ _; refine wpList_build_none_w (by rfl) 23 rfl Y HBY.out ?_; try simp only [Act.put, List.setIfInBounds_toArray, List.set_cons_zero, List.set_cons_succ])
    | (show wpList _ _ _ ({ dst := some 24, op := _, type := _, pos := _, after := _, guard := _ } :: _) _ _; refine wpList_load_row_w (by rfl) 28 (.tmp 1) rfl g1 rfl 28 X (0, 0) _ HRa.out Tryd.underlying28 rfl HSX.out ?_; try simp only [Act.put, List.setIfInBounds_toArray, List.set_cons_zero, List.set_cons_succ])
    | fail)
  have HB11 := hidk (HB9.out.trans (HX11.out.mono HB9.out.size))
  have HR3b := hidk ((HX11.out.block _ (heap_lt HR39.out)).trans HR39.out)
  clear HM4 HW4 HX11 HB9 HR19 HR39
  refine (V1.out _ HB11.out).mono ?_
  rintro e w12 ⟨rfl, hb12⟩
  have HB12 := hidk (HB11.out.trans (hb12.mono HB11.out.size))
  have HR3c := hidk ((hb12.block _ (heap_lt HR3b.out)).trans HR3b.out)
  clear hb12 HB11 HRa HR3b V1
  go_wp2_with (first
    | (show wpList _ _ _ ({ dst := some 29, op := _, type := _, pos := _, after := _, guard := _ } :: _) _ _; refine wpList_build_none_w (by rfl) 23 rfl Y HBY.out ?_; try simp only [Act.put, List.setIfInBounds_toArray, List.set_cons_zero, List.set_cons_succ])
    | (show wpList _ _ _ ({ dst := some 30, op := _, type := _, pos := _, after := _, guard := _ } :: _) _ _; refine wpList_load_row_w (by rfl) 28 (.tmp 3) rfl g3 rfl 28 U (0, 0) _ HR3c.out Tryd.underlying28 rfl HSU.out ?_; try simp only [Act.put, List.setIfInBounds_toArray, List.set_cons_zero, List.set_cons_succ])
    | fail)
  refine (V2.out _ HB12.out).mono ?_
  rintro e w13 ⟨rfl, hb13⟩
  have HB13 := hidk (HB12.out.trans (hb13.mono HB12.out.size))
  clear hb13 HB12 V2 HR3c
  go_wp2_with fail
  go_ret
  exact ⟨rfl, HB13.out⟩
end Go.Proofs.YtdnhnjimhbbabaaDoor

/- The statements' own example of a head's bytes, over what the calls of package head answer. -/
namespace Go.Proofs.YtdnhnjimhbbabaaDoor
open Go.RowKit Sums Nums
set_option linter.unusedVariables false
set_option linter.unusedSimpArgs false
set_option maxRecDepth 100000
theorem getHE_cut : getHE ((headB oneH).take 53) = 70 := by decide +kernel
theorem getHO_cut : getHO ((headB oneH).take 53) = zeroH := by
  have h := getHE_cut
  unfold getHE at h
  unfold getHO
  cases hq : getO ((headB oneH).take 53) with
  | none => rfl
  | some x => rw [hq] at h; simp at h
theorem get_one : getO (headB oneH) = some oneH := getO_head oneH one_right rfl
theorem len_one : (headB oneH).length = 54 := by rw [headB_one]; rfl
theorem slice_bytes (W : World) (g o len cap k : Nat) (hk : k ≤ cap) : (Instr.sliceAt 35 (.slice (some ⟨g, o, none⟩) len cap) none (some (.int .i64 k)) none).run Tryd.prog W = .ok (.slice (some ⟨g, o, none⟩) k cap) W := by
  simp [Instr.sliceAt, Instr.slice, Instr.sliceBounds, Instr.sliceBound, asIntOf, run_underlying Tryd.underlying35, sizeOf5, hk]
  rw [add_plain]
  simp
set_option maxHeartbeats 8000000 in
theorem lays_true (ck : HeadC) (w : World) : Calls Tryd.prog 15 #[] w fun e w' => e = .returned (.bool true) ∧ Below w.heap.size w w' := by
  obtain ⟨Z, HZ, HA, HBZ, H36⟩ := noughtsH
  obtain ⟨C, HC, HSC, H1C, H36C⟩ := head_row5 oneH rfl
  have HZC : Hid (Z.size = C.size) := by show _ = _; rw [H36.out, H36C.out]
  have HSZ : Hid ((Tryd.prog.info? 26).map (·.size) = some Z.size) := by show _ = _; rw [sizeH, H36.out]
  have H1Z : Hid (Z.all (·.oneCell') = true) := by show _ = _; rw [HZ.out]; exact one_cells _
  have ON : Hid (∀ W, Calls Tryd.prog 30 #[] W fun e w' => e = .returned (.agg C) ∧ Below W.heap.size W w') := fun W => one_any W C HC
  have PU : Hid (∀ W, Calls Tryd.prog 22 #[.agg C] W fun e w' => (∃ b off cap, e = .returned (.tuple #[.slice (some ⟨b, off, none⟩) 54 cap, .int .i64 0]) ∧ 54 ≤ cap ∧ Reads w' (some ⟨b, off, none⟩) 54 cap (headB oneH)) ∧ Below W.heap.size W w') := fun W => (ck.put oneH one_in W C HC).mono (by
    rintro e w' ⟨⟨a, cap, rfl, hR⟩, hb⟩
    have e1 : putB oneH = headB oneH := by unfold putB; rw [if_pos one_right]
    have e2 : putE oneH = 0 := by unfold putE; rw [if_pos one_right]
    rw [e1, len_one] at hR
    rw [e1, e2, len_one]
    refine ⟨?_, hb⟩
    obtain ⟨q1, q2, q3, q4⟩ := hR
    rcases q4 with ⟨_, h0⟩ | ⟨ad, _, h0⟩ | ⟨b, off, rfl, h⟩
    · omega
    · omega
    · exact ⟨b, off, cap, rfl, q2, q1, q2, q3, .inr (.inr ⟨b, off, rfl, h⟩)⟩)
  have GE : Hid (∀ W b off cap, Reads W (some ⟨b, off, none⟩) 54 cap (headB oneH) → Calls Tryd.prog 18 #[.slice (some ⟨b, off, none⟩) 54 cap] W fun e w' => e = .returned (.tuple #[.agg C, .int .i64 0]) ∧ Below W.heap.size W w') := fun W b off cap h => by
    have := ck.get _ _ _ _ W h (by omega) C (by show _ = _; unfold getHO; rw [get_one]; exact HC.out)
    have e : getHE (headB oneH) = 0 := by unfold getHE; rw [get_one]; rfl
    rwa [e] at this
  have GC : Hid (∀ W b off cap, Reads W (some ⟨b, off, none⟩) 54 cap (headB oneH) → Calls Tryd.prog 18 #[.slice (some ⟨b, off, none⟩) 53 cap] W fun e w' => e = .returned (.tuple #[.agg Z, .int .i64 70]) ∧ Below W.heap.size W w') := fun W b off cap h => by
    have h' : Reads W (some ⟨b, off, none⟩) 53 cap ((headB oneH).take 53) := by
      obtain ⟨q1, q2, q3, q4⟩ := h
      refine ⟨by rw [List.length_take, len_one]; rfl, by omega, q3, .inr (.inr ?_)⟩
      rcases q4 with ⟨h0, _⟩ | ⟨ad, _, h0⟩ | ⟨b', off', e, hlt, hc⟩
      · cases h0
      · omega
      · cases e
        refine ⟨b, off, rfl, hlt, fun i hi => ?_⟩
        rw [List.getElem_take]
        exact hc i (by rw [List.length_take] at hi; omega)
    have := ck.get _ _ _ _ W h' (by omega) Z (by show _ = _; rw [getHO_cut]; exact HZ.out)
    rwa [getHE_cut] at this
  have CV : Hid (∀ W b off cap, Reads W (some ⟨b, off, none⟩) 54 cap (headB oneH) → (convert 35 9 (.slice (some ⟨b, off, none⟩) 14 cap)).run Tryd.prog W = .ok (.string ⟨#[1, 0, 0, 1, 1, 2, 0, 0, 1, 1, 3, 0, 0, 0]⟩) W) := fun W b off cap h => by
    have := run_convert_bytes_back (P := Tryd.prog) W 35 9 5 ⟨b, off, none⟩ cap [1, 0, 0, 1, 1, 2, 0, 0, 1, 1, 3, 0, 0, 0] Tryd.underlying35 Tryd.underlying5 Tryd.underlying9 (fun j hj => by
      obtain ⟨q1, q2, q3, q4⟩ := h
      rcases q4 with ⟨h0, _⟩ | ⟨ad, _, h0⟩ | ⟨b', off', e, hlt, hc⟩
      · cases h0
      · omega
      · cases e
        have hj14 : j < 14 := hj
        have hj' : j < (headB oneH).length := by rw [len_one]; omega
        have e2 : (headB oneH)[j]'hj' = [1, 0, 0, 1, 1, 2, 0, 0, 1, 1, 3, 0, 0, 0][j] := by
          apply Option.some.inj
          rw [← List.getElem?_eq_getElem, ← List.getElem?_eq_getElem, headB_one, List.append_assoc, List.getElem?_append_left (by simp; omega)]
          show ([1, 0, 0, 1, 1, 2, 0, 0, 1, 1, 3, 0, 0, 0] ++ [4, 0, 0, 32] : List UInt8)[j]? = _
          rw [List.getElem?_append_left hj]
        rw [add_plain]
        have := hc j hj'
        rw [e2] at this
        exact this)
    exact this
  have NE : ∀ W, (binOp .neq 9 (.string ⟨#[1, 0, 0, 1, 1, 2, 0, 0, 1, 1, 3, 0, 0, 0]⟩) (.string ⟨#[1, 0, 0, 1, 1, 2, 0, 0, 1, 1, 3, 0, 0, 0]⟩)).run Tryd.prog W = .ok (.bool false) W := fun W => by simp [go_sem]
  have EQ : ∀ W, (binOp .eql 26 (.agg C) (.agg C)).run Tryd.prog W = .ok (.bool true) W := fun W => eqHead oneH oneH rfl rfl C C HC HC true (by simp) W
  have CH1 : Hid (∀ W, Calls Tryd.prog 38 #[.agg C] W fun e w' => e = .returned (.int .i64 0) ∧ Below W.heap.size W w') := fun W => by
    have := ck.check oneH one_in W C HC
    have e : putE oneH = 0 := by decide
    rwa [e] at this
  have CH0 : Hid (∀ W, Calls Tryd.prog 38 #[.agg Z] W fun e w' => e = .returned (.int .i64 70) ∧ Below W.heap.size W w') := fun W => by
    have := ck.check zeroH zero_in W Z HZ
    have e : putE zeroH = 70 := by decide
    rwa [e] at this
  have BZ : Hid (∀ W, (Instr.build 26 #[]).run Tryd.prog W = .ok (.agg Z) W) := fun W => run_build W 26 #[] Z HBZ.out
  clear HC HZ HBZ H36 H36C
  go_enter Tryd.func15, Tryd.ntmps15
  go_wp2_with fail
  refine (ON.out _).mono ?_
  rintro e w1 ⟨rfl, hb1⟩
  have HB1 := hidk hb1
  clear hb1
  go_wp2_with fail
  refine (PU.out _).mono ?_
  rintro e w2 ⟨⟨b, off, cap, rfl, h54, hR⟩, hb2⟩
  have HR := hidk hR
  have HB2 := hidk (HB1.out.trans (hb2.mono HB1.out.size))
  have hcv := CV.out w2 b off cap hR
  have hs14 : ∀ W, (Instr.sliceAt 35 (.slice (some ⟨b, off, none⟩) 54 cap) none (some (.int .i64 14)) none).run Tryd.prog W = .ok (.slice (some ⟨b, off, none⟩) 14 cap) W := fun W => slice_bytes W b off 54 cap 14 (by omega)
  have hs53 : ∀ W, (Instr.sliceAt 35 (.slice (some ⟨b, off, none⟩) 54 cap) none (some (.int .i64 53)) none).run Tryd.prog W = .ok (.slice (some ⟨b, off, none⟩) 53 cap) W := fun W => slice_bytes W b off 54 cap 53 (by omega)
  clear hb2 HB1 PU CV hR
  go_wp2_with fail
  refine (GE.out _ _ _ _ HR.out).mono ?_
  rintro e w3 ⟨rfl, hb3⟩
  have HB3 := hidk (HB2.out.trans (hb3.mono HB2.out.size))
  have HR3 := hidk (HR.out.below hb3)
  clear hb3 HB2 HR GE hcv hs14 NE
  go_wp2_with (first
    | (show wpList _ _ _ ({ dst := some 3, op := _, type := _, pos := _, after := _, guard := _ } :: _) _ _; refine wpList_new_var rfl 26 rfl Z HA.out ?_; intro g3 w4 HM3; try simp only [Act.put, List.setIfInBounds_toArray, List.set_cons_zero, List.set_cons_succ])
    | (refine wpList_set_var rfl 26 (.tmp 3) (.tmp 28) rfl g3 C rfl rfl 26 Z HM3.out.row HSC.out HZC.out H1C.out ?_; intro w5 HW3; try simp only [Act.put, List.setIfInBounds_toArray, List.set_cons_zero, List.set_cons_succ])
    | fail)
  have HX5 := hidk (HW3.out.below w3.heap.size w3 HM3.out.below (Nat.le_of_eq HM3.out.new.symm))
  have HB5 := hidk (HB3.out.trans (HX5.out.mono HB3.out.size))
  have HR5 := hidk (HR3.out.below HX5.out)
  have HG5 := hidk HW3.out.row
  clear HM3 HW3 HX5 HB3 HR3
  refine (GC.out _ _ _ _ HR5.out).mono ?_
  rintro e w6 ⟨rfl, hb6⟩
  have HB6 := hidk (HB5.out.trans (hb6.mono HB5.out.size))
  have HG6 := hidk ((hb6.block _ (heap_lt HG5.out)).trans HG5.out)
  clear hb6 HB5 HR5 HG5 GC hs53
  go_wp2_with (first
    | (show wpList _ _ _ ({ dst := some 5, op := _, type := _, pos := _, after := _, guard := _ } :: _) _ _; refine wpList_new_var rfl 26 rfl Z HA.out ?_; intro g5 w7 HM5; try simp only [Act.put, List.setIfInBounds_toArray, List.set_cons_zero, List.set_cons_succ])
    | (refine wpList_set_var rfl 26 (.tmp 5) (.tmp 34) rfl g5 Z rfl rfl 26 Z HM5.out.row HSZ.out rfl H1Z.out ?_; intro w8 HW5; try simp only [Act.put, List.setIfInBounds_toArray, List.set_cons_zero, List.set_cons_succ])
    | fail)
  have HX8 := hidk (HW5.out.below w6.heap.size w6 HM5.out.below (Nat.le_of_eq HM5.out.new.symm))
  have HBc := hidk (HB6.out.trans (HX8.out.mono HB6.out.size)).drew
  have HG8 := hidk ((HX8.out.block _ (heap_lt HG6.out)).trans HG6.out)
  clear HM5 HW5 HX8 HB6 HG6
  refine wp_region_held_drew (S := (fun W => W.heap[g3]? = some (.cells C 26 (0, 0)))) (by kernel_rfl) HG8.out (fun hHeld => ?_)
  refine wpAnyH_take (i := 0) (oi := { dst := some 36, op := Op.move (Operand.tmp 4), type := 29, pos := "law.go:25", after := #[], guard := none }) (v := .int .i64 0) rfl (by kernel_rfl) (by kernel_rfl) (by kernel_rfl) (fun _ _ _ h => h) (Or.inl ⟨by rfl, by intro W hSw; go_simp⟩) hHeld ?_
  try simp only [Act.put, List.setIfInBounds_toArray, List.set_cons_zero, List.set_cons_succ]
  refine wpAnyH_take (i := 1) (oi := { dst := some 37, op := Op.binOp BinOp.eql 29 (Operand.tmp 36) (Operand.const (Value.int IntKind.i64 0)) 29, type := 4, pos := "law.go:25", after := #[{ on := 0, ground := Ground.data }], guard := none }) (v := .bool true) rfl (by kernel_rfl) (by kernel_rfl) (by kernel_rfl) (fun _ _ _ h => h) (Or.inl ⟨by rfl, by intro W hSw; go_simp⟩) hHeld ?_
  try simp only [Act.put, List.setIfInBounds_toArray, List.set_cons_zero, List.set_cons_succ]
  refine wpAnyH_take (i := 2) (oi := { dst := some 38, op := Op.move (Operand.tmp 37), type := 4, pos := "law.go:25", after := #[{ on := 1, ground := Ground.data }], guard := none }) (v := .bool true) rfl (by kernel_rfl) (by kernel_rfl) (by kernel_rfl) (fun _ _ _ h => h) (Or.inl ⟨by rfl, by intro W hSw; go_simp⟩) hHeld ?_
  try simp only [Act.put, List.setIfInBounds_toArray, List.set_cons_zero, List.set_cons_succ]
  refine wpAnyH_take (i := 3) (oi := { dst := some 39, op := Op.load 26 (Operand.tmp 3), type := 26, pos := "law.go:25", after := #[{ on := 2, ground := Ground.guard }], guard := some (2, true) }) (v := .agg C) rfl (by kernel_rfl) (by kernel_rfl) (by kernel_rfl) (fun _ _ _ h => h) (yieldsIf_row (by rfl) 26 (.tmp 3) rfl g3 rfl 26 C (0, 0) _ (fun _ h => h) Tryd.underlying26 rfl HSC.out) hHeld ?_
  try simp only [Act.put, List.setIfInBounds_toArray, List.set_cons_zero, List.set_cons_succ]
  refine wpAnyH_ready (rs := [4]) (by kernel_rfl) (by simp) ?_
  refine (AllReadyH.cons (o := { dst := some 40, op := Op.call { callee := Callee.value (Operand.func 30), args := #[], argTypes := #[] }, type := 26, pos := "law.go:25", after := #[{ on := 2, ground := Ground.chain }, { on := 2, ground := Ground.guard }], guard := some (2, true) }) rfl (fun K hK => ?_) AllReadyH.nil)
  go_simp
  refine (ON.out _).mono ?_
  rintro e wc4 ⟨rfl, hb4⟩
  replace HBc := hidk (HBc.out.trans (hb4.mono HBc.out.size))
  go_wp2_with fail
  refine hK.out _ _ ((hb4.block _ (heap_lt hHeld)).trans hHeld) (fun hHeld => ?_)
  clear hK K
  try simp only [Act.put, List.setIfInBounds_toArray, List.set_cons_zero, List.set_cons_succ]
  refine wpAnyH_take (i := 5) (oi := { dst := some 41, op := Op.binOp BinOp.eql 26 (Operand.tmp 39) (Operand.tmp 40) 26, type := 4, pos := "law.go:25", after := #[{ on := 3, ground := Ground.data }, { on := 4, ground := Ground.data }, { on := 2, ground := Ground.guard }], guard := some (2, true) }) (v := .bool true) rfl (by kernel_rfl) (by kernel_rfl) (by kernel_rfl) (fun _ _ _ h => h) (Or.inl ⟨by rfl, by intro W hSw; have := EQ W; go_simp⟩) hHeld ?_
  try simp only [Act.put, List.setIfInBounds_toArray, List.set_cons_zero, List.set_cons_succ]
  refine wpAnyH_take (i := 6) (oi := { dst := some 42, op := Op.pick (Operand.tmp 38) (Operand.tmp 41) (Operand.const (Value.bool false)), type := 4, pos := "law.go:25", after := #[{ on := 2, ground := Ground.data }, { on := 5, ground := Ground.data }], guard := none }) (v := .bool true) rfl (by kernel_rfl) (by kernel_rfl) (by kernel_rfl) (fun _ _ _ h => h) (Or.inl ⟨by rfl, by intro W hSw; go_simp⟩) hHeld ?_
  try simp only [Act.put, List.setIfInBounds_toArray, List.set_cons_zero, List.set_cons_succ]
  refine wpAnyH_take (i := 7) (oi := { dst := some 43, op := Op.move (Operand.tmp 42), type := 4, pos := "law.go:25", after := #[{ on := 6, ground := Ground.data }, { on := 4, ground := Ground.chain }], guard := none }) (v := .bool true) rfl (by kernel_rfl) (by kernel_rfl) (by kernel_rfl) (fun _ _ _ h => h) (Or.inl ⟨by rfl, by intro W hSw; go_simp⟩) hHeld ?_
  try simp only [Act.put, List.setIfInBounds_toArray, List.set_cons_zero, List.set_cons_succ]
  refine wpAnyH_take (i := 8) (oi := { dst := some 44, op := Op.move (Operand.tmp 6), type := 29, pos := "law.go:25", after := #[{ on := 7, ground := Ground.guard }], guard := some (7, true) }) (v := .int .i64 70) rfl (by kernel_rfl) (by kernel_rfl) (by kernel_rfl) (fun _ _ _ h => h) (Or.inl ⟨by rfl, by intro W hSw; go_simp⟩) hHeld ?_
  try simp only [Act.put, List.setIfInBounds_toArray, List.set_cons_zero, List.set_cons_succ]
  refine wpAnyH_take (i := 9) (oi := { dst := some 45, op := Op.binOp BinOp.eql 29 (Operand.tmp 44) (Operand.const (Value.int IntKind.i64 70)) 29, type := 4, pos := "law.go:25", after := #[{ on := 8, ground := Ground.data }, { on := 7, ground := Ground.guard }], guard := some (7, true) }) (v := .bool true) rfl (by kernel_rfl) (by kernel_rfl) (by kernel_rfl) (fun _ _ _ h => h) (Or.inl ⟨by rfl, by intro W hSw; go_simp⟩) hHeld ?_
  try simp only [Act.put, List.setIfInBounds_toArray, List.set_cons_zero, List.set_cons_succ]
  refine wpAnyH_take (i := 10) (oi := { dst := some 46, op := Op.pick (Operand.tmp 43) (Operand.tmp 45) (Operand.const (Value.bool false)), type := 4, pos := "law.go:25", after := #[{ on := 7, ground := Ground.data }, { on := 9, ground := Ground.data }], guard := none }) (v := .bool true) rfl (by kernel_rfl) (by kernel_rfl) (by kernel_rfl) (fun _ _ _ h => h) (Or.inl ⟨by rfl, by intro W hSw; go_simp⟩) hHeld ?_
  try simp only [Act.put, List.setIfInBounds_toArray, List.set_cons_zero, List.set_cons_succ]
  refine wpAnyH_take (i := 11) (oi := { dst := some 47, op := Op.move (Operand.tmp 46), type := 4, pos := "law.go:25", after := #[{ on := 10, ground := Ground.data }, { on := 7, ground := Ground.chain }], guard := none }) (v := .bool true) rfl (by kernel_rfl) (by kernel_rfl) (by kernel_rfl) (fun _ _ _ h => h) (Or.inl ⟨by rfl, by intro W hSw; go_simp⟩) hHeld ?_
  try simp only [Act.put, List.setIfInBounds_toArray, List.set_cons_zero, List.set_cons_succ]
  refine wpAnyH_ready (rs := [12]) (by kernel_rfl) (by simp) ?_
  refine (AllReadyH.cons (o := { dst := some 48, op := Op.call { callee := Callee.value (Operand.func 30), args := #[], argTypes := #[] }, type := 26, pos := "law.go:25", after := #[{ on := 11, ground := Ground.chain }, { on := 11, ground := Ground.guard }], guard := some (11, true) }) rfl (fun K hK => ?_) AllReadyH.nil)
  go_simp
  refine (ON.out _).mono ?_
  rintro e wc12 ⟨rfl, hb12⟩
  replace HBc := hidk (HBc.out.trans (hb12.mono HBc.out.size))
  go_wp2_with fail
  refine hK.out _ _ ((hb12.block _ (heap_lt hHeld)).trans hHeld) (fun hHeld => ?_)
  clear hK K
  try simp only [Act.put, List.setIfInBounds_toArray, List.set_cons_zero, List.set_cons_succ]
  refine wpAnyH_ready (rs := [13]) (by kernel_rfl) (by simp) ?_
  refine (AllReadyH.cons (o := { dst := some 49, op := Op.call { callee := Callee.value (Operand.func 38), args := #[Operand.tmp 48], argTypes := #[26] }, type := 29, pos := "law.go:25", after := #[{ on := 12, ground := Ground.data }, { on := 12, ground := Ground.chain }, { on := 11, ground := Ground.guard }], guard := some (11, true) }) rfl (fun K hK => ?_) AllReadyH.nil)
  go_simp
  refine (CH1.out _).mono ?_
  rintro e wc13 ⟨rfl, hb13⟩
  replace HBc := hidk (HBc.out.trans (hb13.mono HBc.out.size))
  go_wp2_with fail
  refine hK.out _ _ ((hb13.block _ (heap_lt hHeld)).trans hHeld) (fun hHeld => ?_)
  clear hK K
  try simp only [Act.put, List.setIfInBounds_toArray, List.set_cons_zero, List.set_cons_succ]
  refine wpAnyH_take (i := 14) (oi := { dst := some 50, op := Op.binOp BinOp.eql 29 (Operand.tmp 49) (Operand.const (Value.int IntKind.i64 0)) 29, type := 4, pos := "law.go:25", after := #[{ on := 13, ground := Ground.data }, { on := 11, ground := Ground.guard }], guard := some (11, true) }) (v := .bool true) rfl (by kernel_rfl) (by kernel_rfl) (by kernel_rfl) (fun _ _ _ h => h) (Or.inl ⟨by rfl, by intro W hSw; go_simp⟩) hHeld ?_
  try simp only [Act.put, List.setIfInBounds_toArray, List.set_cons_zero, List.set_cons_succ]
  refine wpAnyH_take (i := 15) (oi := { dst := some 51, op := Op.pick (Operand.tmp 47) (Operand.tmp 50) (Operand.const (Value.bool false)), type := 4, pos := "law.go:25", after := #[{ on := 11, ground := Ground.data }, { on := 14, ground := Ground.data }], guard := none }) (v := .bool true) rfl (by kernel_rfl) (by kernel_rfl) (by kernel_rfl) (fun _ _ _ h => h) (Or.inl ⟨by rfl, by intro W hSw; go_simp⟩) hHeld ?_
  try simp only [Act.put, List.setIfInBounds_toArray, List.set_cons_zero, List.set_cons_succ]
  refine wpAnyH_take (i := 16) (oi := { dst := some 52, op := Op.move (Operand.tmp 51), type := 4, pos := "law.go:25", after := #[{ on := 15, ground := Ground.data }, { on := 13, ground := Ground.chain }], guard := none }) (v := .bool true) rfl (by kernel_rfl) (by kernel_rfl) (by kernel_rfl) (fun _ _ _ h => h) (Or.inl ⟨by rfl, by intro W hSw; go_simp⟩) hHeld ?_
  try simp only [Act.put, List.setIfInBounds_toArray, List.set_cons_zero, List.set_cons_succ]
  refine wpAnyH_take (i := 17) (oi := { dst := some 53, op := Op.build 26 #[], type := 26, pos := "law.go:25", after := #[{ on := 16, ground := Ground.guard }], guard := some (16, true) }) (v := .agg Z) rfl (by kernel_rfl) (by kernel_rfl) (by kernel_rfl) (fun _ _ _ h => h) (yieldsIf_build (by rfl) 26 #[] rfl #[] rfl (.agg Z) BZ.out) hHeld ?_
  try simp only [Act.put, List.setIfInBounds_toArray, List.set_cons_zero, List.set_cons_succ]
  refine wpAnyH_ready (rs := [18]) (by kernel_rfl) (by simp) ?_
  refine (AllReadyH.cons (o := { dst := some 54, op := Op.call { callee := Callee.value (Operand.func 38), args := #[Operand.tmp 53], argTypes := #[26] }, type := 29, pos := "law.go:25", after := #[{ on := 17, ground := Ground.data }, { on := 16, ground := Ground.chain }, { on := 16, ground := Ground.guard }], guard := some (16, true) }) rfl (fun K hK => ?_) AllReadyH.nil)
  go_simp
  refine (CH0.out _).mono ?_
  rintro e wc18 ⟨rfl, hb18⟩
  replace HBc := hidk (HBc.out.trans (hb18.mono HBc.out.size))
  go_wp2_with fail
  refine hK.out _ _ ((hb18.block _ (heap_lt hHeld)).trans hHeld) (fun hHeld => ?_)
  clear hK K
  try simp only [Act.put, List.setIfInBounds_toArray, List.set_cons_zero, List.set_cons_succ]
  refine wpAnyH_take (i := 19) (oi := { dst := some 55, op := Op.binOp BinOp.eql 29 (Operand.tmp 54) (Operand.const (Value.int IntKind.i64 70)) 29, type := 4, pos := "law.go:25", after := #[{ on := 18, ground := Ground.data }, { on := 16, ground := Ground.guard }], guard := some (16, true) }) (v := .bool true) rfl (by kernel_rfl) (by kernel_rfl) (by kernel_rfl) (fun _ _ _ h => h) (Or.inl ⟨by rfl, by intro W hSw; go_simp⟩) hHeld ?_
  try simp only [Act.put, List.setIfInBounds_toArray, List.set_cons_zero, List.set_cons_succ]
  refine wpAnyH_take (i := 20) (oi := { dst := some 56, op := Op.pick (Operand.tmp 52) (Operand.tmp 55) (Operand.const (Value.bool false)), type := 4, pos := "law.go:25", after := #[{ on := 16, ground := Ground.data }, { on := 19, ground := Ground.data }], guard := none }) (v := .bool true) rfl (by kernel_rfl) (by kernel_rfl) (by kernel_rfl) (fun _ _ _ h => h) (Or.inl ⟨by rfl, by intro W hSw; go_simp⟩) hHeld ?_
  try simp only [Act.put, List.setIfInBounds_toArray, List.set_cons_zero, List.set_cons_succ]
  refine wpAnyH_take (i := 21) (oi := { dst := some 0, op := Op.assign (Operand.tmp 56), type := 4, pos := "law.go:25", after := #[{ on := 20, ground := Ground.data }, { on := 18, ground := Ground.chain }, { on := 0, ground := Ground.phase }, { on := 1, ground := Ground.phase }, { on := 2, ground := Ground.phase }, { on := 3, ground := Ground.phase }, { on := 4, ground := Ground.phase }, { on := 5, ground := Ground.phase }, { on := 6, ground := Ground.phase }, { on := 7, ground := Ground.phase }, { on := 8, ground := Ground.phase }, { on := 9, ground := Ground.phase }, { on := 10, ground := Ground.phase }, { on := 11, ground := Ground.phase }, { on := 12, ground := Ground.phase }, { on := 13, ground := Ground.phase }, { on := 14, ground := Ground.phase }, { on := 15, ground := Ground.phase }, { on := 16, ground := Ground.phase }, { on := 17, ground := Ground.phase }, { on := 18, ground := Ground.phase }, { on := 19, ground := Ground.phase }, { on := 20, ground := Ground.phase }], guard := none }) (v := .bool true) rfl (by kernel_rfl) (by kernel_rfl) (by kernel_rfl) (fun _ _ _ h => h) (Or.inl ⟨by rfl, by intro W hSw; go_simp⟩) hHeld ?_
  try simp only [Act.put, List.setIfInBounds_toArray, List.set_cons_zero, List.set_cons_succ]
  refine wpAnyH_done (by kernel_rfl) ?_ _
  go_wp2_with fail
  go_ret
  exact ⟨rfl, HBc.out⟩
end Go.Proofs.YtdnhnjimhbbabaaDoor

/- What HeadLays says of any input, over what the calls of package head answer. -/
namespace Go.Proofs.YtdnhnjimhbbabaaDoor
open Go.RowKit Sums Nums
set_option linter.unusedVariables false
set_option linter.unusedSimpArgs false
set_option maxRecDepth 100000
theorem neq_same (W : World) (s : ByteArray) : (binOp .neq 9 (.string s) (.string s)).run Tryd.prog W = .ok (.bool false) W := by simp [go_sem]
theorem putSB_length (s : SgT) (hs : InS s) : (putSB s).length ≤ 136 := by
  unfold putSB
  split
  · exact signB_length s hs.h.d hs.g
  · simp
set_option maxHeartbeats 8000000 in
theorem headLays_of (ck : HeadC) (s : SgT) (w : World) (X : Array Value) (HX : Hid (X = (scells s).toArray)) (hs : InS s) (hT : TabH w) :
    Calls Tryd.prog 4 #[.agg X] w fun e w' => e = .returned (.bool true) ∧ Below w.heap.size w w' := by
  have HR : Hid ((w.alloc (.cells X 28)).heap[w.heap.size]? = some (.cells X 28 (0, 0))) := heap_alloc_new w _
  have HB : Hid (Below w.heap.size w (w.alloc (.cells X 28))) := (Below.refl _ _).alloc (Nat.le_refl _) _
  have HSX : Hid ((Tryd.prog.info? 28).map (·.size) = some X.size) := by show _ = _; rw [sizeS, HX.out]; simp [scells_length _ hs.h.d hs.g]
  have H1X : Hid (X.all (·.oneCell') = true) := by show _ = _; rw [HX.out]; exact one_cellsS _
  obtain ⟨Z, HZ, HA, HBZ, H69⟩ := noughtsS
  have HZX : Hid (Z.size = X.size) := by show _ = _; rw [H69.out, HX.out]; simp [scells_length _ hs.h.d hs.g]
  obtain ⟨E, hE⟩ : ∃ E, E = putSE s := ⟨_, rfl⟩
  obtain ⟨L, hL⟩ : ∃ L, L = putSB s := ⟨_, rfl⟩
  have hlen : L.length ≤ 136 := by rw [hL]; exact putSB_length s hs
  have PG : Hid (∀ W, Calls Tryd.prog 13 #[.agg X] W fun e w' => BytesE L E e w' ∧ Below W.heap.size W w') := fun W => by rw [hE, hL]; exact ck.putS s hs W X HX
  have PR : Hid (∀ W, Calls Tryd.prog 14 #[.agg X] W fun e w' => BytesE L E e w' ∧ Below W.heap.size W w') := fun W => (refPutS_any s hs.h.d hs.g W X HX).mono (by
    rintro e w' ⟨v, rfl, ho, hb⟩
    have e1 : (if mayS s = true then signB s else []) = L := hL.symm
    have e2 : (if mayS s = true then (0 : Int) else 70) = E := hE.symm
    rw [e1] at ho
    rw [e2]
    obtain ⟨a, cap, rfl, hR⟩ := reads_own ho
    exact ⟨⟨a, cap, rfl, hR⟩, hb⟩)
  have LY : Hid (∀ W, Calls Tryd.prog 15 #[] W fun e w' => e = .returned (.bool true) ∧ Below W.heap.size W w') := fun W => lays_true ck W
  have SI : Hid (∀ W, Below w.heap.size w W → Calls Tryd.prog 10 #[] W fun e w' => e = .returned (.bool true) ∧ Below W.heap.size W w') := fun W hb => signs_true ck W (hT.keep hb)
  have GS : Hid (E = 0 → ∀ W a cap, Reads W a L.length cap L → Calls Tryd.prog 16 #[.slice a L.length cap] W fun e w' => e = .returned (.tuple #[.agg X, .int .i64 0]) ∧ Below W.heap.size W w') := fun h0 W a cap h => by
    have hm : mayS s = true := by
      rw [hE] at h0
      unfold putSE at h0
      by_cases hm : mayS s = true
      · exact hm
      · rw [if_neg hm] at h0; omega
    have e1 : L = signB s := by rw [hL]; unfold putSB; rw [if_pos hm]
    have e2 : Go.Proofs.YtdnhnjimhbbabaaDoor.getS L = some s := by rw [e1]; exact getS_sign s hm hs.h.d hs.g
    have := ck.getS a _ cap L W h (by omega) X (by show _ = _; unfold getSO; rw [e2]; exact HX.out)
    have e3 : getSE L = 0 := by unfold getSE; rw [e2]; rfl
    rwa [e3] at this
  have EQ : ∀ W, (binOp .eql 28 (.agg X) (.agg X)).run Tryd.prog W = .ok (.bool true) W := fun W => eqSigned s s hs.h.d hs.h.d hs.g hs.g X X HX HX true (by simp) W
  have h07 : E = 0 ∨ E = 70 := by rw [hE]; unfold putSE; split <;> simp
  obtain ⟨T, HT⟩ : ∃ T : ByteArray, Hid (T = ⟨L.toArray⟩) := ⟨_, hidk rfl⟩
  obtain ⟨len, hlen'⟩ : ∃ n, n = L.length := ⟨_, rfl⟩
  have PG' : Hid (∀ W, Calls Tryd.prog 13 #[.agg X] W fun e w' => (∃ a cap, e = .returned (.tuple #[.slice a len cap, .int .i64 E]) ∧ Reads w' a len cap L) ∧ Below W.heap.size W w') := fun W => by rw [hlen']; exact PG.out W
  have PR' : Hid (∀ W, Calls Tryd.prog 14 #[.agg X] W fun e w' => (∃ a cap, e = .returned (.tuple #[.slice a len cap, .int .i64 E]) ∧ Reads w' a len cap L) ∧ Below W.heap.size W w') := fun W => by rw [hlen']; exact PR.out W
  have GS' : Hid (E = 0 → ∀ W a cap, Reads W a len cap L → Calls Tryd.prog 16 #[.slice a len cap] W fun e w' => e = .returned (.tuple #[.agg X, .int .i64 0]) ∧ Below W.heap.size W w') := by show _; rw [hlen']; exact GS.out
  have CV : Hid (∀ W a cap, Reads W a len cap L → (convert 35 9 (.slice a len cap)).run Tryd.prog W = .ok (.string T) W) := fun W a cap h => by rw [HT.out]; exact conv_reads h
  have NE : ∀ W, (binOp .neq 9 (.string T) (.string T)).run Tryd.prog W = .ok (.bool false) W := fun W => neq_same W T
  clear hT HX hs hE hL hlen hlen' PG PR GS HZ HBZ H69 HT
  go_enter Tryd.func4, Tryd.ntmps4
  go_wp2_with (first
    | (show wpList _ _ _ ({ dst := some 10, op := _, type := _, pos := _, after := _, guard := _ } :: _) _ _; refine wpList_load_row rfl 28 (.tmp 1) rfl w.heap.size rfl 28 X (0, 0) _ HR.out Tryd.underlying28 rfl HSX.out ?_; try simp only [Act.put, List.setIfInBounds_toArray, List.set_cons_zero, List.set_cons_succ])
    | fail)
  refine (PG'.out _).mono ?_
  rintro e w1 ⟨⟨a1, cap1, rfl, hR1⟩, hb1⟩
  have HQ1 := hidk hR1
  have HB1 := hidk (HB.out.trans (hb1.mono HB.out.size))
  have HR1 := hidk ((hb1.block _ (heap_lt HR.out)).trans HR.out)
  clear hb1 hR1 HB HR PG'
  go_wp2_with (first
    | (show wpList _ _ _ ({ dst := some 15, op := _, type := _, pos := _, after := _, guard := _ } :: _) _ _; refine wpList_load_row rfl 28 (.tmp 1) rfl w.heap.size rfl 28 X (0, 0) _ HR1.out Tryd.underlying28 rfl HSX.out ?_; try simp only [Act.put, List.setIfInBounds_toArray, List.set_cons_zero, List.set_cons_succ])
    | fail)
  refine (PR'.out _).mono ?_
  rintro e w2 ⟨⟨a2, cap2, rfl, hR2⟩, hb2⟩
  have HQ2 := hidk (HQ1.out.below hb2)
  have HB2 := hidk (HB1.out.trans (hb2.mono HB1.out.size))
  have HR2 := hidk ((hb2.block _ (heap_lt HR1.out)).trans HR1.out)
  have c1 := CV.out w2 a1 cap1 HQ2.out
  have c2 := CV.out w2 a2 cap2 hR2
  clear hb2 hR2 HB1 HR1 HQ1 PR' CV
  rcases h07 with rfl | rfl
  · go_wp2_with fail
    refine (GS'.out (by trivial) _ _ _ HQ2.out).mono ?_
    rintro e w3 ⟨rfl, hb3⟩
    have HB3 := hidk (HB2.out.trans (hb3.mono HB2.out.size))
    have HR3 := hidk ((hb3.block _ (heap_lt HR2.out)).trans HR2.out)
    clear hb3 HB2 HR2 HQ2 GS' c1 c2 NE
    go_wp2_with (first
      | (show wpList _ _ _ ({ dst := some 7, op := _, type := _, pos := _, after := _, guard := _ } :: _) _ _; refine wpList_new_var rfl 28 rfl Z HA.out ?_; intro g7 w4 HM7; try simp only [Act.put, List.setIfInBounds_toArray, List.set_cons_zero, List.set_cons_succ])
      | (refine wpList_set_var rfl 28 (.tmp 7) (.tmp 38) rfl g7 X rfl rfl 28 Z HM7.out.row HSX.out HZX.out H1X.out ?_; intro w5 HW7; try simp only [Act.put, List.setIfInBounds_toArray, List.set_cons_zero, List.set_cons_succ])
      | fail)
    have HX5 := hidk (HW7.out.below w3.heap.size w3 HM7.out.below (Nat.le_of_eq HM7.out.new.symm))
    have HB5 := hidk (HB3.out.trans (HX5.out.mono HB3.out.size))
    have HR5 := hidk ((HX5.out.block _ (heap_lt HR3.out)).trans HR3.out)
    have HR75 := hidk HW7.out.row
    clear HM7 HW7 HX5 HB3 HR3
    refine (LY.out _).mono ?_
    rintro e w6 ⟨rfl, hb6⟩
    have HB6 := hidk (HB5.out.trans (hb6.mono HB5.out.size))
    have HR6 := hidk ((hb6.block _ (heap_lt HR5.out)).trans HR5.out)
    have HR76 := hidk ((hb6.block _ (heap_lt HR75.out)).trans HR75.out)
    clear hb6 HB5 HR5 HR75 LY
    go_wp2_with fail
    refine (SI.out _ HB6.out).mono ?_
    rintro e w7 ⟨rfl, hb7⟩
    have HB7 := hidk (HB6.out.trans (hb7.mono HB6.out.size))
    have HR7 := hidk ((hb7.block _ (heap_lt HR6.out)).trans HR6.out)
    have HR77 := hidk ((hb7.block _ (heap_lt HR76.out)).trans HR76.out)
    clear hb7 HB6 HR6 HR76 SI
    go_wp2_with (first
      | (show wpList _ _ _ ({ dst := some 49, op := _, type := _, pos := _, after := _, guard := _ } :: _) _ _; refine wpList_load_row_w (by rfl) 28 (.tmp 7) rfl g7 rfl 28 X (0, 0) _ HR77.out Tryd.underlying28 rfl HSX.out ?_; try simp only [Act.put, List.setIfInBounds_toArray, List.set_cons_zero, List.set_cons_succ])
      | (show wpList _ _ _ ({ dst := some 50, op := _, type := _, pos := _, after := _, guard := _ } :: _) _ _; refine wpList_load_row_w (by rfl) 28 (.tmp 1) rfl w.heap.size rfl 28 X (0, 0) _ HR7.out Tryd.underlying28 rfl HSX.out ?_; try simp only [Act.put, List.setIfInBounds_toArray, List.set_cons_zero, List.set_cons_succ])
      | fail)
    go_ret
    exact ⟨rfl, HB7.out⟩
  · go_wp2_with fail
    refine (LY.out _).mono ?_
    rintro e w6 ⟨rfl, hb6⟩
    have HB6 := hidk (HB2.out.trans (hb6.mono HB2.out.size))
    clear hb6 HB2 LY
    go_wp2_with fail
    refine (SI.out _ HB6.out).mono ?_
    rintro e w7 ⟨rfl, hb7⟩
    have HB7 := hidk (HB6.out.trans (hb7.mono HB6.out.size))
    clear hb7 HB6 SI
    go_wp2_with fail
    go_ret
    exact ⟨rfl, HB7.out⟩
theorem headLays_in (ck : HeadC) (z0 : SgT) (w : World) (w0 : InS z0) (hT : TabH w) :
    Calls Tryd.prog 4 #[signV z0] w fun e w' => e = .returned (.bool true) ∧ Below w.heap.size w w' :=
  headLays_of ck z0 w _ (hidk rfl) w0 hT
end Go.Proofs.YtdnhnjimhbbabaaDoor

/- A table of constants that is laid as the program's text lays it can be read; a digest that came in is 32 bytes. -/
namespace Go.Proofs.YtdnhnjimhbbabaaDoor
open Go.RowKit Sums
set_option maxRecDepth 100000
theorem table_reads {H : Type} {enc : TypeId × Value → H} {W : World} {sp : Nat → Bool} {held : Bool} {n : String} {g fuel base : Nat} {cs : Array Value} {p : List MemPlace} (hg : Tryd.prog.globalNamed n = some g) (hv : W.var? Tryd.prog n = some cs)
    (hd : DataW.trod enc Tryd.prog W base sp held fuel 121 cs.toList = some (.agg (kT.map fun z => .lit (.int .u32 z)), p)) : Table g W := by
  obtain ⟨xs, m, rfl, hx, hl, hxl, hall⟩ := DataW.trod_array Tryd.underlying121 hd
  have h1 : Tryd.prog.cellsOf 106 = 1 := by kernel_rfl
  have h64 : Tryd.prog.cellsOf 121 = 64 := by kernel_rfl
  rw [h64] at hl
  rw [h1] at hall
  simp only [Nat.mul_one] at hall
  simp only [Prod.mk.injEq, DataW.agg.injEq] at hx
  have cell : ∀ k, k < 64 → W.cell? ⟨g, k, none⟩ = some (.int .u32 (kT.getD k 0)) := by
    intro k hk
    have hkT : k < kT.length := hk
    have hk' := hall k hk
    rw [List.getElem?_eq_getElem (by omega)] at hk'
    obtain ⟨z, hz, he, _⟩ := DataW.trod_int Tryd.underlying106 hk'
    have e : (cs.toList.drop k).take 1 = [cs.toList[k]'(by omega)] := by
      rw [List.drop_eq_getElem_cons (by omega)]; rfl
    rw [e] at hz
    simp only [List.cons.injEq, and_true] at hz
    have hk2 : (kT.map fun z => (DataW.lit (.int .u32 z) : DataW H))[k]? = (xs.map (·.1))[k]? := by rw [hx.1]
    rw [List.getElem?_map, List.getElem?_map, List.getElem?_eq_getElem (show k < xs.length by omega), List.getElem?_eq_getElem hkT] at hk2
    simp only [Option.map_some, Option.some.injEq] at hk2
    rw [he] at hk2
    have hzk : kT[k]'hkT = z := (Lit.int.inj (DataW.lit.inj hk2)).2
    rw [World.var?_cell hg hv k]
    have : cs[k]? = some (cs.toList[k]'(by omega)) := by
      rw [← Array.getElem?_toList, List.getElem?_eq_getElem (by omega)]
    rw [this, hz, ← hzk]
    simp [List.getD, List.getElem?_eq_getElem hkT]
  refine ⟨World.block_lt_of_cell? _ _ (cell 0 (by decide)), cell⟩
end Go.Proofs.YtdnhnjimhbbabaaDoor

/- What HeadTurned says of any input, over what the calls of package head answer. -/
namespace Go.Proofs.YtdnhnjimhbbabaaDoor
open Go.RowKit Sums Nums
set_option linter.unusedVariables false
set_option linter.unusedSimpArgs false
set_option maxRecDepth 100000
/-- A row stored in the midst of a variable. -/
theorem wpList_set_mid {P : Program} {ops : Array Oper} {rest : List Oper} {o : Oper} {a : Act} {w : World} {Q : Exit → Act → World → Prop} (hgd : o.guard = none) (ty : TypeId) (x y : Operand) (ho : o.op = .store ty x y)
    (g k : Nat) (D : Array Value) (hx : a.eval x = .pointer (some ⟨g, k, none⟩)) (hy : a.eval y = .agg D) (t' : TypeId) (Z : Array Value) (hg : w.heap[g]? = some (.cells Z t' (0, 0))) (hk : k + D.size ≤ Z.size) (hi : (P.info? ty).map (·.size) = some D.size) (h1 : D.all (·.oneCell') = true)
    (h : ∀ w', Hid (Wrote g (Z.toList.take k ++ D.toList ++ Z.toList.drop (k + D.size)).toArray t' w w') → wpList P ops Q rest (a.put o.dst undef) w') : wpList P ops Q (o :: rest) a w := by
  refine wpList_plain hgd fun K hK => ?_
  have hkk := hK _ _ (h _ (wrote_row hg))
  have h1' : ∀ v ∈ D.toList, v.oneCell' = true := by
    intro v hv
    rw [Array.all_eq_true'] at h1
    exact h1 v (by simpa using hv)
  have hst := run_storeCells_at P g k t' D.toList 0 Z w hg (by simpa using hk) h1'
  cases hq : P.info? ty with
  | none => simp [hq] at hi
  | some i =>
    have hs : i.size = D.size := by simpa [hq] using hi
    unfold Oper.wp execOp
    simp only [ho, hx, hy, Instr.storeAt, Instr.sureAddr, Sem.run_bind, Sem.run_pure, Result.andThen_ok]
    simp only [Nat.add_zero, Nat.zero_add] at hst
    simp [storeVar, sizeOf, typeInfo, hq, Value.cells, hs, hst]
    simp only [List.append_assoc] at hkk ⊢
    exact hkk
/-- A key and two heads that came in. -/
def CameT (w W : World) (M C X : Array Value) : Prop := Below w.heap.size w W ∧ W.heap[w.heap.size]? = some (.cells M 23 (0, 0)) ∧ W.heap[w.heap.size + 1]? = some (.cells C 26 (0, 0)) ∧ W.heap[w.heap.size + 2]? = some (.cells X 26 (0, 0))
theorem CameT.keep {w W W' : World} {M C X : Array Value} (h : CameT w W M C X) (hb : Below W.heap.size W W') : CameT w W' M C X :=
  ⟨h.1.trans (hb.mono h.1.size), (hb.block _ (heap_lt h.2.1)).trans h.2.1, (hb.block _ (heap_lt h.2.2.1)).trans h.2.2.1, (hb.block _ (heap_lt h.2.2.2)).trans h.2.2.2⟩
end Go.Proofs.YtdnhnjimhbbabaaDoor

/- What a reader's own calls answer: what is left of a row, field by field. -/
namespace Go.Proofs.YtdnhnjimhbbabaaDoor
open Go.RowKit Sums Nums
set_option linter.unusedVariables false
set_option linter.unusedSimpArgs false
set_option maxRecDepth 100000
theorem grownBy_set0 (W : World) (b : Nat) (v : Value) : W.grownBy (W.setCell ⟨b, 0, none⟩ v) (some b) :=
  ⟨rfl, rfl, rfl, by simp [World.setCell], fun k _ hk => Below.heap_setCell W ⟨b, 0, none⟩ v k (fun e => hk (by rw [e]))⟩
/-- The fields that are left of a row, by a reader's variable g; they lie in a block from lo on, below g. -/
def Rd (W : World) (lo g : Nat) (fs : List (Int × ByteArray)) : Prop :=
  ∃ a cap, W.heap[g]? = some (.cells #[.slice a fs.length cap] 65 (0, 0)) ∧ lo ≤ g ∧ fs.length ≤ cap ∧ cap ≤ 9223372036854775807 ∧ (∀ f ∈ fs, f.2.size ≤ maxLen) ∧
    (fs = [] ∨ ∃ b off, a = some ⟨b, off, none⟩ ∧ lo ≤ b ∧ b < g ∧ ∀ (i : Nat) (h : i < fs.length), W.cell? ⟨b, off + i * 2, none⟩ = some (.int .i64 fs[i].1) ∧ W.cell? ⟨b, off + i * 2 + 1, none⟩ = some (.string fs[i].2))
theorem Rd.keep {W W' : World} {lo g : Nat} {fs : List (Int × ByteArray)} (h : Rd W lo g fs) (hb : ∀ k, lo ≤ k → k ≤ g → W'.heap[k]? = W.heap[k]?) : Rd W' lo g fs := by
  obtain ⟨a, cap, h1, h2, h3, h4, h5, h6⟩ := h
  refine ⟨a, cap, (hb g h2 (Nat.le_refl _)).trans h1, h2, h3, h4, h5, ?_⟩
  rcases h6 with h6 | ⟨b, off, e, hl, hg, hc⟩
  · exact .inl h6
  · have hk := hb b hl (by omega)
    exact .inr ⟨b, off, e, hl, hg, fun i hi => ⟨(World.cell?_of_block (a := ⟨b, off + i * 2, none⟩) hk).trans (hc i hi).1, (World.cell?_of_block (a := ⟨b, off + i * 2 + 1, none⟩) hk).trans (hc i hi).2⟩⟩
theorem Rd.lt {W : World} {lo g : Nat} {fs : List (Int × ByteArray)} (h : Rd W lo g fs) : g < W.heap.size := by
  obtain ⟨a, cap, h1, _⟩ := h
  exact heap_lt h1
theorem Rd.below {W W' : World} {lo g : Nat} {fs : List (Int × ByteArray)} (h : Rd W lo g fs) (hb : Below W.heap.size W W') : Rd W' lo g fs :=
  h.keep fun k _ hk => hb.block k (Nat.lt_of_le_of_lt hk h.lt)
theorem Rd.wrote {W W' : World} {lo g k : Nat} {D : Array Value} {t : TypeId} {fs : List (Int × ByteArray)} (h : Rd W lo g fs) (hw : Wrote k D t W W') (hk : k < lo ∨ g < k) : Rd W' lo g fs :=
  h.keep fun i hi hg => hw.other i (by omega)
def tkD (tag : Int) (fs : List (Int × ByteArray)) : ByteArray := match fs with
  | f :: _ => if f.1 = tag then f.2 else ⟨#[]⟩
  | [] => ⟨#[]⟩
def tkB (tag : Int) (fs : List (Int × ByteArray)) : Bool := match fs with
  | f :: _ => decide (f.1 = tag)
  | [] => false
def tkR (tag : Int) (fs : List (Int × ByteArray)) : List (Int × ByteArray) := match fs with
  | f :: r => if f.1 = tag then r else f :: r
  | [] => []
theorem ended_any (W : World) (lo g : Nat) (fs : List (Int × ByteArray)) (h : Rd W lo g fs) (x : Bool) (hx : x = decide (fs.length = 0)) :
    Calls Tryd.prog 46 #[.pointer (some ⟨g, 0, none⟩)] W fun e w' => e = .returned (.bool x) ∧ w' = W := by
  obtain ⟨a, cap, h1, h2, h3, h4, h5, h6⟩ := h
  have hc : W.cell? ⟨g, 0, none⟩ = some (.slice a fs.length cap) := by rw [cell_of_row W g 0 _ _ (0, 0) h1]; rfl
  have hm : fs.length ≤ 9223372036854775807 := by omega
  subst hx
  cases fs with
  | nil =>
    clear h1 h2 h3 h5 h6
    simp only [List.length_nil] at hc
    go_enter Tryd.func46, Tryd.ntmps46
    go_wp2
    go_ret
    exact ⟨rfl, rfl⟩
  | cons f r =>
    clear h1 h2 h3 h5 h6
    simp only [List.length_cons] at hc hm
    go_enter Tryd.func46, Tryd.ntmps46
    go_wp2
    go_ret
    exact ⟨by simp; omega, rfl⟩
set_option maxHeartbeats 2000000 in
theorem data_any (W : World) (lo g : Nat) (fs : List (Int × ByteArray)) (tag : Int) (h : Rd W lo g fs) :
    Calls Tryd.prog 64 #[.pointer (some ⟨g, 0, none⟩), .int .i64 tag] W fun e w' => e = .returned (.tuple #[.string (tkD tag fs), .bool (tkB tag fs)]) ∧ W.grownBy w' (some g) ∧ Rd w' lo g (tkR tag fs) := by
  obtain ⟨x, hx⟩ : ∃ x, x = decide (fs.length = 0) := ⟨_, rfl⟩
  have E1 : Hid (Calls Tryd.prog 46 #[.pointer (some ⟨g, 0, none⟩)] W fun e w' => e = .returned (.bool x) ∧ w' = W) := ended_any W lo g fs h x hx
  have HR := hidk h
  obtain ⟨a, cap, h1, h2, h3, h4, h5, h6⟩ := h
  have hc : W.cell? ⟨g, 0, none⟩ = some (.slice a fs.length cap) := by rw [cell_of_row W g 0 _ _ (0, 0) h1]; rfl
  have hm : fs.length ≤ 9223372036854775807 := by omega
  cases fs with
  | nil =>
    obtain rfl : x = true := by rw [hx]; rfl
    clear h1 h2 h3 h5 h6 hx hc hm
    go_enter Tryd.func64, Tryd.ntmps64
    go_wp2_with fail
    refine E1.out.mono ?_
    rintro e w1 ⟨rfl, rfl⟩
    go_wp2
    go_ret2
    exact ⟨rfl, World.grownBy.refl _ _, HR.out⟩
  | cons f r =>
    obtain rfl : x = false := by rw [hx]; simp
    rcases h6 with h6 | ⟨b, off, rfl, hl, hg, hcs⟩
    · cases h6
    have c0 := (hcs 0 (by simp)).1
    have c1 := (hcs 0 (by simp)).2
    simp only [Nat.zero_mul, Nat.add_zero, List.getElem_cons_zero] at c0 c1
    simp only [List.length_cons] at hc hm h3
    have hfz : W.frozen? ⟨g, 0, none⟩ = false := frozen_of_row W g 0 _ _ h1
    by_cases ht : f.1 = tag
    · have HE : Hid (tkD tag (f :: r) = f.2 ∧ tkB tag (f :: r) = true ∧ tkR tag (f :: r) = r) := ⟨if_pos ht, by show decide _ = true; simpa using ht, if_pos ht⟩
      rw [HE.out.1, HE.out.2.1, HE.out.2.2]
      obtain ⟨d, hd⟩ : ∃ d, d = f.2 := ⟨_, rfl⟩
      rw [ht] at c0
      rw [← hd] at c1 ⊢
      clear HE ht hd
      by_cases hcap : cap = 1
      · obtain rfl : r = [] := List.eq_nil_of_length_eq_zero (by omega)
        subst hcap
        have HG := hidk (grownBy_set0 W g (.slice (some ⟨b, off, none⟩) 0 0))
        have HN : Hid (Rd (W.setCell ⟨g, 0, none⟩ (.slice (some ⟨b, off, none⟩) 0 0)) lo g []) :=
          ⟨some ⟨b, off, none⟩, 0, Go.heap_setCell_same W g 0 _ _ _ h1, h2, Nat.le_refl _, by omega, fun y hy => by simp at hy, .inl rfl⟩
        simp only [List.length_nil, Nat.zero_add] at hc
        clear h1 h2 h5 hx HR hcs h3 hm
        go_enter Tryd.func64, Tryd.ntmps64
        go_wp2_with fail
        refine E1.out.mono ?_
        rintro e w1 ⟨rfl, rfl⟩
        go_wp2
        go_ret2
        exact ⟨rfl, HG.out, HN.out⟩
      · have HG := hidk (grownBy_set0 W g (.slice (some ⟨b, off + 2, none⟩) r.length (cap - 1)))
        have HN : Hid (Rd (W.setCell ⟨g, 0, none⟩ (.slice (some ⟨b, off + 2, none⟩) r.length (cap - 1))) lo g r) := by
          refine ⟨some ⟨b, off + 2, none⟩, cap - 1, ?_, h2, by omega, by omega, fun y hy => h5 y (List.mem_cons_of_mem _ hy), .inr ⟨b, off + 2, rfl, hl, hg, fun i hi => ?_⟩⟩
          · exact Go.heap_setCell_same W g 0 _ _ _ h1
          · have hk := Below.heap_setCell W ⟨g, 0, none⟩ (.slice (some ⟨b, off + 2, none⟩) r.length (cap - 1)) b (by show b ≠ g; omega)
            have hh := hcs (i + 1) (by simpa using hi)
            rw [show off + (i + 1) * 2 = off + 2 + i * 2 by omega] at hh
            exact ⟨(World.cell?_of_block (a := ⟨b, off + 2 + i * 2, none⟩) hk).trans hh.1, (World.cell?_of_block (a := ⟨b, off + 2 + i * 2 + 1, none⟩) hk).trans hh.2⟩
        have hcap' : ¬ cap - 1 = 0 := by omega
        clear h1 h2 h5 hx HR hcs
        go_enter Tryd.func64, Tryd.ntmps64
        go_wp2_with fail
        refine E1.out.mono ?_
        rintro e w1 ⟨rfl, rfl⟩
        go_wp2
        go_ret2
        exact ⟨rfl, HG.out, HN.out⟩
    · have HE : Hid (tkD tag (f :: r) = ⟨#[]⟩ ∧ tkB tag (f :: r) = false ∧ tkR tag (f :: r) = f :: r) := ⟨if_neg ht, by show decide _ = false; simpa using ht, if_neg ht⟩
      rw [HE.out.1, HE.out.2.1, HE.out.2.2]
      obtain ⟨t, hd⟩ : ∃ d, d = f.1 := ⟨_, rfl⟩
      rw [← hd] at c0 ht
      clear h1 h2 h5 hx hcs HE hd c1
      go_enter Tryd.func64, Tryd.ntmps64
      go_wp2_with fail
      refine E1.out.mono ?_
      rintro e w1 ⟨rfl, rfl⟩
      go_wp2
      go_ret2
      exact ⟨rfl, World.grownBy.refl _ _, HR.out⟩
end Go.Proofs.YtdnhnjimhbbabaaDoor

/- What the small calls of package head answer: within, Check, mayBe, numberField, digestField. -/
namespace Go.Proofs.YtdnhnjimhbbabaaDoor
open Go.RowKit Sums Nums
set_option linter.unusedVariables false
set_option linter.unusedSimpArgs false
set_option maxRecDepth 100000
theorem hWithin_any (n a b : Int) (w : World) : Calls Tryd.prog 50 #[.int .i64 n, .int .i64 a, .int .i64 b] w fun e w' => e = .returned (.bool (decide (a ≤ n) && decide (n ≤ b))) ∧ w' = w := by
  by_cases h1 : a ≤ n
  · have d1 : decide (a ≤ n) = true := by rw [decide_eq_true_eq]; exact h1
    obtain ⟨x, hx⟩ : ∃ x, decide (n ≤ b) = x := ⟨_, rfl⟩
    rw [d1, hx]
    clear h1
    go_enter Tryd.func50, Tryd.ntmps50
    go_wp2
    go_ret
    exact ⟨rfl, rfl⟩
  · have d1 : decide (a ≤ n) = false := by rw [decide_eq_false_iff_not]; exact h1
    rw [d1]
    clear h1
    go_enter Tryd.func50, Tryd.ntmps50
    go_wp2
    go_ret
    exact ⟨rfl, rfl⟩
set_option maxHeartbeats 2000000 in
theorem hCheck_any (h : HdT) (hd : h.d.length = 32) (w : World) (C : Array Value) (HC : Hid (C = (hcells h).toArray)) :
    Calls Tryd.prog 38 #[.agg C] w fun e w' => e = .returned (.int .i64 (putE h)) ∧ Below w.heap.size w w' := by
  have HR := hrow_new w h hd C HC 26
  have HB : Hid (Below w.heap.size w (w.alloc (.cells C 26))) := (Below.refl _ _).alloc (Nat.le_refl _) _
  have c0 := HR.r
  have c1 := HR.e
  have c2 := HR.s
  have c4 := HR.t
  simp only [Nat.zero_add] at c1 c2 c4
  have hnot : ∀ (x : Bool) (w : World), (Op.unary .not (.bool x)).run Tryd.prog w = .ok (.bool (!x)) w := fun _ _ => rfl
  have WI : Hid (∀ (n a b : Int) (W : World), Calls Tryd.prog 50 #[.int .i64 n, .int .i64 a, .int .i64 b] W fun e w' => e = .returned (.bool (decide (a ≤ n) && decide (n ≤ b))) ∧ w' = W) := hWithin_any
  obtain ⟨b1, hb1⟩ : ∃ b, (decide (1 ≤ h.r) && decide (h.r ≤ 5)) = b := ⟨_, rfl⟩
  obtain ⟨b2, hb2⟩ : ∃ b, (decide (1 ≤ h.e) && decide (h.e ≤ 900000000)) = b := ⟨_, rfl⟩
  obtain ⟨b3, hb3⟩ : ∃ b, (decide (0 ≤ h.s) && decide (h.s ≤ 100000)) = b := ⟨_, rfl⟩
  obtain ⟨b4, hb4⟩ : ∃ b, (decide (0 ≤ h.t) && decide (h.t ≤ 900000000)) = b := ⟨_, rfl⟩
  have W1 := hidk (WI.out h.r 1 5)
  have W2 := hidk (WI.out h.e 1 900000000)
  have W3 := hidk (WI.out h.s 0 100000)
  have W4 := hidk (WI.out h.t 0 900000000)
  rw [hb1] at W1
  rw [hb2] at W2
  rw [hb3] at W3
  rw [hb4] at W4
  have hE : putE h = if (b1 && (b2 && (b3 && b4))) = true then 0 else 70 := by
    rw [← hb1, ← hb2, ← hb3, ← hb4]
    unfold putE rightH
    simp only [Bool.and_assoc]
  rw [hE]
  obtain ⟨r, hr⟩ : ∃ r, r = h.r := ⟨_, rfl⟩
  obtain ⟨e, he⟩ : ∃ r, r = h.e := ⟨_, rfl⟩
  obtain ⟨s, hs⟩ : ∃ r, r = h.s := ⟨_, rfl⟩
  obtain ⟨t, ht⟩ : ∃ r, r = h.t := ⟨_, rfl⟩
  rw [← hr] at c0 W1
  rw [← he] at c1 W2
  rw [← hs] at c2 W3
  rw [← ht] at c4 W4
  clear hE hb1 hb2 hb3 hb4 WI HR hr he hs ht HC
  cases b1
  · go_enter Tryd.func38, Tryd.ntmps38
    go_wp2_with fail
    refine (W1.out _).mono ?_
    rintro e w1 ⟨rfl, rfl⟩
    go_wp2
    go_ret
    exact ⟨rfl, HB.out⟩
  cases b2
  · go_enter Tryd.func38, Tryd.ntmps38
    go_wp2_with fail
    refine (W1.out _).mono ?_
    rintro e w1 ⟨rfl, rfl⟩
    go_wp2_with fail
    refine (W2.out _).mono ?_
    rintro e w1 ⟨rfl, rfl⟩
    go_wp2
    go_ret
    exact ⟨rfl, HB.out⟩
  cases b3
  · go_enter Tryd.func38, Tryd.ntmps38
    go_wp2_with fail
    refine (W1.out _).mono ?_
    rintro e w1 ⟨rfl, rfl⟩
    go_wp2_with fail
    refine (W2.out _).mono ?_
    rintro e w1 ⟨rfl, rfl⟩
    go_wp2_with fail
    refine (W3.out _).mono ?_
    rintro e w1 ⟨rfl, rfl⟩
    go_wp2
    go_ret
    exact ⟨rfl, HB.out⟩
  cases b4
  · go_enter Tryd.func38, Tryd.ntmps38
    go_wp2_with fail
    refine (W1.out _).mono ?_
    rintro e w1 ⟨rfl, rfl⟩
    go_wp2_with fail
    refine (W2.out _).mono ?_
    rintro e w1 ⟨rfl, rfl⟩
    go_wp2_with fail
    refine (W3.out _).mono ?_
    rintro e w1 ⟨rfl, rfl⟩
    go_wp2_with fail
    refine (W4.out _).mono ?_
    rintro e w1 ⟨rfl, rfl⟩
    go_wp2
    go_ret
    exact ⟨rfl, HB.out⟩
  · go_enter Tryd.func38, Tryd.ntmps38
    go_wp2_with fail
    refine (W1.out _).mono ?_
    rintro e w1 ⟨rfl, rfl⟩
    go_wp2_with fail
    refine (W2.out _).mono ?_
    rintro e w1 ⟨rfl, rfl⟩
    go_wp2_with fail
    refine (W3.out _).mono ?_
    rintro e w1 ⟨rfl, rfl⟩
    go_wp2_with fail
    refine (W4.out _).mono ?_
    rintro e w1 ⟨rfl, rfl⟩
    go_wp2
    go_ret
    exact ⟨rfl, HB.out⟩
theorem putE_ok (h : HdT) : putE h = 0 ∧ rightH h = true ∨ putE h = 70 ∧ rightH h = false := by
  unfold putE
  cases rightH h
  · exact .inr ⟨rfl, rfl⟩
  · exact .inl ⟨rfl, rfl⟩
set_option maxHeartbeats 2000000 in
theorem hMay_any (s : SgT) (hd : s.h.d.length = 32) (w : World) (C : Array Value) (HC : Hid (C = (scells s).toArray)) :
    Calls Tryd.prog 23 #[.agg C] w fun e w' => e = .returned (.bool (mayS s)) ∧ Below w.heap.size w w' := by
  have HR := hidk (srow_new w s hd C HC 28)
  have HB : Hid (Below w.heap.size w (w.alloc (.cells C 28))) := (Below.refl _ _).alloc (Nat.le_refl _) _
  obtain ⟨HCs, HHC, HSH, H36⟩ := head_row s.h hd
  have HRH : Hid ((w.alloc (.cells C 28)).rangeAt w.heap.size 0 HCs.toList) := by rw [HHC.out]; exact HR.out.h
  obtain ⟨n, Hn⟩ : ∃ n, Hid (n = s.n) := ⟨s.n, hidk rfl⟩
  obtain ⟨b2, hb2⟩ : ∃ b, (decide (1 ≤ n) && decide (n ≤ 3)) = b := ⟨_, rfl⟩
  obtain ⟨E, hE0⟩ : ∃ E, E = putE s.h := ⟨_, rfl⟩
  have R1 : Hid (∀ W, Calls Tryd.prog 38 #[.agg HCs] W fun e w' => e = .returned (.int .i64 E) ∧ Below W.heap.size W w') := fun W => by rw [hE0]; exact hCheck_any s.h hd W HCs HHC
  have W2 : Hid (∀ W, Calls Tryd.prog 50 #[.int .i64 n, .int .i64 1, .int .i64 3] W fun e w' => e = .returned (.bool b2) ∧ w' = W) := fun W => by rw [← hb2]; exact hWithin_any n 1 3 W
  have hM : mayS s = (rightH s.h && b2) := by
    rw [← hb2, Hn.out]
    unfold mayS
    rw [Bool.and_assoc]
  rw [hM]
  have hp := putE_ok s.h
  rw [← hE0] at hp
  clear hM hb2 HC hE0
  rcases hp with ⟨rfl, hr⟩ | ⟨rfl, hr⟩
  · rw [hr]
    clear hr
    go_enter Tryd.func23, Tryd.ntmps23
    go_wp2_with (first
      | (show wpList _ _ _ ({ dst := some 4, op := _, type := _, pos := _, after := _, guard := _ } :: _) _ _; refine wpList_mid rfl 26 (.tmp 3) rfl w.heap.size 0 rfl HCs _ HRH.out Tryd.underlying26 rfl HSH.out ?_; try simp only [Act.put, List.setIfInBounds_toArray, List.set_cons_zero, List.set_cons_succ])
      | fail)
    refine (R1.out _).mono ?_
    rintro e w1 ⟨rfl, hb⟩
    have HB1 := hidk (HB.out.trans (hb.mono HB.out.size))
    have hc := (HR.out.keep hb).n
    rw [← Hn.out, Nat.zero_add] at hc
    clear hb
    go_wp2_with fail
    refine (W2.out _).mono ?_
    rintro e w2 ⟨rfl, rfl⟩
    go_wp2
    go_ret
    exact ⟨rfl, HB1.out⟩
  · rw [hr]
    clear hr
    go_enter Tryd.func23, Tryd.ntmps23
    go_wp2_with (first
      | (show wpList _ _ _ ({ dst := some 4, op := _, type := _, pos := _, after := _, guard := _ } :: _) _ _; refine wpList_mid rfl 26 (.tmp 3) rfl w.heap.size 0 rfl HCs _ HRH.out Tryd.underlying26 rfl HSH.out ?_; try simp only [Act.put, List.setIfInBounds_toArray, List.set_cons_zero, List.set_cons_succ])
      | fail)
    refine (R1.out _).mono ?_
    rintro e w1 ⟨rfl, hb⟩
    have HB1 := hidk (HB.out.trans (hb.mono HB.out.size))
    clear hb
    go_wp2
    go_ret
    exact ⟨rfl, HB1.out⟩
set_option maxHeartbeats 2000000 in
theorem hNum_any (t n : Int) (w : World) : Calls Tryd.prog 35 #[.int .i64 t, .int .i64 n] w fun e w' => e = .returned (.agg #[.int .i64 t, .string (nOf n)]) ∧ Below w.heap.size w w' := by
  obtain ⟨x, Hx⟩ : ∃ x : ByteArray, Hid (x = nOf n) := ⟨nOf n, hidk rfl⟩
  obtain ⟨E, HE⟩ : ∃ E, Hid (E = neOf n) := ⟨_, hidk rfl⟩
  have N1 : Hid (∀ W, Calls Tryd.prog 59 #[.int .i64 n] W fun e w' => e = .returned (.tuple #[.string x, .int .i64 E]) ∧ Below W.heap.size W w') := fun W => by rw [Hx.out, HE.out]; exact number_any n W
  rw [← Hx.out]
  clear Hx HE
  go_enter Tryd.func35, Tryd.ntmps35
  go_wp2_with fail
  refine (N1.out _).mono ?_
  rintro e w1 ⟨rfl, hb1⟩
  have hlt : w.heap.size < w1.heap.size := by have := hb1.size; simp at this; omega
  have hg : w1.heap[w.heap.size]? = some (.cells #[.int .i64 0, .string ⟨#[]⟩] 59 (0, 0)) := (hb1.block _ (by simp)).trans (heap_alloc_new w _)
  have c0 : w1.cell? ⟨w.heap.size, 0, none⟩ = some (.int .i64 0) := by rw [cell_of_row w1 _ 0 _ 59 (0, 0) hg]; rfl
  have c1 : w1.cell? ⟨w.heap.size, 1, none⟩ = some (.string ⟨#[]⟩) := by rw [cell_of_row w1 _ 1 _ 59 (0, 0) hg]; rfl
  have HB : Hid (Below w.heap.size w w1) := ((Below.refl _ _).alloc (Nat.le_refl _) _).trans (hb1.mono (by simp))
  have f0 : w1.frozen? ⟨w.heap.size, 0, none⟩ = false := frozen_of_row w1 _ 0 _ _ hg
  have f1 : w1.frozen? ⟨w.heap.size, 1, none⟩ = false := frozen_of_row w1 _ 1 _ _ hg
  clear hb1
  have HG2 := hidk (Go.heap_setCell_same _ _ 1 _ _ (.string x) (Go.heap_setCell_same w1 _ 0 _ _ (.int .i64 t) hg))
  clear hg
  go_wp2
  refine bodyPost_ret (v := .agg #[.int .i64 t, .string x]) ?_ rfl ⟨rfl, (HB.out.setCell (Nat.le_refl _) _).setCell (Nat.le_refl _) _⟩
  exact results_cell_row (p := 4) (ty := 59) rfl _ _ w.heap.size 59 #[.int .i64 t, .string x] (0, 0) _ rfl HG2.out Tryd.underlying59 rfl (by kernel_rfl)
set_option maxHeartbeats 2000000 in
theorem hDig_any (t : Int) (d : List UInt8) (hd : d.length = 32) (w : World) (D : Array Value) (HD : Hid (D = (cellsOf d).toArray)) : Calls Tryd.prog 36 #[.int .i64 t, .agg D] w fun e w' => e = .returned (.agg #[.int .i64 t, .string (bA d)]) ∧ Below w.heap.size w w' := by
  obtain ⟨x, Hx⟩ : ∃ x : ByteArray, Hid (x = bA d) := ⟨bA d, hidk rfl⟩
  have HCV : Hid (∀ (W : World) (g : Nat), W.heap[g]? = some (.cells D 24 (0, 0)) → Sem.run Tryd.prog (convert 35 9 (.slice (some ⟨g, 0, none⟩) 32 32)) W = .ok (.string x) W) := fun W g h => by
    rw [Hx.out]
    refine conv_at W g 0 d hd fun j v hj => ?_
    rw [Nat.zero_add, cell_of_row W g j _ _ (0, 0) h, HD.out]
    simpa using hj
  have HSL := hidk slice_at
  rw [← Hx.out]
  clear Hx HD
  have hn0 : (w.alloc (.cells D 24)).heap[w.heap.size]? = some (.cells D 24 (0, 0)) := heap_alloc_new w _
  have hcv := HCV.out ((w.alloc (.cells D 24)).alloc (.cells #[.int .i64 0, .string ⟨#[]⟩] 59)) w.heap.size (heap_keep hn0)
  have hsl := HSL.out ((w.alloc (.cells D 24)).alloc (.cells #[.int .i64 0, .string ⟨#[]⟩] 59)) w.heap.size 0
  have hg := heap_alloc_new (w.alloc (.cells D 24)) (.cells #[.int .i64 0, .string ⟨#[]⟩] 59)
  rw [alloc_size] at hg
  have hg2 := heap_alloc_new (w.alloc (.cells D 24)) (.cells #[.int .i64 t, .string x] 59)
  rw [alloc_size] at hg2
  have HG2 := hidk hg2
  have HB : Hid (Below w.heap.size w ((w.alloc (.cells D 24)).alloc (.cells #[.int .i64 t, .string x] 59))) := ((Below.refl _ _).alloc (Nat.le_refl _) _).alloc (by simp) _
  clear HCV HSL hn0 hg hg2
  go_enter Tryd.func36, Tryd.ntmps36
  go_wp2
  refine bodyPost_ret (v := .agg #[.int .i64 t, .string x]) ?_ rfl ⟨rfl, HB.out⟩
  exact results_cell_row (p := 4) (ty := 59) rfl _ _ (w.heap.size + 1) 59 #[.int .i64 t, .string x] (0, 0) _ rfl HG2.out Tryd.underlying59 rfl (by kernel_rfl)
end Go.Proofs.YtdnhnjimhbbabaaDoor
