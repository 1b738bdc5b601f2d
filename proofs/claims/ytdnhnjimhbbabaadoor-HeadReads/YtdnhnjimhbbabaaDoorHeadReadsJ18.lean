/- Texts of our own that the row of HeadReads leans on, part 18. -/
import Derived.Test.YtdnhnjimhbbabaaDoorHeadReadsJ15
import Derived.Test.YtdnhnjimhbbabaaDoorHeadReadsJ16
import Derived.Test.YtdnhnjimhbbabaaDoorHeadReadsJ17

/- What the document's Digest and Row answer. -/
namespace Go.Proofs.YtdnhnjimhbbabaaDoor
open Go.RowKit Sums Nums
set_option linter.unusedVariables false
set_option linter.unusedSimpArgs false
set_option maxRecDepth 100000
theorem filled32_put (B : List UInt8) (k : Nat) (hB : B.length = 32) (hk : k < 32) : (filled (B.take k) 32).set k B[k] = filled (B.take (k + 1)) 32 := by
  unfold filled
  have h1 : (B.take k).length = k := by rw [List.length_take]; omega
  have h2 : (B.take (k + 1)).length = k + 1 := by rw [List.length_take]; omega
  rw [h1, h2, List.set_append_right _ _ (by omega), h1, Nat.sub_self, List.take_add_one, List.getElem?_eq_getElem (by omega), show 32 - k = (32 - (k + 1)) + 1 by omega, List.replicate_succ, List.set_cons_zero]
  simp only [Option.toList_some, List.append_assoc, List.singleton_append]
/-- What Digest answers. -/
def digO (s : ByteArray) : List UInt8 := if s.size = 32 then s.data.toList else List.replicate 32 0
theorem digO_length (s : ByteArray) : (digO s).length = 32 := by
  unfold digO; split
  · rename_i h; exact h
  · simp
set_option maxHeartbeats 4000000 in
theorem refDig_any (s : ByteArray) (w : World) (hs : s.size ≤ maxLen) (D : Array Value) (HD : Hid (D = (cellsOf (digO s)).toArray)) :
    Calls Tryd.prog 48 #[.string s] w fun e w' => e = .returned (.tuple #[.agg D, .bool (decide (s.size = 32))]) ∧ Below w.heap.size w w' := by
  obtain ⟨Z, HZ, HA, HS, H1, H32⟩ := noughts27
  have hml : s.size ≤ 9223372036854775807 := by unfold maxLen at hs; omega
  have HSD : Hid ((Tryd.prog.info? 24).map (·.size) = some D.size) := by show _ = _; rw [size23, HD.out]; simp [cellsOf_length, digO_length]
  have H1D : Hid (D.all (·.oneCell') = true) := by show _ = _; rw [HD.out]; exact cellsOf_all _
  have HZD : Hid (Z.size = D.size) := by show _ = _; rw [H32.out, HD.out]; simp [cellsOf_length, digO_length]
  by_cases h32 : s.size = 32
  · have d32 : decide (s.size = 32) = true := by rw [decide_eq_true_eq]; exact h32
    rw [d32]
    have hl : s.data.toList.length = 32 := h32
    have HDS : Hid (D = (cellsOf (filled (s.data.toList.take 32) 32)).toArray) := by
      show _ = _
      rw [HD.out]
      unfold digO filled
      rw [if_pos h32, List.take_of_length_le (by omega), hl]
      simp
    have HZ0 : Hid (Z = (cellsOf (filled (s.data.toList.take 0) 32)).toArray) := by
      show _ = _
      rw [HZ.out]
      simp [filled]
    have hsz : ∀ k, k ≤ 32 → (cellsOf (filled (s.data.toList.take k) 32)).toArray.size = 32 := fun k hk => by
      rw [List.size_toArray, cellsOf_length, filled_length _ _ (by rw [List.length_take]; omega)]
    have HSZ := hidk hsz
    clear HZ d32 hsz HD
    go_enter Tryd.func48, Tryd.ntmps48
    go_wp2_with (first
      | (show wpList _ _ _ ({ dst := some 2, op := _, type := _, pos := _, after := _, guard := _ } :: _) _ _; refine wpList_new_var rfl 24 rfl Z HA.out ?_; intro g2 w1 HM2; try simp only [Act.put, List.setIfInBounds_toArray, List.set_cons_zero, List.set_cons_succ])
      | (show wpList _ _ _ ({ dst := some 4, op := _, type := _, pos := _, after := _, guard := _ } :: _) _ _; refine wpList_new_var rfl 24 rfl Z HA.out ?_; intro g4 w2 HM4; try simp only [Act.put, List.setIfInBounds_toArray, List.set_cons_zero, List.set_cons_succ])
      | fail)
    have h2 : w.heap.size ≤ g2 := Nat.le_of_eq HM2.out.new.symm
    have h4 : g2 < g4 := by rw [HM4.out.new]; exact heap_lt HM2.out.row
    have HL0 : Hid (w2.heap[g2]? = some (.cells Z 24 (0, 0)) ∧ w2.heap[g4]? = some (.cells (cellsOf (filled (s.data.toList.take 0) 32)).toArray 24 (0, 0)) ∧ Below w.heap.size w w2) :=
      ⟨(HM4.out.below.block _ (heap_lt HM2.out.row)).trans HM2.out.row, by rw [← HZ0.out]; exact HM4.out.row, HM2.out.below.trans (HM4.out.below.mono HM2.out.below.size)⟩
    clear HM2 HM4
    go_loopw [5] (fun i wr => ∃ k : Nat, k ≤ 32 ∧ i = .int .i64 k ∧ Hid (wr.heap[g2]? = some (.cells Z 24 (0, 0)) ∧ wr.heap[g4]? = some (.cells (cellsOf (filled (s.data.toList.take k) 32)).toArray 24 (0, 0)) ∧ Below w.heap.size w wr)) (fun i _ => 32 - (intOf i).toNat)
    case atStart => exact ⟨0, by omega, rfl, HL0⟩
    case round =>
      clear HL0
      obtain ⟨k, hk, rfl, HL⟩ := hrel
      by_cases hlt : k < 32
      · have dk : decide ((k : Int) < 32) = true := by rw [decide_eq_true_eq]; omega
        have dk' : decide (k < 32) = true := by rw [decide_eq_true_eq]; omega
        have hks : k < s.size := by omega
        obtain ⟨y, Hy⟩ : ∃ y : UInt8, Hid (y = s[k]) := ⟨s[k], hidk rfl⟩
        have hyk : (s[k]).toNat = y.toNat := by rw [Hy.out]
        have s1 := hidk (HSZ.out k hk)
        go_wp2_with (first
          | (refine wpList_put8 rfl 5 (.tmp 18) (.tmp 17) rfl sizeOf5 g4 k (y.toNat : Int) rfl rfl (cellsOf (filled (s.data.toList.take k) 32)).toArray 24 HL.out.2.1 (by rw [s1.out]; exact hlt) ?_; intro wa H1w; try simp only [Act.put, List.setIfInBounds_toArray, List.set_cons_zero, List.set_cons_succ])
          | fail)
        have HL' : Hid (wa.heap[g2]? = some (.cells Z 24 (0, 0)) ∧ wa.heap[g4]? = some (.cells (cellsOf (filled (s.data.toList.take (k + 1)) 32)).toArray 24 (0, 0)) ∧ Below w.heap.size w wa) := by
          refine ⟨(H1w.out.other g2 (by omega)).trans HL.out.1, ?_, H1w.out.below _ _ HL.out.2.2 (by omega)⟩
          rw [H1w.out.row, cells_put, ← filled32_put s.data.toList k hl hlt]
          have e : s.data.toList[k] = y := by rw [Hy.out]; rfl
          rw [e]
        clear H1w HL hyk
        go_roundw
        case rel => exact ⟨k + 1, by omega, by go_num, HL'⟩
        case measure => simp [intOf]; omega
      · obtain rfl : k = 32 := by omega
        have HR4 : Hid (wr.heap[g4]? = some (.cells D 24 (0, 0))) := by show _ = _; rw [HDS.out]; exact HL.out.2.1
        have HR2 := hidk HL.out.1
        have HB := hidk HL.out.2.2
        clear HL
        go_wp2_with (first
          | (show wpList _ _ _ ({ dst := some 19, op := _, type := _, pos := _, after := _, guard := _ } :: _) _ _; refine wpList_load_row rfl 24 (.tmp 4) rfl g4 rfl 24 D (0, 0) _ HR4.out Tryd.underlying24 rfl HSD.out ?_; try simp only [Act.put, List.setIfInBounds_toArray, List.set_cons_zero, List.set_cons_succ])
          | (refine wpList_set_var rfl 24 (.tmp 2) (.tmp 19) rfl g2 D rfl rfl 24 Z HR2.out HSD.out HZD.out H1D.out ?_; intro wz HW2; try simp only [Act.put, List.setIfInBounds_toArray, List.set_cons_zero, List.set_cons_succ])
          | fail)
        refine bodyPost_ret (v := .tuple #[.agg D, .bool true]) ?_ rfl ⟨rfl, HW2.out.below w.heap.size w HB.out h2⟩
        exact results_row_tmp (p := 2) (q := 3) (ty := 24) rfl _ _ g2 24 D (0, 0) _ rfl HW2.out.row Tryd.underlying24 rfl HSD.out
  · have d32 : decide (s.size = 32) = false := by rw [decide_eq_false_iff_not]; exact h32
    rw [d32]
    have hne : ((s.size : Int) != 32) = true := by rw [bne_iff_ne]; omega
    obtain rfl : D = Z := by rw [HD.out, HZ.out]; unfold digO; rw [if_neg h32]
    clear HZ d32 h32 HD HZD
    go_enter Tryd.func48, Tryd.ntmps48
    go_wp2_with (first
      | (show wpList _ _ _ ({ dst := some 2, op := _, type := _, pos := _, after := _, guard := _ } :: _) _ _; refine wpList_new_var rfl 24 rfl D HA.out ?_; intro g2 w1 HM2; try simp only [Act.put, List.setIfInBounds_toArray, List.set_cons_zero, List.set_cons_succ])
      | (show wpList _ _ _ ({ dst := some 4, op := _, type := _, pos := _, after := _, guard := _ } :: _) _ _; refine wpList_new_var rfl 24 rfl D HA.out ?_; intro g4 w2 HM4; have HR2 := hidk ((HM4.out.below.block _ (heap_lt HM2.out.row)).trans HM2.out.row); try simp only [Act.put, List.setIfInBounds_toArray, List.set_cons_zero, List.set_cons_succ])
      | (show wpList _ _ _ ({ dst := some 9, op := _, type := _, pos := _, after := _, guard := _ } :: _) _ _; refine wpList_load_row rfl 24 (.tmp 4) rfl g4 rfl 24 D (0, 0) _ HM4.out.row Tryd.underlying24 rfl HSD.out ?_; try simp only [Act.put, List.setIfInBounds_toArray, List.set_cons_zero, List.set_cons_succ])
      | (refine wpList_set_var rfl 24 (.tmp 2) (.tmp 9) rfl g2 D rfl rfl 24 D HR2.out HSD.out rfl H1D.out ?_; intro wz HW2; try simp only [Act.put, List.setIfInBounds_toArray, List.set_cons_zero, List.set_cons_succ])
      | fail)
    refine bodyPost_ret (v := .tuple #[.agg D, .bool false]) ?_ rfl ⟨rfl, HW2.out.below w.heap.size w (HM2.out.below.trans (HM4.out.below.mono HM2.out.below.size)) (Nat.le_of_eq HM2.out.new.symm)⟩
    exact results_row_tmp (p := 2) (q := 3) (ty := 24) rfl _ _ g2 24 D (0, 0) _ rfl HW2.out.row Tryd.underlying24 rfl HSD.out
end Go.Proofs.YtdnhnjimhbbabaaDoor

/- What the document's Bytes, May, BytesSigned and Tag answer. -/
namespace Go.Proofs.YtdnhnjimhbbabaaDoor
open Go.RowKit Sums Nums
set_option linter.unusedVariables false
set_option linter.unusedSimpArgs false
set_option maxRecDepth 100000
theorem cell_keep {W W' : World} {p : Addr} {v : Value} (hb : Below W.heap.size W W') (h : W.cell? p = some v) : W'.cell? p = some v := by
  rw [hb.cell (World.block_lt_of_cell? _ _ h)]; exact h
theorem HRow.keep {W W' : World} {g o : Nat} {h : HdT} (hr : HRow W g o h) (hb : Below W.heap.size W W') : HRow W' g o h :=
  ⟨cell_keep hb hr.r, cell_keep hb hr.e, cell_keep hb hr.s, range_keep hb hr.d, cell_keep hb hr.t⟩
theorem sizeH : (Tryd.prog.info? 26).map (·.size) = some 36 := by kernel_rfl
theorem sizeS : (Tryd.prog.info? 28).map (·.size) = some 69 := by kernel_rfl
theorem head_row (h : HdT) (hd : h.d.length = 32) : ∃ C : Array Value, Hid (C = (hcells h).toArray) ∧ Hid ((Tryd.prog.info? 26).map (·.size) = some C.size) ∧ Hid (C.size = 36) := by
  refine ⟨(hcells h).toArray, hidk rfl, ?_, ?_⟩
  · show _ = _
    rw [sizeH]; simp [hcells_length h hd]
  · show _ = _
    simp [hcells_length h hd]
end Go.Proofs.YtdnhnjimhbbabaaDoor

/- What the document's May, BytesSigned, PutSigned and Tag answer. -/
namespace Go.Proofs.YtdnhnjimhbbabaaDoor
open Go.RowKit Sums Nums
set_option linter.unusedVariables false
set_option linter.unusedSimpArgs false
set_option maxRecDepth 100000
/-- What the parts of a signed head's row read as. -/
structure SRow (W : World) (g o : Nat) (s : SgT) : Prop where
  h : W.rangeAt g o (hcells s.h)
  n : W.cell? ⟨g, o + 36, none⟩ = some (.int .i64 s.n)
  g : W.rangeAt g (o + 37) (cellsOf s.g)
theorem SRow.keep {W W' : World} {g o : Nat} {s : SgT} (hr : SRow W g o s) (hb : Below W.heap.size W W') : SRow W' g o s := ⟨range_keep hb hr.h, cell_keep hb hr.n, range_keep hb hr.g⟩
theorem srow_of {W : World} {g o : Nat} {s : SgT} (hd : s.h.d.length = 32) (hr : W.rangeAt g o (scells s)) : SRow W g o s := by
  have hl := hcells_length s.h hd
  refine ⟨?_, ?_, ?_⟩
  · intro j v hj
    have hlt := (List.getElem?_eq_some_iff.1 hj).1
    exact hr j v (by
      unfold scells
      rw [List.append_assoc, List.getElem?_append_left hlt]; exact hj)
  · exact hr 36 (.int .i64 s.n) (by
      unfold scells
      rw [List.append_assoc, List.getElem?_append_right (by omega), hl]
      rfl)
  · intro j v hj
    have hlt := (List.getElem?_eq_some_iff.1 hj).1
    have := hr (37 + j) v (by
      unfold scells
      rw [List.getElem?_append_right (by rw [List.length_append, hl, List.length_singleton]; omega), List.length_append, hl, List.length_singleton, show 37 + j - (36 + 1) = j by omega]
      exact hj)
    rw [Nat.add_assoc]; exact this
theorem srow_new (w : World) (s : SgT) (hd : s.h.d.length = 32) (C : Array Value) (HC : Hid (C = (scells s).toArray)) (t : TypeId) : SRow (w.alloc (.cells C t)) w.heap.size 0 s := by
  refine srow_of hd ?_
  intro j v hj
  rw [Nat.zero_add, cell_of_row _ _ j _ t (0, 0) (heap_alloc_new w _), HC.out]
  simpa using hj
set_option maxHeartbeats 2000000 in
theorem refMay_any (s : SgT) (hd : s.h.d.length = 32) (w : World) (C : Array Value) (HC : Hid (C = (scells s).toArray)) :
    Calls Tryd.prog 32 #[.agg C] w fun e w' => e = .returned (.bool (mayS s)) ∧ Below w.heap.size w w' := by
  have HR := hidk (srow_new w s hd C HC 28)
  have HB : Hid (Below w.heap.size w (w.alloc (.cells C 28))) := (Below.refl _ _).alloc (Nat.le_refl _) _
  obtain ⟨HCs, HHC, HSH, H36⟩ := head_row s.h hd
  have HRH : Hid ((w.alloc (.cells C 28)).rangeAt w.heap.size 0 HCs.toList) := by rw [HHC.out]; exact HR.out.h
  obtain ⟨n, Hn⟩ : ∃ n, Hid (n = s.n) := ⟨s.n, hidk rfl⟩
  obtain ⟨b1, hb1⟩ : ∃ b, rightH s.h = b := ⟨_, rfl⟩
  obtain ⟨b2, hb2⟩ : ∃ b, (decide (1 ≤ n) && decide (n ≤ 3)) = b := ⟨_, rfl⟩
  have R1 : Hid (∀ W, Calls Tryd.prog 27 #[.agg HCs] W fun e w' => e = .returned (.bool b1) ∧ Below W.heap.size W w') := fun W => by rw [← hb1]; exact refRight_any s.h hd W HCs HHC
  have W2 : Hid (∀ W, Calls Tryd.prog 28 #[.int .i64 n, .int .i64 1, .int .i64 3] W fun e w' => e = .returned (.bool b2) ∧ w' = W) := fun W => by rw [← hb2]; exact within_any n 1 3 W
  have hE : mayS s = (b1 && b2) := by
    rw [← hb1, ← hb2, Hn.out]
    unfold mayS
    rw [Bool.and_assoc]
  rw [hE]
  clear hE hb1 hb2 HC
  cases b1
  · go_enter Tryd.func32, Tryd.ntmps32
    go_wp2_with (first
      | (show wpList _ _ _ ({ dst := some 4, op := _, type := _, pos := _, after := _, guard := _ } :: _) _ _; refine wpList_mid rfl 26 (.tmp 3) rfl w.heap.size 0 rfl HCs _ HRH.out Tryd.underlying26 rfl HSH.out ?_; try simp only [Act.put, List.setIfInBounds_toArray, List.set_cons_zero, List.set_cons_succ])
      | fail)
    refine (R1.out _).mono ?_
    rintro e w1 ⟨rfl, hb⟩
    have HB1 := hidk (HB.out.trans (hb.mono HB.out.size))
    clear hb
    go_wp2
    go_ret
    exact ⟨rfl, HB1.out⟩
  · go_enter Tryd.func32, Tryd.ntmps32
    go_wp2_with (first
      | (show wpList _ _ _ ({ dst := some 4, op := _, type := _, pos := _, after := _, guard := _ } :: _) _ _; refine wpList_mid rfl 26 (.tmp 3) rfl w.heap.size 0 rfl HCs _ HRH.out Tryd.underlying26 rfl HSH.out ?_; try simp only [Act.put, List.setIfInBounds_toArray, List.set_cons_zero, List.set_cons_succ])
      | fail)
    refine (R1.out _).mono ?_
    rintro e w1 ⟨rfl, hb⟩
    have HB1 := hidk (HB.out.trans (hb.mono HB.out.size))
    have hc := (HR.out.keep hb).n
    rw [← Hn.out, Nat.zero_add] at hc
    clear hb
    go_wp2_with fail
    refine (W2.out _).mono ?_
    rintro e w2 ⟨rfl, rfl⟩
    go_wp2
    go_ret
    exact ⟨rfl, HB1.out⟩
end Go.Proofs.YtdnhnjimhbbabaaDoor

/- Structs of numbers and digests: heads and signed heads, built and compared. -/
namespace Go.Proofs.YtdnhnjimhbbabaaDoor
open Go.RowKit Sums Nums
set_option linter.unusedVariables false
set_option linter.unusedSimpArgs false
set_option maxRecDepth 100000
theorem fold_set (D : List Value) : ∀ (k off : Nat) (cs : Array Value) (pre old rest : List Value), cs.toList = pre ++ old ++ rest → pre.length = off + k → old.length = D.length →
    ((D.zipIdx k).foldl (fun cs (c, j) => cs.setIfInBounds (off + j) c) cs).toList = pre ++ D ++ rest := by
  induction D with
  | nil =>
    intro k off cs pre old rest h hp ho
    have : old = [] := List.eq_nil_of_length_eq_zero ho
    subst this
    simpa using h
  | cons d D ih =>
    intro k off cs pre old rest h hp ho
    match old, ho with
    | x :: old, ho =>
      rw [List.zipIdx_cons, List.foldl_cons]
      have := ih (k + 1) off (cs.setIfInBounds (off + k) d) (pre ++ [d]) old rest (by
        rw [Array.toList_setIfInBounds, h, ← hp]
        simp) (by simp; omega) (by simpa using ho)
      rw [this]
      simp
/-- A struct that is built, where the order is drawn. -/
theorem yieldsIf_build {P : Program} {ops : Array Oper} {S : World → Prop} {o : Oper} {a : Act} (hw : Region.wanted o (yielded ops a.tmps) = true) (t : TypeId) (parts : Array (Nat × Operand)) (ho : o.op = .build t parts) (vals : Array (Nat × Value)) (hv : (parts.toList.map fun p => (p.1, a.eval p.2)) = vals.toList)
    (v : Value) (hrun : ∀ W, (Instr.build t vals).run P W = .ok v W) : YieldsIf P ops S o v a :=
  .inl ⟨hw, fun w _ => by
    have hv' : (parts.map fun (i, x) => (i, a.eval x)) = vals := by
      apply Array.ext'
      rw [Array.toList_map, ← hv]
    subst hv'
    unfold execOp
    simp only [ho, Sem.run_bind, hrun, Result.andThen_ok]
    rfl⟩
theorem fill_val (place : Nat → Option (Nat × Nat)) (i off n : Nat) (v : Value) (D cs : Array Value) (pre old post : List Value) (more : List (Nat × Value)) (hv : v.cells = D) (hp : place i = some (off, n)) (hn : D.size = n) (hcs : cs.toList = pre ++ old ++ post) (hpre : pre.length = off) (hold : old.length = n) :
    Instr.fill place cs ((i, v) :: more) = Instr.fill place (pre ++ D.toList ++ post).toArray more := by
  have hcz : cs.size = off + n + post.length := by rw [← Array.length_toList, hcs]; simp only [List.length_append, hpre, hold]
  conv => lhs; unfold Instr.fill
  simp only [hp, hv, hn]
  rw [if_neg (by simp; omega)]
  congr 1
  apply Array.ext'
  have := fold_set D.toList 0 off cs pre old post hcs (by omega) (by rw [hold, Array.length_toList, hn])
  rw [← this, ← Array.foldl_toList]
  congr 2
  simp
def zeroH : HdT := ⟨0, 0, 0, List.replicate 32 0, 0⟩
def zeroS : SgT := ⟨zeroH, 0, List.replicate 32 0⟩
theorem infoH : (Tryd.prog.info? 26).map (fun i => (i.zero, i.size)) = some (some (.agg (hcells zeroH).toArray), 36) := by kernel_rfl
theorem infoS : (Tryd.prog.info? 28).map (fun i => (i.zero, i.size)) = some (some (.agg (scells zeroS).toArray), 69) := by kernel_rfl
theorem builtH0 : Tryd.prog.built 26 [] = some (hcells zeroH).toArray := by kernel_rfl
theorem builtS0 : Tryd.prog.built 28 [] = some (scells zeroS).toArray := by kernel_rfl
theorem one_cells (h : HdT) : (hcells h).toArray.all (·.oneCell') = true := by
  rw [List.all_toArray, List.all_eq_true]
  intro v hv
  unfold hcells at hv
  simp only [List.mem_append, List.mem_cons, List.not_mem_nil, or_false] at hv
  rcases hv with ((rfl | rfl | rfl) | hv) | rfl
  · rfl
  · rfl
  · rfl
  · exact cellsOf_one _ v hv
  · rfl
theorem one_cellsS (s : SgT) : (scells s).toArray.all (·.oneCell') = true := by
  rw [List.all_toArray, List.all_eq_true]
  intro v hv
  unfold scells at hv
  simp only [List.mem_append, List.mem_cons, List.not_mem_nil, or_false] at hv
  rcases hv with (hv | rfl) | hv
  · have := one_cells s.h
    rw [List.all_toArray, List.all_eq_true] at this
    exact this v hv
  · rfl
  · exact cellsOf_one _ v hv
theorem head_row5 (h : HdT) (hd : h.d.length = 32) : ∃ C : Array Value, Hid (C = (hcells h).toArray) ∧ Hid ((Tryd.prog.info? 26).map (·.size) = some C.size) ∧ Hid (C.all (·.oneCell') = true) ∧ Hid (C.size = 36) := by
  refine ⟨(hcells h).toArray, hidk rfl, ?_, one_cells h, ?_⟩
  · show _ = _
    rw [sizeH]; simp [hcells_length h hd]
  · show _ = _
    simp [hcells_length h hd]
theorem sign_row (s : SgT) (hd : s.h.d.length = 32) (hg : s.g.length = 32) : ∃ C : Array Value, Hid (C = (scells s).toArray) ∧ Hid ((Tryd.prog.info? 28).map (·.size) = some C.size) ∧ Hid (C.all (·.oneCell') = true) ∧ Hid (C.size = 69) := by
  refine ⟨(scells s).toArray, hidk rfl, ?_, one_cellsS s, ?_⟩
  · show _ = _
    rw [sizeS]; simp [scells_length s hd hg]
  · show _ = _
    simp [scells_length s hd hg]
theorem noughtsH : ∃ Z : Array Value, Hid (Z = (hcells zeroH).toArray) ∧ Hid ((Tryd.prog.info? 26).map (fun i => (i.zero, i.size)) = some (some (.agg Z), Z.size)) ∧ Hid (Tryd.prog.built 26 [] = some Z) ∧ Hid (Z.size = 36) :=
  ⟨(hcells zeroH).toArray, hidk rfl, infoH, builtH0, hidk rfl⟩
theorem noughtsS : ∃ Z : Array Value, Hid (Z = (scells zeroS).toArray) ∧ Hid ((Tryd.prog.info? 28).map (fun i => (i.zero, i.size)) = some (some (.agg Z), Z.size)) ∧ Hid (Tryd.prog.built 28 [] = some Z) ∧ Hid (Z.size = 69) :=
  ⟨(scells zeroS).toArray, hidk rfl, infoS, builtS0, hidk rfl⟩
theorem builtS (s : SgT) (hd : s.h.d.length = 32) (hg : s.g.length = 32) (C D R : Array Value) (HC : Hid (C = (hcells s.h).toArray)) (HD : Hid (D = (cellsOf s.g).toArray)) (HR : Hid (R = (scells s).toArray)) : Tryd.prog.built 28 [(0, .agg C), (1, .int .i64 s.n), (2, .agg D)] = some R := by
  have hi := infoS
  have hzl := hcells_length zeroH rfl
  cases hq : Tryd.prog.info? 28 with
  | none => rw [hq] at hi; cases hi
  | some i =>
    rw [hq] at hi
    simp only [Option.map_some, Option.some.injEq, Prod.mk.injEq] at hi
    have hH := sizeH
    have hD := size23
    have h3 : (Tryd.prog.info? 3).map (·.size) = some 1 := by kernel_rfl
    cases hqH : Tryd.prog.info? 26 with
    | none => rw [hqH] at hH; cases hH
    | some iH =>
      cases hqD : Tryd.prog.info? 24 with
      | none => rw [hqD] at hD; cases hD
      | some iD =>
        cases hq3 : Tryd.prog.info? 3 with
        | none => rw [hq3] at h3; cases h3
        | some i3 =>
          rw [hqH] at hH
          rw [hqD] at hD
          rw [hq3] at h3
          simp only [Option.map_some, Option.some.injEq] at hH hD h3
          unfold Program.built
          simp only [hq, Tryd.underlying28, hi.1, List.mapM_cons, List.mapM_nil, hqH, hqD, hq3, hH, hD, h3, Option.map_some, Option.bind_eq_bind, Option.bind_some, Option.pure_def]
          show Instr.fill _ (scells zeroS).toArray _ = some R
          have hc36 : C.size = 36 := by rw [HC.out]; simp [hcells_length s.h hd]
          have hd32 : D.size = 32 := by rw [HD.out]; simp [cellsOf_length, hg]
          refine (fill_val _ 0 0 36 (.agg C) C _ [] (hcells zeroH) ([.int .i64 0] ++ cellsOf (List.replicate 32 0)) _ rfl rfl hc36 (by simp [scells, zeroS]) rfl hzl).trans ?_
          refine (fill_val _ 1 36 1 (.int .i64 s.n) #[.int .i64 s.n] _ C.toList [.int .i64 0] (cellsOf (List.replicate 32 0)) _ rfl rfl rfl (by simp) (by simpa using hc36) rfl).trans ?_
          refine (fill_val _ 2 37 32 (.agg D) D _ (C.toList ++ [.int .i64 s.n]) (cellsOf (List.replicate 32 0)) [] _ rfl rfl hd32 (by simp) (by simp [hc36]) (by simp [cellsOf_length])).trans ?_
          simp only [Instr.fill, List.append_nil, Option.some.injEq]
          rw [HR.out, HC.out, HD.out]
          rfl
end Go.Proofs.YtdnhnjimhbbabaaDoor

/- What the document's Tag, Sign and Verify answer. -/
namespace Go.Proofs.YtdnhnjimhbbabaaDoor
open Go.RowKit Sums Nums
set_option linter.unusedVariables false
set_option linter.unusedSimpArgs false
set_option maxRecDepth 100000
/-- What Sign answers. -/
def signsO (h : HdT) (n : Int) : Bool := rightH h && (decide (1 ≤ n) && decide (n ≤ 3))
def signO (master : List UInt8) (h : HdT) (n : Int) : SgT := if signsO h n = true then ⟨h, n, tagD master h n⟩ else zeroS
def signE (h : HdT) (n : Int) : Int := if signsO h n = true then 0 else 70
theorem signsO_owner (h : HdT) (n : Int) (hs : signsO h n = true) : owner h.r n = true := by
  unfold signsO at hs
  simp only [Bool.and_eq_true, decide_eq_true_eq] at hs
  have := (rightH_iff h).1 hs.1
  exact (owner_iff _ _).2 (by omega)
theorem built_sign (W : World) (s : SgT) (hd : s.h.d.length = 32) (hg : s.g.length = 32) (C D R : Array Value) (HC : Hid (C = (hcells s.h).toArray)) (HD : Hid (D = (cellsOf s.g).toArray)) (HR : Hid (R = (scells s).toArray)) (n : Int) (hn : n = s.n) : (Instr.build 28 #[(0, .agg C), (1, .int .i64 n), (2, .agg D)]).run Tryd.prog W = .ok (.agg R) W := by
  subst hn
  exact run_build W 28 _ R (builtS s hd hg C D R HC HD HR)
end Go.Proofs.YtdnhnjimhbbabaaDoor
