/- Texts of our own that the row of KeepReads leans on, part 18. -/
import Derived.Test.YtjpmmbmhkpgjcaaKeepReadsJ15
import Derived.Test.YtjpmmbmhkpgjcaaKeepReadsJ16
import Derived.Test.YtjpmmbmhkpgjcaaKeepReadsJ17

/- What the document's Digest and Row answer. -/
namespace Go.Proofs.Ytjpmmbmhkpgjcaa
open Go.RowKit Sums Nums
set_option linter.unusedVariables false
set_option linter.unusedSimpArgs false
set_option maxRecDepth 100000

end Go.Proofs.Ytjpmmbmhkpgjcaa

/- What the document's Bytes, May, BytesSigned and Tag answer. -/
namespace Go.Proofs.Ytjpmmbmhkpgjcaa
open Go.RowKit Sums Nums
set_option linter.unusedVariables false
set_option linter.unusedSimpArgs false
set_option maxRecDepth 100000
theorem cell_keep {W W' : World} {p : Addr} {v : Value} (hb : Below W.heap.size W W') (h : W.cell? p = some v) : W'.cell? p = some v := by
  rw [hb.cell (World.block_lt_of_cell? _ _ h)]; exact h
theorem HRow.keep {W W' : World} {g o : Nat} {h : HdT} (hr : HRow W g o h) (hb : Below W.heap.size W W') : HRow W' g o h :=
  ⟨cell_keep hb hr.r, cell_keep hb hr.e, cell_keep hb hr.s, range_keep hb hr.d, cell_keep hb hr.t⟩
theorem sizeH : (Try.prog.info? 32).map (·.size) = some 36 := by kernel_rfl
theorem sizeS : (Try.prog.info? 34).map (·.size) = some 69 := by kernel_rfl
theorem head_row (h : HdT) (hd : h.d.length = 32) : ∃ C : Array Value, Hid (C = (hcells h).toArray) ∧ Hid ((Try.prog.info? 32).map (·.size) = some C.size) ∧ Hid (C.size = 36) := by
  refine ⟨(hcells h).toArray, hidk rfl, ?_, ?_⟩
  · show _ = _
    rw [sizeH]; simp [hcells_length h hd]
  · show _ = _
    simp [hcells_length h hd]
end Go.Proofs.Ytjpmmbmhkpgjcaa

/- What the document's May, BytesSigned, PutSigned and Tag answer. -/
namespace Go.Proofs.Ytjpmmbmhkpgjcaa
open Go.RowKit Sums Nums
set_option linter.unusedVariables false
set_option linter.unusedSimpArgs false
set_option maxRecDepth 100000
/-- What the parts of a signed head's row read as. -/
structure SRow (W : World) (g o : Nat) (s : SgT) : Prop where
  h : W.rangeAt g o (hcells s.h)
  n : W.cell? ⟨g, o + 36, none⟩ = some (.int .i64 s.n)
  g : W.rangeAt g (o + 37) (cellsOf s.g)
theorem SRow.keep {W W' : World} {g o : Nat} {s : SgT} (hr : SRow W g o s) (hb : Below W.heap.size W W') : SRow W' g o s := ⟨range_keep hb hr.h, cell_keep hb hr.n, range_keep hb hr.g⟩
theorem srow_of {W : World} {g o : Nat} {s : SgT} (hd : s.h.d.length = 32) (hr : W.rangeAt g o (scells s)) : SRow W g o s := by
  have hl := hcells_length s.h hd
  refine ⟨?_, ?_, ?_⟩
  · intro j v hj
    have hlt := (List.getElem?_eq_some_iff.1 hj).1
    exact hr j v (by
      unfold scells
      rw [List.append_assoc, List.getElem?_append_left hlt]; exact hj)
  · exact hr 36 (.int .i64 s.n) (by
      unfold scells
      rw [List.append_assoc, List.getElem?_append_right (by omega), hl]
      rfl)
  · intro j v hj
    have hlt := (List.getElem?_eq_some_iff.1 hj).1
    have := hr (37 + j) v (by
      unfold scells
      rw [List.getElem?_append_right (by rw [List.length_append, hl, List.length_singleton]; omega), List.length_append, hl, List.length_singleton, show 37 + j - (36 + 1) = j by omega]
      exact hj)
    rw [Nat.add_assoc]; exact this
theorem srow_new (w : World) (s : SgT) (hd : s.h.d.length = 32) (C : Array Value) (HC : Hid (C = (scells s).toArray)) (t : TypeId) : SRow (w.alloc (.cells C t)) w.heap.size 0 s := by
  refine srow_of hd ?_
  intro j v hj
  rw [Nat.zero_add, cell_of_row _ _ j _ t (0, 0) (heap_alloc_new w _), HC.out]
  simpa using hj
set_option maxHeartbeats 2000000 in
theorem refMay_any (s : SgT) (hd : s.h.d.length = 32) (w : World) (C : Array Value) (HC : Hid (C = (scells s).toArray)) :
    Calls Try.prog 92 #[.agg C] w fun e w' => e = .returned (.bool (mayS s)) ∧ Below w.heap.size w w' := by
  have HR := hidk (srow_new w s hd C HC 34)
  have HB : Hid (Below w.heap.size w (w.alloc (.cells C 34))) := (Below.refl _ _).alloc (Nat.le_refl _) _
  obtain ⟨HCs, HHC, HSH, H36⟩ := head_row s.h hd
  have HRH : Hid ((w.alloc (.cells C 34)).rangeAt w.heap.size 0 HCs.toList) := by rw [HHC.out]; exact HR.out.h
  obtain ⟨n, Hn⟩ : ∃ n, Hid (n = s.n) := ⟨s.n, hidk rfl⟩
  obtain ⟨b1, hb1⟩ : ∃ b, rightH s.h = b := ⟨_, rfl⟩
  obtain ⟨b2, hb2⟩ : ∃ b, (decide (1 ≤ n) && decide (n ≤ 3)) = b := ⟨_, rfl⟩
  have R1 : Hid (∀ W, Calls Try.prog 108 #[.agg HCs] W fun e w' => e = .returned (.bool b1) ∧ Below W.heap.size W w') := fun W => by rw [← hb1]; exact refRight_any s.h hd W HCs HHC
  have W2 : Hid (∀ W, Calls Try.prog 109 #[.int .i64 n, .int .i64 1, .int .i64 3] W fun e w' => e = .returned (.bool b2) ∧ w' = W) := fun W => by rw [← hb2]; exact within_any n 1 3 W
  have hE : mayS s = (b1 && b2) := by
    rw [← hb1, ← hb2, Hn.out]
    unfold mayS
    rw [Bool.and_assoc]
  rw [hE]
  clear hE hb1 hb2 HC
  cases b1
  · go_enter Try.func92, Try.ntmps92
    go_wp2_with (first
      | (show wpList _ _ _ ({ dst := some 4, op := _, type := _, pos := _, after := _, guard := _ } :: _) _ _; refine wpList_mid rfl 32 (.tmp 3) rfl w.heap.size 0 rfl HCs _ HRH.out Try.underlying32 rfl HSH.out ?_; try simp only [Act.put, List.setIfInBounds_toArray, List.set_cons_zero, List.set_cons_succ])
      | fail)
    refine (R1.out _).mono ?_
    rintro e w1 ⟨rfl, hb⟩
    have HB1 := hidk (HB.out.trans (hb.mono HB.out.size))
    clear hb
    go_wp2
    go_ret
    exact ⟨rfl, HB1.out⟩
  · go_enter Try.func92, Try.ntmps92
    go_wp2_with (first
      | (show wpList _ _ _ ({ dst := some 4, op := _, type := _, pos := _, after := _, guard := _ } :: _) _ _; refine wpList_mid rfl 32 (.tmp 3) rfl w.heap.size 0 rfl HCs _ HRH.out Try.underlying32 rfl HSH.out ?_; try simp only [Act.put, List.setIfInBounds_toArray, List.set_cons_zero, List.set_cons_succ])
      | fail)
    refine (R1.out _).mono ?_
    rintro e w1 ⟨rfl, hb⟩
    have HB1 := hidk (HB.out.trans (hb.mono HB.out.size))
    have hc := (HR.out.keep hb).n
    rw [← Hn.out, Nat.zero_add] at hc
    clear hb
    go_wp2_with fail
    refine (W2.out _).mono ?_
    rintro e w2 ⟨rfl, rfl⟩
    go_wp2
    go_ret
    exact ⟨rfl, HB1.out⟩
end Go.Proofs.Ytjpmmbmhkpgjcaa

/- Structs of numbers and digests: heads and signed heads, built and compared. -/
namespace Go.Proofs.Ytjpmmbmhkpgjcaa
open Go.RowKit Sums Nums
set_option linter.unusedVariables false
set_option linter.unusedSimpArgs false
set_option maxRecDepth 100000
theorem fold_set (D : List Value) : ∀ (k off : Nat) (cs : Array Value) (pre old rest : List Value), cs.toList = pre ++ old ++ rest → pre.length = off + k → old.length = D.length →
    ((D.zipIdx k).foldl (fun cs (c, j) => cs.setIfInBounds (off + j) c) cs).toList = pre ++ D ++ rest := by
  induction D with
  | nil =>
    intro k off cs pre old rest h hp ho
    have : old = [] := List.eq_nil_of_length_eq_zero ho
    subst this
    simpa using h
  | cons d D ih =>
    intro k off cs pre old rest h hp ho
    match old, ho with
    | x :: old, ho =>
      rw [List.zipIdx_cons, List.foldl_cons]
      have := ih (k + 1) off (cs.setIfInBounds (off + k) d) (pre ++ [d]) old rest (by
        rw [Array.toList_setIfInBounds, h, ← hp]
        simp) (by simp; omega) (by simpa using ho)
      rw [this]
      simp
/-- A struct that is built, where the order is drawn. -/
theorem yieldsIf_build {P : Program} {ops : Array Oper} {S : World → Prop} {o : Oper} {a : Act} (hw : Region.wanted o (yielded ops a.tmps) = true) (t : TypeId) (parts : Array (Nat × Operand)) (ho : o.op = .build t parts) (vals : Array (Nat × Value)) (hv : (parts.toList.map fun p => (p.1, a.eval p.2)) = vals.toList)
    (v : Value) (hrun : ∀ W, (Instr.build t vals).run P W = .ok v W) : YieldsIf P ops S o v a :=
  .inl ⟨hw, fun w _ => by
    have hv' : (parts.map fun (i, x) => (i, a.eval x)) = vals := by
      apply Array.ext'
      rw [Array.toList_map, ← hv]
    subst hv'
    unfold execOp
    simp only [ho, Sem.run_bind, hrun, Result.andThen_ok]
    rfl⟩
theorem fill_val (place : Nat → Option (Nat × Nat)) (i off n : Nat) (v : Value) (D cs : Array Value) (pre old post : List Value) (more : List (Nat × Value)) (hv : v.cells = D) (hp : place i = some (off, n)) (hn : D.size = n) (hcs : cs.toList = pre ++ old ++ post) (hpre : pre.length = off) (hold : old.length = n) :
    Instr.fill place cs ((i, v) :: more) = Instr.fill place (pre ++ D.toList ++ post).toArray more := by
  have hcz : cs.size = off + n + post.length := by rw [← Array.length_toList, hcs]; simp only [List.length_append, hpre, hold]
  conv => lhs; unfold Instr.fill
  simp only [hp, hv, hn]
  rw [if_neg (by simp; omega)]
  congr 1
  apply Array.ext'
  have := fold_set D.toList 0 off cs pre old post hcs (by omega) (by rw [hold, Array.length_toList, hn])
  rw [← this, ← Array.foldl_toList]
  congr 2
  simp
def zeroH : HdT := ⟨0, 0, 0, List.replicate 32 0, 0⟩
def zeroS : SgT := ⟨zeroH, 0, List.replicate 32 0⟩
theorem infoH : (Try.prog.info? 32).map (fun i => (i.zero, i.size)) = some (some (.agg (hcells zeroH).toArray), 36) := by kernel_rfl
theorem infoS : (Try.prog.info? 34).map (fun i => (i.zero, i.size)) = some (some (.agg (scells zeroS).toArray), 69) := by kernel_rfl
theorem builtH0 : Try.prog.built 32 [] = some (hcells zeroH).toArray := by kernel_rfl
theorem builtS0 : Try.prog.built 34 [] = some (scells zeroS).toArray := by kernel_rfl
theorem one_cells (h : HdT) : (hcells h).toArray.all (·.oneCell') = true := by
  rw [List.all_toArray, List.all_eq_true]
  intro v hv
  unfold hcells at hv
  simp only [List.mem_append, List.mem_cons, List.not_mem_nil, or_false] at hv
  rcases hv with ((rfl | rfl | rfl) | hv) | rfl
  · rfl
  · rfl
  · rfl
  · exact cellsOf_one _ v hv
  · rfl
theorem one_cellsS (s : SgT) : (scells s).toArray.all (·.oneCell') = true := by
  rw [List.all_toArray, List.all_eq_true]
  intro v hv
  unfold scells at hv
  simp only [List.mem_append, List.mem_cons, List.not_mem_nil, or_false] at hv
  rcases hv with (hv | rfl) | hv
  · have := one_cells s.h
    rw [List.all_toArray, List.all_eq_true] at this
    exact this v hv
  · rfl
  · exact cellsOf_one _ v hv
theorem sign_row (s : SgT) (hd : s.h.d.length = 32) (hg : s.g.length = 32) : ∃ C : Array Value, Hid (C = (scells s).toArray) ∧ Hid ((Try.prog.info? 34).map (·.size) = some C.size) ∧ Hid (C.all (·.oneCell') = true) ∧ Hid (C.size = 69) := by
  refine ⟨(scells s).toArray, hidk rfl, ?_, one_cellsS s, ?_⟩
  · show _ = _
    rw [sizeS]; simp [scells_length s hd hg]
  · show _ = _
    simp [scells_length s hd hg]
theorem noughtsH : ∃ Z : Array Value, Hid (Z = (hcells zeroH).toArray) ∧ Hid ((Try.prog.info? 32).map (fun i => (i.zero, i.size)) = some (some (.agg Z), Z.size)) ∧ Hid (Try.prog.built 32 [] = some Z) ∧ Hid (Z.size = 36) :=
  ⟨(hcells zeroH).toArray, hidk rfl, infoH, builtH0, hidk rfl⟩
theorem noughtsS : ∃ Z : Array Value, Hid (Z = (scells zeroS).toArray) ∧ Hid ((Try.prog.info? 34).map (fun i => (i.zero, i.size)) = some (some (.agg Z), Z.size)) ∧ Hid (Try.prog.built 34 [] = some Z) ∧ Hid (Z.size = 69) :=
  ⟨(scells zeroS).toArray, hidk rfl, infoS, builtS0, hidk rfl⟩
end Go.Proofs.Ytjpmmbmhkpgjcaa

/- What the document's Tag, Sign and Verify answer. -/
namespace Go.Proofs.Ytjpmmbmhkpgjcaa
open Go.RowKit Sums Nums
set_option linter.unusedVariables false
set_option linter.unusedSimpArgs false
set_option maxRecDepth 100000

end Go.Proofs.Ytjpmmbmhkpgjcaa
