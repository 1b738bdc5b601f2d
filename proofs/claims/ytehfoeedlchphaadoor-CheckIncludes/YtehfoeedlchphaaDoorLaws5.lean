/- Laws of memory: variables that are arrays, made, read and written where the order is drawn; digests and texts held against one another. -/
import Derived.Test.YtehfoeedlchphaaDoorBuilds
import Derived.Test.YtehfoeedlchphaaDoorOwned
import Derived.Test.YtehfoeedlchphaaDoorLeafs
namespace Go.Proofs.YtehfoeedlchphaaDoor
open Go.RowKit Sums
set_option linter.unusedVariables false
set_option linter.unusedSimpArgs false

/-- A variable that is an array, made, as one step of a region that draws its order. -/
theorem step_alloc_row {P : Program} {ops : Array Oper} {o : Oper} {a : Act} {w : World} {K : Act → World → Prop} {Q : Exit → Act → World → Prop} {E : Prop} (hw : Region.wanted o (yielded ops a.tmps) = true) (t : TypeId) (ho : o.op = .alloc t)
    (cs : Array Value) (hz : (P.info? t).map (fun i => (i.zero, i.size)) = some (some (.agg cs), cs.size)) (h : K (a.put o.dst (.pointer (some ⟨w.heap.size, 0, none⟩))) (w.alloc (.cells cs t))) : if Region.wanted o (yielded ops a.tmps) = true then Oper.wp P o a w K Q else E := by
  rw [if_pos hw]
  unfold Oper.wp execOp
  cases hq : P.info? t with
  | none => simp [hq] at hz
  | some i =>
    simp [hq] at hz
    simp [ho, Instr.alloc, newVar, zeroValue, typeInfo, hq, hz.1, go_sem]
    exact h
/-- The call's world: the leaf that came in, and what goes out. -/
def Came (w W : World) (X Z : Array Value) : Prop := Below w.heap.size w W ∧ W.heap[w.heap.size]? = some (.cells X 23 (0, 0)) ∧ W.heap[w.heap.size + 1]? = some (.cells Z 23 (0, 0))
theorem came (w : World) (X Z : Array Value) : Came w ((w.alloc (.cells X 23)).alloc (.cells Z 23)) X Z := by
  refine ⟨(((Below.refl _ _).alloc (Nat.le_refl _) _).alloc (by simp) _), heap_keep (heap_alloc_new w _), ?_⟩
  have := heap_alloc_new (w.alloc (.cells X 23)) (.cells Z 23)
  simpa using this
theorem Came.keep {w W W' : World} {X Z : Array Value} (h : Came w W X Z) (hb : Below W.heap.size W W') : Came w W' X Z :=
  ⟨h.1.trans (hb.mono h.1.size), (hb.block _ (heap_lt h.2.1)).trans h.2.1, (hb.block _ (heap_lt h.2.2)).trans h.2.2⟩

/-- An array read by its row, where the order is drawn. -/
theorem yieldsIf_row {P : Program} {ops : Array Oper} {S : World → Prop} {o : Oper} {a : Act} (hw : Region.wanted o (yielded ops a.tmps) = true) (ty : TypeId) (x : Operand) (ho : o.op = .load ty x) (g : Nat) (hx : a.eval x = .pointer (some ⟨g, 0, none⟩)) (t : TypeId) (cs : Array Value) (fr : Nat × Nat) (d : TypeDesc) (hg : ∀ w, S w → w.heap[g]? = some (.cells cs t fr))
    (hu : P.underlying ty = some d) (hd : d.isRow = true) (hi : (P.info? ty).map (·.size) = some cs.size) : YieldsIf P ops S o (.agg cs) a := by
  have := yieldsIf_load_mid (P := P) (ops := ops) (S := S) hw ty x ho g 0 hx cs.toList d (fun w h => range_row (t := t) (fr := fr) (by simpa using hg w h)) hu hd (by simpa using hi)
  simpa using this

/-- What a write of a whole row leaves. -/
structure Wrote (g : Nat) (D : Array Value) (t : TypeId) (w w' : World) : Prop where
  row : w'.heap[g]? = some (.cells D t (0, 0))
  other : ∀ k, k ≠ g → w'.heap[k]? = w.heap[k]?
  below : ∀ (B : Nat) (a : World), Below B a w → B ≤ g → Below B a w'
theorem wrote_row {w : World} {g : Nat} {Z D : Array Value} {t : TypeId} (h : w.heap[g]? = some (.cells Z t (0, 0))) : Wrote g D t w (w.setRow g D) :=
  ⟨setRow_heap _ _ _ _ t _ h, fun k hk => setRow_other _ _ _ _ hk, fun B a hb hg => below_setRow hb hg _⟩
/-- What a new variable leaves. -/
structure Made (g : Nat) (Z : Array Value) (t : TypeId) (w w' : World) : Prop where
  new : g = w.heap.size
  row : w'.heap[g]? = some (.cells Z t (0, 0))
  below : Below w.heap.size w w'

theorem step_new_var {P : Program} {ops : Array Oper} {o : Oper} {a : Act} {w : World} {K : Act → World → Prop} {Q : Exit → Act → World → Prop} {E : Prop} (hw : Region.wanted o (yielded ops a.tmps) = true) (t : TypeId) (ho : o.op = .alloc t)
    (cs : Array Value) (hz : (P.info? t).map (fun i => (i.zero, i.size)) = some (some (.agg cs), cs.size)) (h : ∀ g w', Hid (Made g cs t w w') → K (a.put o.dst (.pointer (some ⟨g, 0, none⟩))) w') : if Region.wanted o (yielded ops a.tmps) = true then Oper.wp P o a w K Q else E :=
  step_alloc_row hw t ho cs hz (h w.heap.size _ ⟨rfl, heap_alloc_new w _, (Below.refl _ _).alloc (Nat.le_refl _) _⟩)
theorem step_set_var {P : Program} {ops : Array Oper} {o : Oper} {a : Act} {w : World} {K : Act → World → Prop} {Q : Exit → Act → World → Prop} {E : Prop} (hw : Region.wanted o (yielded ops a.tmps) = true) (t : TypeId) (x y : Operand) (ho : o.op = .store t x y)
    (g : Nat) (D : Array Value) (hx : a.eval x = .pointer (some ⟨g, 0, none⟩)) (hy : a.eval y = .agg D) (t' : TypeId) (Z : Array Value) (hg : w.heap[g]? = some (.cells Z t' (0, 0))) (hi : (P.info? t).map (·.size) = some D.size) (hold : Z.size = D.size) (h1 : D.all (·.oneCell') = true)
    (h : ∀ w', Hid (Wrote g D t' w w') → K (a.put o.dst undef) w') : if Region.wanted o (yielded ops a.tmps) = true then Oper.wp P o a w K Q else E :=
  step_store_row hw t x y ho g D hx hy t' Z hg hi hold h1 (h _ (wrote_row hg))
/-- Two rows and a plain value, handed back. -/
theorem results_row_row_tmp {P : Program} {fn : Func} {p1 p2 q : Tmp} {ty : TypeId} (h : fn.results = #[.cell p1 ty, .cell p2 ty, .tmp q]) (tmps : Array Value) (w : World) (g1 g2 : Nat) (t1 t2 : TypeId) (c1 c2 : Array Value) (f1 f2 : Nat × Nat) (d : TypeDesc)
    (hp1 : tmps.getD p1 undef = .pointer (some ⟨g1, 0, none⟩)) (hp2 : tmps.getD p2 undef = .pointer (some ⟨g2, 0, none⟩)) (h1 : w.heap[g1]? = some (.cells c1 t1 f1)) (h2 : w.heap[g2]? = some (.cells c2 t2 f2))
    (hu : P.underlying ty = some d) (hd : (match d with | .struct _ | .array _ _ => true | _ => false) = true) (hi1 : (P.info? ty).map (·.size) = some c1.size) (hi2 : (P.info? ty).map (·.size) = some c2.size) :
    (results fn tmps).run P w = .ok (.tuple #[.agg c1, .agg c2, tmps.getD q undef]) w := by
  have hp1' : tmps[p1]?.getD undef = .pointer (some ⟨g1, 0, none⟩) := by simpa using hp1
  have hp2' : tmps[p2]?.getD undef = .pointer (some ⟨g2, 0, none⟩) := by simpa using hp2
  simp [results, h, hp1', hp2', asAddr, run_loadVar_row w g1 t1 ty c1 f1 d h1 hu hd hi1, run_loadVar_row w g2 t2 ty c2 f2 d h2 hu hd hi2]
/-- Two variables that are arrays, made and filled. -/
theorem wpList_new_two {P : Program} {ops : Array Oper} {rest : List Oper} {o1 o2 o3 o4 : Oper} {a : Act} {w : World} {Q : Exit → Act → World → Prop} (hg1 : o1.guard = none) (hg2 : o2.guard = none) (hg3 : o3.guard = none) (hg4 : o4.guard = none) (t : TypeId) (ho1 : o1.op = .alloc t) (ho2 : o2.op = .alloc t) (x1 y1 : Operand) (ho3 : o3.op = .store t x1 y1) (x2 y2 : Operand) (ho4 : o4.op = .store t x2 y2)
    (Z A B : Array Value) (hz : (P.info? t).map (fun i => (i.zero, i.size)) = some (some (.agg Z), Z.size)) (hx1 : ∀ u v, ((a.put o1.dst u).put o2.dst v).eval x1 = u) (hy1 : ∀ u v, ((a.put o1.dst u).put o2.dst v).eval y1 = .agg A)
    (hx2 : ∀ u v, (((a.put o1.dst u).put o2.dst v).put o3.dst undef).eval x2 = v) (hy2 : ∀ u v, (((a.put o1.dst u).put o2.dst v).put o3.dst undef).eval y2 = .agg B)
    (hiA : (P.info? t).map (·.size) = some A.size) (hA : Z.size = A.size) (h1A : A.all (·.oneCell') = true) (hiB : (P.info? t).map (·.size) = some B.size) (hB : Z.size = B.size) (h1B : B.all (·.oneCell') = true)
    (h : ∀ g1 g2 w', Hid (g1 ≠ g2 ∧ w'.heap[g1]? = some (.cells A t (0, 0)) ∧ w'.heap[g2]? = some (.cells B t (0, 0)) ∧ Below w.heap.size w w') → wpList P ops Q rest ((((a.put o1.dst (.pointer (some ⟨g1, 0, none⟩))).put o2.dst (.pointer (some ⟨g2, 0, none⟩))).put o3.dst undef).put o4.dst undef) w') : wpList P ops Q (o1 :: o2 :: o3 :: o4 :: rest) a w := by
  refine wpList_alloc_row hg1 t ho1 Z hz ?_
  refine wpList_alloc_row hg2 t ho2 Z hz ?_
  have hne : w.heap.size ≠ (w.alloc (.cells Z t)).heap.size := by simp
  have hr1 : ((w.alloc (.cells Z t)).alloc (.cells Z t)).heap[w.heap.size]? = some (.cells Z t (0, 0)) := heap_keep (heap_alloc_new w _)
  have hr2 : ((w.alloc (.cells Z t)).alloc (.cells Z t)).heap[(w.alloc (.cells Z t)).heap.size]? = some (.cells Z t (0, 0)) := heap_alloc_new _ _
  refine wpList_store_row hg3 t x1 y1 ho3 w.heap.size A (hx1 _ _) (hy1 _ _) t Z hr1 hiA hA h1A ?_
  refine wpList_store_row hg4 t x2 y2 ho4 (w.alloc (.cells Z t)).heap.size B (hx2 _ _) (hy2 _ _) t Z ((setRow_other _ _ _ _ (Ne.symm hne)).trans hr2) hiB hB h1B ?_
  refine h w.heap.size _ _ ⟨hne, ?_, ?_, ?_⟩
  · exact (setRow_other _ _ _ _ hne).trans (setRow_heap _ _ _ _ t _ hr1)
  · exact setRow_heap _ _ _ _ t _ ((setRow_other _ _ _ _ (Ne.symm hne)).trans hr2)
  · exact below_setRow (below_setRow (((Below.refl _ _).alloc (Nat.le_refl _) _).alloc (by simp) _) (Nat.le_refl _) _) (by simp) _
theorem alloc_size (w : World) (o : Obj) : (w.alloc o).heap.size = w.heap.size + 1 := by simp
theorem beqL (xs ys : List UInt8) : (xs == ys) = decide (xs = ys) := by by_cases h : xs = ys <;> simp [h]
theorem eqDigV (xs ys : List UInt8) (hx : xs.length = 32) (hy : ys.length = 32) (X Y : Array Value) (HX : Hid (X = (cellsOf xs).toArray)) (HY : Hid (Y = (cellsOf ys).toArray)) (b : Bool) (hb : decide (xs = ys) = b) (w : World) : (binOp .eql 23 (.agg X) (.agg Y)).run Tryd.prog w = .ok (.bool b) w := by
  rw [HX.out, HY.out, eqDig xs ys hx hy, ← hb, beqL]
theorem neqDigV (xs ys : List UInt8) (hx : xs.length = 32) (hy : ys.length = 32) (X Y : Array Value) (HX : Hid (X = (cellsOf xs).toArray)) (HY : Hid (Y = (cellsOf ys).toArray)) (b : Bool) (hb : (!decide (xs = ys)) = b) (w : World) : (binOp .neq 23 (.agg X) (.agg Y)).run Tryd.prog w = .ok (.bool b) w := by
  have h : (Op.equalIn (9998 + 2) 23 (.agg (cellsOf xs).toArray) (.agg (cellsOf ys).toArray)).run Tryd.prog w = .ok (xs == ys) w := run_equalIn_bytes (P := Tryd.prog) w 9998 23 5 32 Tryd.underlying23 Tryd.underlying5 sizeOf5 xs ys hx hy
  rw [run_neq_struct, HX.out, HY.out]
  simp only [Nat.reduceAdd] at h
  rw [h, ← hb, beqL]
  rfl

theorem results_three {fn : Func} {p q r : Tmp} (h : fn.results = #[.tmp p, .tmp q, .tmp r]) (tmps : Array Value) (P : Program) (w : World) : (results fn tmps).run P w = .ok (.tuple #[tmps.getD p undef, tmps.getD q undef, tmps.getD r undef]) w := by
  simp [results, h]

/-- The call's world: the three digests that came in. -/
def CameR (w W : World) (R X Y : Array Value) : Prop := Below w.heap.size w W ∧ W.heap[w.heap.size]? = some (.cells R 23 (0, 0)) ∧ W.heap[w.heap.size + 1]? = some (.cells X 23 (0, 0)) ∧ W.heap[w.heap.size + 2]? = some (.cells Y 23 (0, 0))
theorem cameR (w : World) (R X Y : Array Value) : CameR w (((w.alloc (.cells R 23)).alloc (.cells X 23)).alloc (.cells Y 23)) R X Y := by
  refine ⟨((((Below.refl _ _).alloc (Nat.le_refl _) _).alloc (by simp) _).alloc (by simp; omega) _), heap_keep (heap_keep (heap_alloc_new w _)), heap_keep ?_, ?_⟩
  · have := heap_alloc_new (w.alloc (.cells R 23)) (.cells X 23)
    simpa using this
  · have := heap_alloc_new ((w.alloc (.cells R 23)).alloc (.cells X 23)) (.cells Y 23)
    simpa using this
theorem CameR.keep {w W W' : World} {R X Y : Array Value} (h : CameR w W R X Y) (hb : Below W.heap.size W W') : CameR w W' R X Y :=
  ⟨h.1.trans (hb.mono h.1.size), (hb.block _ (heap_lt h.2.1)).trans h.2.1, (hb.block _ (heap_lt h.2.2.1)).trans h.2.2.1, (hb.block _ (heap_lt h.2.2.2)).trans h.2.2.2⟩
theorem text_inj {l r : List UInt8} : ((⟨l.toArray⟩ : ByteArray) = ⟨r.toArray⟩) ↔ l = r := by
  constructor
  · intro h
    have := congrArg ByteArray.data h
    exact List.toArray_inj this
  · rintro rfl; rfl

theorem text_ne {s t : ByteArray} (h : s ≠ t) : (s.toList == t.toList) = false := by
  rw [beq_eq_false_iff_ne]
  intro e
  rw [ByteArray.toList_eq, ByteArray.toList_eq] at e
  apply h
  apply ByteArray.ext
  exact Array.toList_inj.1 e

end Go.Proofs.YtehfoeedlchphaaDoor
