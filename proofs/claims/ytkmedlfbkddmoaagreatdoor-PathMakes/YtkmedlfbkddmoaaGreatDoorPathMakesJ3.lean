/- Texts of our own that the row of PathMakes leans on, part 3. -/
import Derived.Below
import Derived.WalkKit
import Derived.Deep.WholeRow
import Derived.Deep.MidRow
import Derived.Stop.BytesEq
/- Arrays in memory and as values, bytes as cells. No program is spoken of. -/
namespace Go.Proofs.YtkmedlfbkddmoaaGreatDoor
open Go.RowKit
set_option maxRecDepth 100000
def cellsOf (l : List UInt8) : List Value := l.map fun b => .int .u8 b.toNat
def digV (l : List UInt8) : Value := .agg (cellsOf l).toArray
theorem cellsOf_length (l : List UInt8) : (cellsOf l).length = l.length := by simp [cellsOf]
theorem cellsOf_append (a b : List UInt8) : cellsOf (a ++ b) = cellsOf a ++ cellsOf b := by simp [cellsOf]
theorem cellsOf_set (l : List UInt8) (j : Nat) (b : UInt8) : (cellsOf l).set j (.int .u8 b.toNat) = cellsOf (l.set j b) := by simp [cellsOf, List.map_set]
theorem cellsOf_at (l : List UInt8) (j : Nat) (hj : j < l.length) : (cellsOf l)[j]? = some (.int .u8 l[j].toNat) := by simp [cellsOf, List.getElem?_eq_getElem hj]
theorem cellsOf_one (l : List UInt8) : ∀ u ∈ cellsOf l, u.oneCell' = true := by
  intro u hu
  obtain ⟨b, _, rfl⟩ := List.mem_map.1 hu
  rfl
theorem cellsOf_all (l : List UInt8) : (cellsOf l).toArray.all (·.oneCell') = true := by
  rw [Array.all_eq_true_iff_forall_mem]
  intro u hu
  exact cellsOf_one l u (by simpa using hu)
theorem add_plain (b o j : Nat) : (⟨b, o, none⟩ : Addr).add j = ⟨b, o + j, none⟩ := by unfold Addr.add; split <;> simp_all
theorem run_index_agg {P : Program} (w : World) (t e : TypeId) (n : Nat) (cs : Array Value) (k : IntKind) (i : Nat) (z : Value) (ek : IntKind) (h : P.underlying t = some (.array n e)) (hu : P.underlying e = some (.int ek)) (hi : i < n)
    (hc : cs[i]? = some z) (he : (P.info? e).map (·.size) = some 1) : (Instr.index t (.agg cs) (.int k i)).run P w = .ok z w := by
  cases hq : P.info? e with
  | none => simp [hq] at he
  | some ie =>
    have hs : ie.size = 1 := by simpa [hq] using he
    simp [Instr.index, run_underlying h, asIntOf, hi, hs, sizeOf, typeInfo, hq, part, isAgg, run_underlying hu, hc]
theorem below_setRow {B : Nat} {a w : World} (h : Below B a w) {g : Nat} (hg : B ≤ g) (cs : Array Value) : Below B a (w.setRow g cs) :=
  ⟨h.os, h.tape, h.output, by rw [setRow_size]; exact h.size, fun k hk => by rw [setRow_other w g k cs (by omega)]; exact h.block k hk⟩
theorem heap_lt {w : World} {g : Nat} {o : Obj} (h : w.heap[g]? = some o) : g < w.heap.size := (Array.getElem?_eq_some_iff.1 h).1
theorem heap_keep {w : World} {g : Nat} {o o' : Obj} (h : w.heap[g]? = some o) : (w.alloc o').heap[g]? = some o := by
  rw [Below.heap_alloc w o' g (heap_lt h)]; exact h
theorem wpList_alloc_row {P : Program} {ops : Array Oper} {rest : List Oper} {o : Oper} {a : Act} {w : World} {Q : Exit → Act → World → Prop} (hg : o.guard = none) (t : TypeId) (ho : o.op = .alloc t)
    (cs : Array Value) (hz : (P.info? t).map (fun i => (i.zero, i.size)) = some (some (.agg cs), cs.size))
    (h : wpList P ops Q rest (a.put o.dst (.pointer (some ⟨w.heap.size, 0, none⟩))) (w.alloc (.cells cs t))) : wpList P ops Q (o :: rest) a w := by
  refine wpList_plain hg fun K hK => ?_
  have hk := hK _ _ h
  unfold Oper.wp execOp
  cases hq : P.info? t with
  | none => simp [hq] at hz
  | some i =>
    simp [hq] at hz
    simp [ho, Instr.alloc, newVar, zeroValue, typeInfo, hq, hz.1, go_sem]
    exact hk
theorem wpList_build_row {P : Program} {ops : Array Oper} {rest : List Oper} {o : Oper} {a : Act} {w : World} {Q : Exit → Act → World → Prop} (hg : o.guard = none) (t : TypeId) (parts : Array (Nat × Operand)) (ho : o.op = .build t parts)
    (cs : Array Value) (hb : P.built t (parts.map fun (i, x) => (i, a.eval x)).toList = some cs) (h : wpList P ops Q rest (a.put o.dst (.agg cs)) w) : wpList P ops Q (o :: rest) a w := by
  refine wpList_build hg t parts ho (by rw [hb]; rfl) ?_
  rw [hb]
  exact h
theorem wpList_build_none {P : Program} {ops : Array Oper} {rest : List Oper} {o : Oper} {a : Act} {w : World} {Q : Exit → Act → World → Prop} (hg : o.guard = none) (t : TypeId) (ho : o.op = .build t #[])
    (cs : Array Value) (hb : P.built t [] = some cs) (h : wpList P ops Q rest (a.put o.dst (.agg cs)) w) : wpList P ops Q (o :: rest) a w :=
  wpList_build_row hg t #[] ho cs (by simpa using hb) h
theorem wpList_build_one {P : Program} {ops : Array Oper} {rest : List Oper} {o : Oper} {a : Act} {w : World} {Q : Exit → Act → World → Prop} (hg : o.guard = none) (t : TypeId) (i : Nat) (x : Operand) (ho : o.op = .build t #[(i, x)])
    (cs : Array Value) (v : Value) (hv : a.eval x = v) (hb : P.built t [(i, v)] = some cs) (h : wpList P ops Q rest (a.put o.dst (.agg cs)) w) : wpList P ops Q (o :: rest) a w :=
  wpList_build_row hg t #[(i, x)] ho cs (by simpa [hv] using hb) h
theorem results_row_tmp {P : Program} {fn : Func} {p q : Tmp} {ty : TypeId} (h : fn.results = #[.cell p ty, .tmp q]) (tmps : Array Value) (w : World) (g : Nat) (t : TypeId) (cs : Array Value) (fr : Nat × Nat) (d : TypeDesc)
    (hp : tmps.getD p undef = .pointer (some ⟨g, 0, none⟩)) (hg : w.heap[g]? = some (.cells cs t fr))
    (hu : P.underlying ty = some d) (hd : (match d with | .struct _ | .array _ _ => true | _ => false) = true) (hi : (P.info? ty).map (·.size) = some cs.size) :
    (results fn tmps).run P w = .ok (.tuple #[.agg cs, tmps.getD q undef]) w := by
  have hp' : tmps[p]?.getD undef = .pointer (some ⟨g, 0, none⟩) := by simpa using hp
  simp [results, h, hp', asAddr, run_loadVar_row w g t ty cs fr d hg hu hd hi]
theorem wpList_load_row_w {P : Program} {ops : Array Oper} {rest : List Oper} {o : Oper} {a : Act} {w : World} {Q : Exit → Act → World → Prop} (hw : Region.wanted o (yielded ops a.tmps) = true) (ty : TypeId) (x : Operand) (ho : o.op = .load ty x)
    (g : Nat) (hx : a.eval x = .pointer (some ⟨g, 0, none⟩)) (t : TypeId) (cs : Array Value) (fr : Nat × Nat) (d : TypeDesc) (hg : w.heap[g]? = some (.cells cs t fr))
    (hu : P.underlying ty = some d) (hd : (match d with | .struct _ | .array _ _ => true | _ => false) = true) (hi : (P.info? ty).map (·.size) = some cs.size)
    (h : wpList P ops Q rest (a.put o.dst (.agg cs)) w) : wpList P ops Q (o :: rest) a w :=
  BigFrame.wpList_want hw fun _ hK => wp_load_row ty x ho g hx t cs fr d hg hu hd hi (hK _ _ h)
theorem size_var (w : World) (X : Obj) (Y : Array Value) : ((w.alloc X).setRow w.heap.size Y).heap.size = w.heap.size + 1 := by
  rw [setRow_size]
  show (w.heap.push X).size = _
  simp
theorem new_var (w : World) (Z D : Array Value) (t : TypeId) : ((w.alloc (.cells Z t)).setRow w.heap.size D).heap[w.heap.size]? = some (.cells D t (0, 0)) := setRow_heap _ _ _ _ t _ (heap_alloc_new w _)
theorem keep_var {w : World} {g : Nat} {o : Obj} (h : w.heap[g]? = some o) (X : Obj) (Y : Array Value) : ((w.alloc X).setRow w.heap.size Y).heap[g]? = some o := by
  rw [setRow_other _ _ _ _ (Nat.ne_of_lt (heap_lt h))]
  exact heap_keep h
theorem below_var {B : Nat} {a w : World} (h : Below B a w) (hB : B ≤ w.heap.size) (X : Obj) (Y : Array Value) : Below B a ((w.alloc X).setRow w.heap.size Y) := below_setRow (h.alloc hB _) hB _
theorem wrap_int (z : Int) (h0 : -9223372036854775808 ≤ z) (h1 : z ≤ 9223372036854775807) : IntKind.i64.wrap z = z := by
  simp [IntKind.wrap, IntKind.bits, IntKind.signed]; omega
theorem cell_at {w : World} {B g n c : Nat} {l : List UInt8} (h : w.ownsRow B 5 1 (.slice (some ⟨g, 0, none⟩) n c) n (cellsOf l)) (hl : l.length = n) (j : Nat) (hj : j < n) :
    w.cell? ⟨g, j, none⟩ = some (.int .u8 (l.getD j 0).toNat) := by
  rw [h.cellAt j (by omega)]
  simp [cellsOf, List.getElem?_eq_getElem (show j < l.length by omega), List.getD]
theorem cells_at {w : World} {B g n c : Nat} {l : List UInt8} (h : w.ownsRow B 5 1 (.slice (some ⟨g, 0, none⟩) n c) n (cellsOf l)) (hl : l.length = n) :
    ∀ (j : Nat) (hj : j < l.length), w.cell? ((⟨g, 0, none⟩ : Addr).add j) = some (.int .u8 l[j].toNat) := by
  intro j hj
  rw [add_plain, Nat.zero_add, cell_at h hl j (by omega)]
  simp [List.getD, List.getElem?_eq_getElem hj]
end Go.Proofs.YtkmedlfbkddmoaaGreatDoor
