/- Texts of our own that the row of KeepReads leans on, part 1. -/
import Derived.Below
import Derived.WalkKit
import Derived.Deep.WholeRow
import Derived.Deep.MidRow
import Derived.Stop.BytesEq
import Derived.Laws.CopyRow
import Derived.Laws.AppendOwn

/- Arrays in memory and as values, bytes as cells. No program is spoken of. -/
namespace Go.Proofs.Ytjpmmbmhkpgjcaa
open Go.RowKit
set_option maxRecDepth 100000
/-- Bytes as cells. -/
def cellsOf (l : List UInt8) : List Value := l.map fun b => .int .u8 b.toNat
theorem cellsOf_length (l : List UInt8) : (cellsOf l).length = l.length := by simp [cellsOf]
theorem cellsOf_append (a b : List UInt8) : cellsOf (a ++ b) = cellsOf a ++ cellsOf b := by simp [cellsOf]
theorem cellsOf_set (l : List UInt8) (j : Nat) (b : UInt8) : (cellsOf l).set j (.int .u8 b.toNat) = cellsOf (l.set j b) := by simp [cellsOf, List.map_set]
theorem cellsOf_at (l : List UInt8) (j : Nat) (hj : j < l.length) : (cellsOf l)[j]? = some (.int .u8 l[j].toNat) := by simp [cellsOf, List.getElem?_eq_getElem hj]
theorem cellsOf_one (l : List UInt8) : ∀ u ∈ cellsOf l, u.oneCell' = true := by
  intro u hu
  obtain ⟨b, _, rfl⟩ := List.mem_map.1 hu
  rfl
theorem cellsOf_all (l : List UInt8) : (cellsOf l).toArray.all (·.oneCell') = true := by
  rw [Array.all_eq_true_iff_forall_mem]
  intro u hu
  exact cellsOf_one l u (by simpa using hu)
theorem add_plain (b o j : Nat) : (⟨b, o, none⟩ : Addr).add j = ⟨b, o + j, none⟩ := by unfold Addr.add; split <;> simp_all
theorem below_setRow {B : Nat} {a w : World} (h : Below B a w) {g : Nat} (hg : B ≤ g) (cs : Array Value) : Below B a (w.setRow g cs) :=
  ⟨h.os, h.tape, h.output, by rw [setRow_size]; exact h.size, fun k hk => by rw [setRow_other w g k cs (by omega)]; exact h.block k hk⟩
theorem heap_lt {w : World} {g : Nat} {o : Obj} (h : w.heap[g]? = some o) : g < w.heap.size := (Array.getElem?_eq_some_iff.1 h).1
/-- A block that is there is there behind an allocation. -/
theorem heap_keep {w : World} {g : Nat} {o o' : Obj} (h : w.heap[g]? = some o) : (w.alloc o').heap[g]? = some o := by
  rw [Below.heap_alloc w o' g (heap_lt h)]; exact h
/-- A variable that is an array, made. -/
theorem wpList_alloc_row {P : Program} {ops : Array Oper} {rest : List Oper} {o : Oper} {a : Act} {w : World} {Q : Exit → Act → World → Prop} (hg : o.guard = none) (t : TypeId) (ho : o.op = .alloc t)
    (cs : Array Value) (hz : (P.info? t).map (fun i => (i.zero, i.size)) = some (some (.agg cs), cs.size))
    (h : wpList P ops Q rest (a.put o.dst (.pointer (some ⟨w.heap.size, 0, none⟩))) (w.alloc (.cells cs t))) : wpList P ops Q (o :: rest) a w := by
  refine wpList_plain hg fun K hK => ?_
  have hk := hK _ _ h
  unfold Oper.wp execOp
  cases hq : P.info? t with
  | none => simp [hq] at hz
  | some i =>
    simp [hq] at hz
    simp [ho, Instr.alloc, newVar, zeroValue, typeInfo, hq, hz.1, go_sem]
    exact hk
/-- A literal of an array, made. -/
theorem wpList_build_row {P : Program} {ops : Array Oper} {rest : List Oper} {o : Oper} {a : Act} {w : World} {Q : Exit → Act → World → Prop} (hg : o.guard = none) (t : TypeId) (parts : Array (Nat × Operand)) (ho : o.op = .build t parts)
    (cs : Array Value) (hb : P.built t (parts.map fun (i, x) => (i, a.eval x)).toList = some cs) (h : wpList P ops Q rest (a.put o.dst (.agg cs)) w) : wpList P ops Q (o :: rest) a w := by
  refine wpList_build hg t parts ho (by rw [hb]; rfl) ?_
  rw [hb]
  exact h
theorem wpList_build_none {P : Program} {ops : Array Oper} {rest : List Oper} {o : Oper} {a : Act} {w : World} {Q : Exit → Act → World → Prop} (hg : o.guard = none) (t : TypeId) (ho : o.op = .build t #[])
    (cs : Array Value) (hb : P.built t [] = some cs) (h : wpList P ops Q rest (a.put o.dst (.agg cs)) w) : wpList P ops Q (o :: rest) a w :=
  wpList_build_row hg t #[] ho cs (by simpa using hb) h
/-- Two results, the first an array in a variable. -/
theorem results_row_tmp {P : Program} {fn : Func} {p q : Tmp} {ty : TypeId} (h : fn.results = #[.cell p ty, .tmp q]) (tmps : Array Value) (w : World) (g : Nat) (t : TypeId) (cs : Array Value) (fr : Nat × Nat) (d : TypeDesc)
    (hp : tmps.getD p undef = .pointer (some ⟨g, 0, none⟩)) (hg : w.heap[g]? = some (.cells cs t fr))
    (hu : P.underlying ty = some d) (hd : (match d with | .struct _ | .array _ _ => true | _ => false) = true) (hi : (P.info? ty).map (·.size) = some cs.size) :
    (results fn tmps).run P w = .ok (.tuple #[.agg cs, tmps.getD q undef]) w := by
  have hp' : tmps[p]?.getD undef = .pointer (some ⟨g, 0, none⟩) := by simpa using hp
  simp [results, h, hp', asAddr, run_loadVar_row w g t ty cs fr d hg hu hd hi]
/-- A whole array read, under a guard that says yes. -/
theorem wpList_load_row_w {P : Program} {ops : Array Oper} {rest : List Oper} {o : Oper} {a : Act} {w : World} {Q : Exit → Act → World → Prop} (hw : Region.wanted o (yielded ops a.tmps) = true) (ty : TypeId) (x : Operand) (ho : o.op = .load ty x)
    (g : Nat) (hx : a.eval x = .pointer (some ⟨g, 0, none⟩)) (t : TypeId) (cs : Array Value) (fr : Nat × Nat) (d : TypeDesc) (hg : w.heap[g]? = some (.cells cs t fr))
    (hu : P.underlying ty = some d) (hd : (match d with | .struct _ | .array _ _ => true | _ => false) = true) (hi : (P.info? ty).map (·.size) = some cs.size)
    (h : wpList P ops Q rest (a.put o.dst (.agg cs)) w) : wpList P ops Q (o :: rest) a w :=
  BigFrame.wpList_want hw fun _ hK => wp_load_row ty x ho g hx t cs fr d hg hu hd hi (hK _ _ h)
theorem wrap_int (z : Int) (h0 : -9223372036854775808 ≤ z) (h1 : z ≤ 9223372036854775807) : IntKind.i64.wrap z = z := by
  simp [IntKind.wrap, IntKind.bits, IntKind.signed]; omega
theorem cell_at {w : World} {B g n c : Nat} {l : List UInt8} (h : w.ownsRow B 5 1 (.slice (some ⟨g, 0, none⟩) n c) n (cellsOf l)) (hl : l.length = n) (j : Nat) (hj : j < n) :
    w.cell? ⟨g, j, none⟩ = some (.int .u8 (l.getD j 0).toNat) := by
  rw [h.cellAt j (by omega)]
  simp [cellsOf, List.getElem?_eq_getElem (show j < l.length by omega), List.getD]
theorem cells_at {w : World} {B g n c : Nat} {l : List UInt8} (h : w.ownsRow B 5 1 (.slice (some ⟨g, 0, none⟩) n c) n (cellsOf l)) (hl : l.length = n) :
    ∀ (j : Nat) (hj : j < l.length), w.cell? ((⟨g, 0, none⟩ : Addr).add j) = some (.int .u8 l[j].toNat) := by
  intro j hj
  rw [add_plain, Nat.zero_add, cell_at h hl j (by omega)]
  simp [List.getD, List.getElem?_eq_getElem hj]
end Go.Proofs.Ytjpmmbmhkpgjcaa

/- What a call's own blocks hold, in one fact: variables (L) and rows of its own (M). No program is spoken of. -/
namespace Go.Proofs.Ytjpmmbmhkpgjcaa
open Go.RowKit
set_option maxRecDepth 100000
set_option linter.unusedVariables false
set_option linter.unusedSimpArgs false
abbrev Vr := Nat × Array Value × TypeId
/-- Behind w0, in w: the variables L and the rows M are the call's own; nothing else has turned. -/
structure Sep (P : Program) (w0 w : World) (L : List Vr) (M : List (Nat × Obj)) : Prop where
  b : Below w0.heap.size w0 w
  v : ∀ c ∈ L, w.heap[c.1]? = some (.cells c.2.1 c.2.2 (0, 0)) ∧ w0.heap.size ≤ c.1 ∧ (P.info? c.2.2).map (·.size) = some c.2.1.size
  m : ∀ c ∈ M, w.heap[c.1]? = some c.2 ∧ w0.heap.size ≤ c.1
  ap : L.Pairwise fun c d => c.1 ≠ d.1
  lm : ∀ c ∈ L, ∀ d ∈ M, c.1 ≠ d.1
  mm : M.Pairwise fun c d => c.1 ≠ d.1
/-- A value of a type of rows: its size, and cells of one each. -/
structure Fit (P : Program) (t : TypeId) (X : Array Value) : Prop where
  s : (P.info? t).map (·.size) = some X.size
  o : X.all (·.oneCell') = true
def isRowB (P : Program) (t : TypeId) : Bool := match P.underlying t with | some d => (match d with | .struct _ | .array _ _ => true | _ => false) | none => false
def isScB (P : Program) (t : TypeId) : Bool := match P.underlying t with | some d => (match d with | .struct _ | .array _ _ => false | _ => true) | none => false
def isZeB (P : Program) (t : TypeId) : Bool := match P.info? t with | some i => (match i.zero with | some (.agg cs) => cs.size == i.size && cs.all (·.oneCell') | _ => false) | none => false
/-- A type's zero value, as cells. -/
def zc (P : Program) (t : TypeId) : Array Value := match P.info? t with | some i => (match i.zero with | some (.agg cs) => cs | _ => #[]) | none => #[]
theorem zc_of {P : Program} {t : TypeId} (h : isZeB P t = true) : (P.info? t).map (fun i => (i.zero, i.size)) = some (some (.agg (zc P t)), (zc P t).size) ∧ Fit P t (zc P t) := by
  unfold isZeB at h
  cases hq : P.info? t with
  | none => simp [hq] at h
  | some i =>
    simp only [hq] at h
    cases hz : i.zero with
    | none => simp [hz] at h
    | some z =>
      cases z <;> simp only [hz] at h <;> try cases h
      rename_i cs
      have e : zc P t = cs := by unfold zc; simp only [hq, hz]
      rw [Bool.and_eq_true] at h
      have hs : cs.size = i.size := by simpa using h.1
      exact ⟨by rw [e]; simp [hz, hs], ⟨by rw [e, hq]; simp [hs], by rw [e]; exact h.2⟩⟩
theorem row_of {P : Program} {t : TypeId} (h : isRowB P t = true) : ∃ d, P.underlying t = some d ∧ (match d with | .struct _ | .array _ _ => true | _ => false) = true := by
  unfold isRowB at h
  cases hq : P.underlying t with
  | none => simp [hq] at h
  | some d => exact ⟨d, rfl, by simpa [hq] using h⟩
/-- One of the list is another one now. -/
def Upd : List Vr → Nat → TypeId → Array Value → Array Value → List Vr → Prop
  | [], _, _, _, _, _ => False
  | c :: L, g, t, X, D, L' => (c = (g, X, t) ∧ L' = (g, D, t) :: L) ∨ ∃ L2, L' = c :: L2 ∧ Upd L g t X D L2
theorem uH (g : Nat) (t : TypeId) (X D : Array Value) (L : List Vr) : Upd ((g, X, t) :: L) g t X D ((g, D, t) :: L) := .inl ⟨rfl, rfl⟩
theorem uT {L L' : List Vr} {g : Nat} {t : TypeId} {X D : Array Value} (c : Vr) (h : Upd L g t X D L') : Upd (c :: L) g t X D (c :: L') := .inr ⟨L', rfl, h⟩
theorem Upd.mem : ∀ {L L' : List Vr} {g : Nat} {t : TypeId} {X D : Array Value}, Upd L g t X D L' → (g, X, t) ∈ L
  | [], _, _, _, _, _, h => h.elim
  | c :: L, _, _, _, _, _, h => by
    rcases h with ⟨rfl, _⟩ | ⟨L2, _, h⟩
    · exact .head _
    · exact .tail _ h.mem
theorem Upd.back : ∀ {L L' : List Vr} {g : Nat} {t : TypeId} {X D : Array Value}, Upd L g t X D L' → ∀ c ∈ L', c = (g, D, t) ∨ c ∈ L
  | [], _, _, _, _, _, h => h.elim
  | c :: L, _, _, _, _, _, h => by
    rcases h with ⟨rfl, rfl⟩ | ⟨L2, rfl, h⟩
    · intro c hc; rcases List.mem_cons.1 hc with e | e; exact .inl e; exact .inr (.tail _ e)
    · intro c' hc; rcases List.mem_cons.1 hc with e | e; exact .inr (by rw [e]; exact .head _); rcases h.back c' e with h | h; exact .inl h; exact .inr (.tail _ h)
theorem Upd.fst : ∀ {L L' : List Vr} {g : Nat} {t : TypeId} {X D : Array Value}, Upd L g t X D L' → L'.map (·.1) = L.map (·.1)
  | [], _, _, _, _, _, h => h.elim
  | c :: L, _, _, _, _, _, h => by
    rcases h with ⟨rfl, rfl⟩ | ⟨L2, rfl, h⟩
    · rfl
    · simp only [List.map_cons, h.fst]
theorem pair_fst {L : List Vr} : L.Pairwise (fun c d => c.1 ≠ d.1) ↔ (L.map (·.1)).Pairwise (· ≠ ·) := by rw [List.pairwise_map]
theorem Upd.only : ∀ {L L' : List Vr} {g : Nat} {t : TypeId} {X D : Array Value}, Upd L g t X D L' → (L.Pairwise fun c d => c.1 ≠ d.1) → ∀ c ∈ L', c.1 = g → c = (g, D, t)
  | [], _, _, _, _, _, h, _ => h.elim
  | c0 :: L, _, g, _, _, _, h, ap => by
    rcases h with ⟨rfl, rfl⟩ | ⟨L2, rfl, h⟩
    · intro c hc e
      rcases List.mem_cons.1 hc with e1 | e1
      · exact e1
      · exact absurd e.symm ((List.pairwise_cons.1 ap).1 c e1)
    · intro c hc e
      rcases List.mem_cons.1 hc with e1 | e1
      · subst e1
        exact absurd e ((List.pairwise_cons.1 ap).1 _ h.mem)
      · exact h.only (List.pairwise_cons.1 ap).2 c e1 e
section
variable {P : Program} {w0 w w' : World} {L L' : List Vr} {M : List (Nat × Obj)}
theorem Sep.start (P : Program) (w : World) : Sep P w w [] [] := ⟨Below.refl _ _, (fun c h => by cases h), (fun c h => by cases h), .nil, (fun c h => by cases h), .nil⟩
theorem Sep.call (h : Sep P w0 w L M) (hb : Below w.heap.size w w') : Sep P w0 w' L M :=
  ⟨h.b.trans (hb.mono h.b.size), fun c hc => ⟨(hb.block _ (heap_lt (h.v c hc).1)).trans (h.v c hc).1, (h.v c hc).2⟩, fun c hc => ⟨(hb.block _ (heap_lt (h.m c hc).1)).trans (h.m c hc).1, (h.m c hc).2⟩, h.ap, h.lm, h.mm⟩
theorem Sep.drew (h : Sep P w0 w L M) : Sep P w0 w.drew L M := ⟨h.b.drew, h.v, h.m, h.ap, h.lm, h.mm⟩
/-- A new row of the call's own comes among M: it lies behind all that was there. -/
theorem Sep.row (h : Sep P w0 w L M) (hb : Below w.heap.size w w') {g : Nat} {o : Obj} (hg : w'.heap[g]? = some o) (hge : w.heap.size ≤ g) : Sep P w0 w' L ((g, o) :: M) := by
  have k := h.call hb
  refine ⟨k.b, k.v, fun c hc => ?_, k.ap, fun c hc d hd => ?_, .cons (fun c hc => Nat.ne_of_gt (Nat.lt_of_lt_of_le (heap_lt (h.m c hc).1) hge)) h.mm⟩
  · rcases List.mem_cons.1 hc with e | e
    · subst e; exact ⟨hg, Nat.le_trans h.b.size hge⟩
    · exact k.m c e
  · rcases List.mem_cons.1 hd with e | e
    · subst e; exact Nat.ne_of_lt (Nat.lt_of_lt_of_le (heap_lt (h.v c hc).1) hge)
    · exact k.lm c hc d e
theorem Sep.new (h : Sep P w0 w L M) (X : Array Value) (t : TypeId) (hs : (P.info? t).map (·.size) = some X.size) : Sep P w0 (w.alloc (.cells X t)) ((w.heap.size, X, t) :: L) M := by
  have k := h.call ((Below.refl w.heap.size w).alloc (Nat.le_refl _) (.cells X t))
  refine ⟨k.b, fun c hc => ?_, k.m, .cons (fun c hc => Nat.ne_of_gt (heap_lt (h.v c hc).1)) h.ap, fun c hc d hd => ?_, h.mm⟩
  · rcases List.mem_cons.1 hc with e | e
    · subst e; exact ⟨heap_alloc_new w _, h.b.size, hs⟩
    · exact k.v c e
  · rcases List.mem_cons.1 hc with e | e
    · subst e; exact Nat.ne_of_gt (heap_lt (h.m d hd).1)
    · exact h.lm c e d hd
theorem Sep.set (h : Sep P w0 w L M) {g : Nat} {t : TypeId} {X D : Array Value} (hu : Upd L g t X D L') (hs : (P.info? t).map (·.size) = some D.size) : Sep P w0 (w.setRow g D) L' M := by
  have hg := h.v _ hu.mem
  have h1 : ∀ c ∈ L', w.heap[c.1]? = some (.cells c.2.1 c.2.2 (0, 0)) ∨ c = (g, D, t) := fun c hc => by
    rcases hu.back c hc with e | e
    · exact .inr e
    · exact .inl (h.v c e).1
  refine ⟨below_setRow h.b hg.2.1 D, fun c hc => ?_, fun c hc => ?_, pair_fst.2 (by rw [hu.fst]; exact pair_fst.1 h.ap), fun c hc d hd => ?_, h.mm⟩
  · by_cases e : c.1 = g
    · have := hu.only h.ap c hc e
      subst this
      exact ⟨setRow_heap _ _ _ _ t _ hg.1, hg.2.1, hs⟩
    · rcases hu.back c hc with e1 | e1
      · subst e1; exact absurd rfl e
      · exact ⟨(setRow_other _ _ _ _ e).trans (h.v c e1).1, (h.v c e1).2⟩
  · exact ⟨(setRow_other _ _ _ _ fun e => h.lm _ hu.mem c hc e.symm).trans (h.m c hc).1, (h.m c hc).2⟩
  · rcases hu.back c hc with e1 | e1
    · subst e1; exact h.lm _ hu.mem d hd
    · exact h.lm c e1 d hd
theorem Sep.cell (h : Sep P w0 w L M) {g : Nat} {X : Array Value} {t : TypeId} (hm : (g, X, t) ∈ L) {k : Nat} {v : Value} (hv : X[k]? = some v) : w.cell? ⟨g, k, none⟩ = some v := by
  rw [cell_of_row w g k X t (0, 0) (h.v _ hm).1, hv]
theorem Sep.at (h : Sep P w0 w L M) {g : Nat} {X : Array Value} {t : TypeId} (hm : (g, X, t) ∈ L) : w.heap[g]? = some (.cells X t (0, 0)) := (h.v _ hm).1
variable {ops : Array Oper} {rest : List Oper} {a : Act} {Q : Exit → Act → World → Prop} {d : Option Tmp} {tp : TypeId} {ps : String} {af : Array Edge} {gd : Option (Nat × Bool)}
/-- A new variable. -/
theorem newS {t : TypeId} (hw : Region.wanted ⟨d, .alloc t, tp, ps, af, gd⟩ (yielded ops a.tmps) = true) (hz : isZeB P t = true) (H : Hid (Sep P w0 w L M))
    (h : ∀ g w', g = w.heap.size → Hid (Sep P w0 w' ((g, zc P t, t) :: L) M) → wpList P ops Q rest (a.put d (.pointer (some ⟨g, 0, none⟩))) w') : wpList P ops Q (⟨d, .alloc t, tp, ps, af, gd⟩ :: rest) a w := by
  obtain ⟨h1, h2⟩ := zc_of hz
  refine BigFrame.wpList_want hw fun K hK => ?_
  have hk := hK _ _ (h w.heap.size (w.alloc (.cells (zc P t) t)) rfl (H.out.new (zc P t) t h2.s))
  unfold Oper.wp execOp
  cases hq : P.info? t with
  | none => simp [hq] at h1
  | some i =>
    simp [hq] at h1
    simp [Instr.alloc, newVar, zeroValue, typeInfo, hq, h1.1, go_sem]
    exact hk
/-- A parameter's variable. -/
theorem boxS {t : TypeId} {x : Operand} {X : Array Value} (hw : Region.wanted ⟨d, .box t x, tp, ps, af, gd⟩ (yielded ops a.tmps) = true) (hx : a.eval x = .agg X) (H : Hid (Sep P w0 w L M)) (hs : Hid (Fit P t X))
    (h : ∀ g w', g = w.heap.size → Hid (Sep P w0 w' ((g, X, t) :: L) M) → wpList P ops Q rest (a.put d (.pointer (some ⟨g, 0, none⟩))) w') : wpList P ops Q (⟨d, .box t x, tp, ps, af, gd⟩ :: rest) a w := by
  refine BigFrame.wpList_want hw fun K hK => ?_
  have hk := hK _ _ (h w.heap.size (w.alloc (.cells X t)) rfl (H.out.new X t hs.out.s))
  unfold Oper.wp execOp
  simp only [hx]
  simp [Instr.box, newVar, Value.cells, go_sem]
  exact hk
/-- A variable written whole. -/
theorem setS {t : TypeId} {x y : Operand} {g : Nat} {X D : Array Value} (hw : Region.wanted ⟨d, .store t x y, tp, ps, af, gd⟩ (yielded ops a.tmps) = true) (hx : a.eval x = .pointer (some ⟨g, 0, none⟩)) (hy : a.eval y = .agg D) (H : Hid (Sep P w0 w L M)) (hD : Hid (Fit P t D)) (hu : Upd L g t X D L')
    (h : ∀ w', Hid (Sep P w0 w' L' M) → wpList P ops Q rest (a.put d undef) w') : wpList P ops Q (⟨d, .store t x y, tp, ps, af, gd⟩ :: rest) a w :=
  BigFrame.wpList_want hw fun K hK => by
    have hg := H.out.v _ hu.mem
    have hs : X.size = D.size := by have := hg.2.2.symm.trans hD.out.s; simpa using this
    exact wp_store_row t x y rfl g D hx hy t X hg.1 hD.out.s hs hD.out.o (hK _ _ (h _ (H.out.set hu hD.out.s)))
/-- A variable read whole. -/
theorem rdS {t : TypeId} {x : Operand} {g : Nat} {X : Array Value} (hw : Region.wanted ⟨d, .load t x, tp, ps, af, gd⟩ (yielded ops a.tmps) = true) (hx : a.eval x = .pointer (some ⟨g, 0, none⟩)) (hr : isRowB P t = true) (H : Hid (Sep P w0 w L M)) (hm : (g, X, t) ∈ L)
    (h : wpList P ops Q rest (a.put d (.agg X)) w) : wpList P ops Q (⟨d, .load t x, tp, ps, af, gd⟩ :: rest) a w := by
  obtain ⟨e, h1, h2⟩ := row_of hr
  have hg := H.out.v _ hm
  refine BigFrame.wpList_want hw fun K hK => ?_
  cases e <;> first | exact wp_load_row t x rfl g hx t X (0, 0) _ hg.1 h1 rfl hg.2.2 (hK _ _ h) | (simp at h2)
/-- A plain cell of a variable read. -/
theorem fldS {t s : TypeId} {x : Operand} {g k : Nat} {X : Array Value} {v : Value} (hw : Region.wanted ⟨d, .load t x, tp, ps, af, gd⟩ (yielded ops a.tmps) = true) (hx : a.eval x = .pointer (some ⟨g, k, none⟩)) (hr : isScB P t = true) (H : Hid (Sep P w0 w L M)) (hm : (g, X, s) ∈ L) (hv : X[k]? = some v)
    (h : wpList P ops Q rest (a.put d v) w) : wpList P ops Q (⟨d, .load t x, tp, ps, af, gd⟩ :: rest) a w := by
  refine BigFrame.wpList_want hw fun K hK => ?_
  have hk := hK _ _ h
  have hc := H.out.cell hm hv
  have hne : (isAgg t).run P w = .ok false w := by
    unfold isScB at hr
    cases he : P.underlying t with
    | none => simp [he] at hr
    | some e =>
      simp only [he] at hr
      unfold isAgg
      rw [Sem.run_bind, run_underlying he, Result.andThen_ok]
      cases e <;> first | rfl | (simp at hr)
  unfold Oper.wp execOp
  simp only [hx, Instr.loadAt, Instr.sureAddr, loadVar, Sem.run_bind, Sem.run_pure, Result.andThen_ok, hne]
  simp [run_load, hc]
  exact hk
/-- A part of rows of a variable read. -/
def SubA (X : Array Value) (k : Nat) (D : Array Value) : Prop := ∀ j v, D[j]? = some v → X[k + j]? = some v
theorem subS {t s : TypeId} {x : Operand} {g k : Nat} {X D : Array Value} (hw : Region.wanted ⟨d, .load t x, tp, ps, af, gd⟩ (yielded ops a.tmps) = true) (hx : a.eval x = .pointer (some ⟨g, k, none⟩)) (hr : isRowB P t = true) (H : Hid (Sep P w0 w L M)) (hm : (g, X, s) ∈ L) (hs : Hid (SubA X k D)) (hD : (P.info? t).map (·.size) = some D.size)
    (h : wpList P ops Q rest (a.put d (.agg D)) w) : wpList P ops Q (⟨d, .load t x, tp, ps, af, gd⟩ :: rest) a w := by
  obtain ⟨e, h1, h2⟩ := row_of hr
  refine BigFrame.wpList_want hw fun K hK => ?_
  have hk := hK _ _ h
  have hc : w.rangeAt g k D.toList := fun j v hj => by
    rw [cell_of_row w g (k + j) X s (0, 0) (H.out.at hm)]
    exact hs.out j v (by simpa using hj)
  have hrun : (loadVar t ⟨g, k, none⟩).run P w = .ok (.agg D) w := by
    cases e <;> first | exact (run_loadVar_mid w g k t D.toList _ hc h1 rfl (by simpa using hD)) | (simp at h2)
  unfold Oper.wp execOp
  simp only [hx, Instr.loadAt, Instr.sureAddr, Sem.run_bind, Sem.run_pure, Result.andThen_ok, hrun]
  exact hk
/-- A plain cell of a variable written. -/
theorem putS {t s : TypeId} {x y : Operand} {g k : Nat} {X D : Array Value} {v : Value} (hw : Region.wanted ⟨d, .store t x y, tp, ps, af, gd⟩ (yielded ops a.tmps) = true) (hx : a.eval x = .pointer (some ⟨g, k, none⟩)) (hy : a.eval y = v) (h1 : v.cells = #[v] ∧ v.oneCell' = true) (hz : (P.info? t).map (·.size) = some 1) (H : Hid (Sep P w0 w L M)) (hu : Upd L g s X D L') (hk : k < X.size) (hD : X.setIfInBounds k v = D)
    (h : ∀ w', Hid (Sep P w0 w' L' M) → wpList P ops Q rest (a.put d undef) w') : wpList P ops Q (⟨d, .store t x y, tp, ps, af, gd⟩ :: rest) a w := by
  have hg := H.out.v _ hu.mem
  have hsz : D.size = X.size := by rw [← hD]; simp
  refine BigFrame.wpList_want hw fun K hK => ?_
  have hkk := hK _ _ (h _ (H.out.set hu (by rw [hg.2.2, hsz])))
  have hst := run_storeCells_at P g k s [v] 0 X w hg.1 (by simp; omega) (fun u hu => by rw [List.mem_singleton.1 hu]; exact h1.2)
  have e : (X.toList.take (k + 0) ++ [v] ++ X.toList.drop (k + 0 + [v].length)).toArray = D := by
    rw [← hD]
    apply Array.ext'
    simp only [Array.toList_setIfInBounds, Nat.add_zero, List.length_singleton]
    rw [List.set_eq_take_append_cons_drop, if_pos (by simpa using hk)]
    simp
  rw [e] at hst
  cases hq : P.info? t with
  | none => simp [hq] at hz
  | some i =>
    have hs : i.size = 1 := by simpa [hq] using hz
    have hrun : (storeVar t ⟨g, k, none⟩ v).run P w = .ok () (w.setRow g D) := by
      simp [storeVar, sizeOf, typeInfo, hq, h1.1, hs, hst]
    unfold Oper.wp execOp
    simp only [hx, hy, Instr.storeAt, Instr.sureAddr, Sem.run_bind, Sem.run_pure, Result.andThen_ok, hrun]
    exact hkk
/-- Rows read that were there ahead of the call. -/
theorem outR {t : TypeId} {x : Operand} {g k : Nat} {D : Array Value} (hw : Region.wanted ⟨d, .load t x, tp, ps, af, gd⟩ (yielded ops a.tmps) = true) (hx : a.eval x = .pointer (some ⟨g, k, none⟩)) (hr : isRowB P t = true) (H : Hid (Sep P w0 w L M)) (hc : Hid (w0.rangeAt g k D.toList)) (hD : Hid (Fit P t D))
    (h : wpList P ops Q rest (a.put d (.agg D)) w) : wpList P ops Q (⟨d, .load t x, tp, ps, af, gd⟩ :: rest) a w := by
  obtain ⟨e, h1, h2⟩ := row_of hr
  refine BigFrame.wpList_want hw fun K hK => ?_
  have hk := hK _ _ h
  have hc' : w.rangeAt g k D.toList := fun j v hj => by
    have h2 := hc.out j v hj
    have hg : g < w0.heap.size := by
      have h3 := h2
      unfold World.cell? at h3
      cases hq : w0.heap[g]? with
      | none => simp [hq] at h3
      | some o => exact heap_lt hq
    exact (World.cell?_of_block (a := ⟨g, k + j, none⟩) (H.out.b.block g hg)).trans h2
  have hrun : (loadVar t ⟨g, k, none⟩).run P w = .ok (.agg D) w := by
    cases e <;> first | exact (run_loadVar_mid w g k t D.toList _ hc' h1 rfl (by simpa using hD.out.s)) | (simp at h2)
  unfold Oper.wp execOp
  simp only [hx, Instr.loadAt, Instr.sureAddr, Sem.run_bind, Sem.run_pure, Result.andThen_ok, hrun]
  exact hk
/-- A literal of parts. -/
theorem bldS {t : TypeId} {parts : Array (Nat × Operand)} {D : Array Value} (hw : Region.wanted ⟨d, .build t parts, tp, ps, af, gd⟩ (yielded ops a.tmps) = true) {vals : List (Nat × Value)} (hb : P.built t vals = some D) (hv : (parts.toList.map fun p => (p.1, a.eval p.2)) = vals)
    (h : wpList P ops Q rest (a.put d (.agg D)) w) : wpList P ops Q (⟨d, .build t parts, tp, ps, af, gd⟩ :: rest) a w :=
  BigFrame.wpList_want hw fun K hK => by
    have hr := run_build w t (parts.map fun (i, x) => (i, a.eval x)) D (by rw [Array.toList_map, hv]; exact hb)
    unfold Oper.wp execOp
    simp only [hr, Sem.run_bind, Result.andThen_ok]
    exact hK _ _ h
/-- Two values of rows held against one another. -/
theorem binS {o : BinOp} {t t2 : TypeId} {x y : Operand} {X Y : Array Value} {u : Value} (hw : Region.wanted ⟨d, .binOp o t x y t2, tp, ps, af, gd⟩ (yielded ops a.tmps) = true) (hx : a.eval x = .agg X) (hy : a.eval y = .agg Y) (hm : P.eqGuardType P.depth t = false) (hr : (binOp o t (.agg X) (.agg Y)).run P w = .ok u w)
    (h : wpList P ops Q rest (a.put d u) w) : wpList P ops Q (⟨d, .binOp o t x y t2, tp, ps, af, gd⟩ :: rest) a w :=
  BigFrame.wpList_want hw fun K hK => by
    unfold Oper.wp execOp
    simp only [hx, hy, Sem.run_bind, run_eqGuard_agg w o t x y X Y hm, Result.andThen_ok, hr]
    exact hK _ _ h
/-- A literal slice, by its run. -/
theorem bslS {t : TypeId} {n : Nat} {parts : Array (Nat × Operand)} {vals : Array (Nat × Value)} {v : Value} {w' : World} (hw : Region.wanted ⟨d, .buildSlice t n parts, tp, ps, af, gd⟩ (yielded ops a.tmps) = true) (hr : (Instr.buildSlice t n vals).run P w = .ok v w') (hv : (parts.toList.map fun p => (p.1, a.eval p.2)) = vals.toList)
    (h : wpList P ops Q rest (a.put d v) w') : wpList P ops Q (⟨d, .buildSlice t n parts, tp, ps, af, gd⟩ :: rest) a w :=
  BigFrame.wpList_want hw fun K hK => by
    have hv' : (parts.map fun (i, x) => (i, a.eval x)) = vals := by
      apply Array.ext'
      rw [Array.toList_map, ← hv]
    unfold Oper.wp execOp
    simp only [hv', hr, Sem.run_bind, Result.andThen_ok]
    exact hK _ _ h
/-- An append, by its run. -/
theorem appS {x y : Operand} {t u : TypeId} {vx vy v : Value} {w' : World} (hw : Region.wanted ⟨d, .call { callee := .builtin .append, args := #[x, y], argTypes := #[t, u] }, tp, ps, af, gd⟩ (yielded ops a.tmps) = true) (hx : a.eval x = vx) (hy : a.eval y = vy) (hr : (Builtin.append_ #[t, u] tp #[vx, vy]).run P w = .ok v w')
    (h : wpList P ops Q rest (a.put d v) w') : wpList P ops Q (⟨d, .call { callee := .builtin .append, args := #[x, y], argTypes := #[t, u] }, tp, ps, af, gd⟩ :: rest) a w := by
  refine BigFrame.wpList_want hw fun K hK => ?_
  unfold Oper.wp
  simp [execOp, resolve, invoke, builtin, hx, hy, hr, Result.andThen]
  exact hK _ _ h
theorem resS1 {fn : Func} {p : Tmp} {ty : TypeId} {g : Nat} {X : Array Value} {tmps : Array Value} (h : fn.results = #[.cell p ty]) (hp : tmps.getD p undef = .pointer (some ⟨g, 0, none⟩)) (H : Hid (Sep P w0 w L M)) (hm : (g, X, ty) ∈ L) (hr : isRowB P ty = true) : (results fn tmps).run P w = .ok (.agg X) w := by
  obtain ⟨e, h1, h2⟩ := row_of hr
  have hg := H.out.v _ hm
  cases e <;> first | exact results_cell_row h _ _ g ty X (0, 0) _ hp hg.1 h1 rfl hg.2.2 | (simp at h2)
theorem resS2 {fn : Func} {p q : Tmp} {ty : TypeId} {g : Nat} {X : Array Value} {tmps : Array Value} (h : fn.results = #[.cell p ty, .tmp q]) (hp : tmps.getD p undef = .pointer (some ⟨g, 0, none⟩)) (H : Hid (Sep P w0 w L M)) (hm : (g, X, ty) ∈ L) (hr : isRowB P ty = true) : (results fn tmps).run P w = .ok (.tuple #[.agg X, tmps.getD q undef]) w := by
  obtain ⟨e, h1, h2⟩ := row_of hr
  have hg := H.out.v _ hm
  cases e <;> first | exact results_row_tmp h _ _ g ty X (0, 0) _ hp hg.1 h1 rfl hg.2.2 | (simp at h2)
end
/-- The rows M are there. -/
theorem hidkS {p : Prop} (h : p) : Hid p := h
def Has (w : World) (M : List (Nat × Obj)) : Prop := ∀ c ∈ M, w.heap[c.1]? = some c.2
theorem Has.l {w : World} {N M : List (Nat × Obj)} (h : Has w (N ++ M)) : Has w N := fun c hc => h c (List.mem_append_left _ hc)
theorem Has.r {w : World} {N M : List (Nat × Obj)} (h : Has w (N ++ M)) : Has w M := fun c hc => h c (List.mem_append_right _ hc)
theorem Sep.has {P : Program} {w0 w : World} {L : List Vr} {M : List (Nat × Obj)} (h : Sep P w0 w L M) : Has w M := fun c hc => (h.m c hc).1
/-- The block of a row of one's own is among N. -/
def OwnIn (v : Value) (N : List (Nat × Obj)) : Prop := ∀ g, v.ownBlock = some g → ∃ o, (g, o) ∈ N
/-- A row that a call has handed out, of its own, stays. -/
theorem Sep.own {P : Program} {w0 w w' : World} {L : List Vr} {M : List (Nat × Obj)} (h : Sep P w0 w L M) (hb : Below w.heap.size w w') {t : TypeId} {sz n : Nat} {v : Value} {xs : List Value} (ho : w'.ownsRow w.heap.size t sz v n xs) :
    ∃ N, Hid (Sep P w0 w' L (N ++ M)) ∧ Hid (OwnIn v N ∧ ∀ W, Has W N → W.ownsRow w0.heap.size t sz v n xs) := by
  rcases ho.2 with ⟨hv, h0⟩ | ⟨g, cap, cur, hv, hg, hh, rest⟩
  · exact ⟨[], h.call hb, hidkS ⟨fun g hg => (by rw [hv] at hg; cases hg), fun W _ => ⟨ho.1, .inl ⟨hv, h0⟩⟩⟩⟩
  · exact ⟨[(g, .cells cur t (0, 0))], h.row hb hh hg, hidkS ⟨fun q hq => (by rw [hv] at hq; cases hq; exact ⟨_, .head _⟩), fun W hW => ⟨ho.1, .inr ⟨g, cap, cur, hv, Nat.le_trans h.b.size hg, hW _ (.head _), rest⟩⟩⟩⟩
/-- A block that is there, of the call's own and none of the list's. -/
theorem Sep.more {P : Program} {w0 w : World} {L : List Vr} {M : List (Nat × Obj)} (h : Sep P w0 w L M) {g : Nat} {o : Obj} (hg : w.heap[g]? = some o) (hge : w0.heap.size ≤ g) (hL : ∀ c ∈ L, c.1 ≠ g) (hM : ∀ c ∈ M, c.1 ≠ g) : Sep P w0 w L ((g, o) :: M) := by
  refine ⟨h.b, h.v, fun c hc => ?_, h.ap, fun c hc d hd => ?_, .cons (fun c hc e => hM c hc e.symm) h.mm⟩
  · rcases List.mem_cons.1 hc with e | e
    · subst e; exact ⟨hg, hge⟩
    · exact h.m c e
  · rcases List.mem_cons.1 hd with e | e
    · subst e; exact hL c hc
    · exact h.lm c hc d e
/-- Behind an append the new row lies where the old one lay, or in a new block. -/
theorem append_where {P : Program} {w : World} (base : Nat) (t ty e : TypeId) (i : TypeInfo) (z : Value) (size bytes : Nat) (ht : P.underlying t = some (.slice e)) (hi : P.info? e = some i) (hz : i.zero = some z)
    (hsize : i.size = size) (hby : i.bytes = bytes) (hzs : z.cells.size = size) (hsz : 0 < size)
    (v : Value) (n : Nat) (xs : List Value) (hown : w.ownsRow base e size v n xs)
    (a : Addr) (m c : Nat) (news : List Value) (hl : news.length = m * size) (hnews : ∀ j u, news[j]? = some u → w.cell? (a.add j) = some u) (h1 : ∀ u ∈ news, u.oneCell' = true)
    (h63 : n + m ≤ maxLen) (hbytes : (n + m) * bytes ≤ 140737488355328) (hbase : base ≤ w.heap.size) :
    ∃ v' w', (Builtin.append_ #[t, t] ty #[v, .slice (some a) m c]).run P w = .ok v' w' ∧ w'.ownsRow base e size v' (n + m) (xs ++ news) ∧ w.grownBy w' v.ownBlock ∧ (v'.ownBlock = v.ownBlock ∨ ∃ q, v'.ownBlock = some q ∧ w.heap.size ≤ q) := by
  obtain ⟨v', w', hr, ho, hg, hn⟩ := run_append_own (P := P) w base t ty e i z size bytes ht hi hz hsize hby hzs hsz v n xs hown a m c news hl hnews h1 h63 hbytes hbase
  refine ⟨v', w', hr, ho, hg, ?_⟩
  have hsm : n + m ≤ 9223372036854775807 := by simp only [maxLen] at h63; omega
  subst hsize
  subst hby
  rcases hown.2 with ⟨rfl, h0⟩ | ⟨g, cap, cur, rfl, hbg, hgg, hnc, hcm, hcs, htake⟩
  · by_cases hm : m = 0
    · have := hn.2 ⟨rfl, hm⟩
      subst this
      exact .inl rfl
    · have := run_append_nil (P := P) w t ty e i z ht hi hz a m c news hl hnews (by omega) (by omega) (by have : m * i.bytes ≤ (n + m) * i.bytes := Nat.mul_le_mul_right _ (by omega); omega)
      rw [hr] at this
      cases this
      exact .inr ⟨w.heap.size, rfl, Nat.le_refl _⟩
  · by_cases hroom : n + m ≤ cap
    · have := run_append_room (P := P) w t ty e i ht hi g n cap cur hgg a m c news hl hnews h1 hroom (by rw [hl, hcs, ← Nat.add_mul]; exact Nat.mul_le_mul_right _ hroom)
      rw [hr] at this
      cases this
      exact .inl rfl
    · have := run_append_grow (P := P) w t ty e i z ht hi hz ⟨g, 0, none⟩ n cap xs hown.1 (hown.cells (g := g) rfl) a m c news hl hnews (by omega) (by omega) (growslice_fits (by omega) hbytes)
      rw [hr] at this
      cases this
      exact .inr ⟨w.heap.size, rfl, Nat.le_refl _⟩
/-- What is the call's own behind an append to a row of its own. -/
theorem Sep.app {P : Program} {w0 w w' : World} {L : List Vr} {A N M : List (Nat × Obj)} (h : Sep P w0 w L (A ++ (N ++ M))) {v v' : Value} (hN : OwnIn v N) {e : TypeId} {sz n : Nat} {xs : List Value} (ho : w'.ownsRow w0.heap.size e sz v' n xs) (hg : w.grownBy w' v.ownBlock) (hw : v'.ownBlock = v.ownBlock ∨ ∃ q, v'.ownBlock = some q ∧ w.heap.size ≤ q) :
    ∃ N', Hid (Sep P w0 w' L (A ++ (N' ++ M))) ∧ Hid (OwnIn v' N' ∧ ∀ W, Has W N' → W.ownsRow w0.heap.size e sz v' n xs) := by
  have inA : ∀ c ∈ A, c ∈ A ++ (N ++ M) := fun c hc => List.mem_append_left _ hc
  have inM : ∀ c ∈ M, c ∈ A ++ (N ++ M) := fun c hc => List.mem_append_right _ (List.mem_append_right _ hc)
  have inN : ∀ c ∈ N, c ∈ A ++ (N ++ M) := fun c hc => List.mem_append_right _ (List.mem_append_left _ hc)
  have mm := List.pairwise_append.1 h.mm
  have mn := List.pairwise_append.1 mm.2.1
  have neA : ∀ c ∈ A, ∀ g, v.ownBlock = some g → c.1 ≠ g := fun c hc g hq => by
    obtain ⟨o, hm⟩ := hN g hq
    exact mm.2.2 c hc (g, o) (List.mem_append_left _ hm)
  have neM : ∀ c ∈ M, ∀ g, v.ownBlock = some g → c.1 ≠ g := fun c hc g hq => by
    obtain ⟨o, hm⟩ := hN g hq
    exact fun e => mn.2.2 (g, o) hm c hc e.symm
  have neL : ∀ c ∈ L, ∀ g, v.ownBlock = some g → c.1 ≠ g := fun c hc g hq => by
    obtain ⟨o, hm⟩ := hN g hq
    exact h.lm c hc (g, o) (inN _ hm)
  have st : ∀ k, k < w.heap.size → (∀ g, v.ownBlock = some g → k ≠ g) → w'.heap[k]? = w.heap[k]? := fun k hk hne => hg.block k hk fun e => hne k e.symm rfl
  have geN : ∀ g, v.ownBlock = some g → w0.heap.size ≤ g := fun g hq => by
    obtain ⟨o, hm⟩ := hN g hq
    exact (h.m _ (inN _ hm)).2
  have hb : Below w0.heap.size w0 w' := h.b.grown hg h.b.size geN
  have hL : ∀ c ∈ L, w'.heap[c.1]? = some (.cells c.2.1 c.2.2 (0, 0)) ∧ w0.heap.size ≤ c.1 ∧ (P.info? c.2.2).map (·.size) = some c.2.1.size := fun c hc => ⟨(st c.1 (heap_lt (h.v c hc).1) (neL c hc)).trans (h.v c hc).1, (h.v c hc).2⟩
  have hA : ∀ c ∈ A, w'.heap[c.1]? = some c.2 ∧ w0.heap.size ≤ c.1 := fun c hc => ⟨(st c.1 (heap_lt (h.m c (inA c hc)).1) (neA c hc)).trans (h.m c (inA c hc)).1, (h.m c (inA c hc)).2⟩
  have hM : ∀ c ∈ M, w'.heap[c.1]? = some c.2 ∧ w0.heap.size ≤ c.1 := fun c hc => ⟨(st c.1 (heap_lt (h.m c (inM c hc)).1) (neM c hc)).trans (h.m c (inM c hc)).1, (h.m c (inM c hc)).2⟩
  have pAM : (A ++ M).Pairwise fun c d => c.1 ≠ d.1 := List.pairwise_append.2 ⟨mm.1, mn.2.1, fun c hc d hd => mm.2.2 c hc d (List.mem_append_right _ hd)⟩
  rcases ho.2 with ⟨hv, h0⟩ | ⟨g, cap, cur, hv, hge, hh, rest⟩
  · refine ⟨[], ⟨hb, hL, fun c hc => ?_, h.ap, fun c hc d hd => ?_, pAM⟩, hidkS ⟨fun g hq => (by rw [hv] at hq; cases hq), fun W _ => ⟨ho.1, .inl ⟨hv, h0⟩⟩⟩⟩
    · rcases List.mem_append.1 hc with q | q
      · exact hA c q
      · exact hM c q
    · rcases List.mem_append.1 hd with q | q
      · exact h.lm c hc d (inA d q)
      · exact h.lm c hc d (inM d q)
  · have hvg : v'.ownBlock = some g := by rw [hv]; rfl
    have far : ∀ k, k < w.heap.size → (∀ q, v.ownBlock = some q → k ≠ q) → k ≠ g := fun k hk hne e => by
      rcases hw with e1 | ⟨q, e1, hq⟩
      · exact hne g (by rw [← e1, hvg]) e
      · rw [hvg] at e1; cases e1; omega
    have fA : ∀ c ∈ A, c.1 ≠ g := fun c hc => far c.1 (heap_lt (h.m c (inA c hc)).1) (neA c hc)
    have fM : ∀ c ∈ M, c.1 ≠ g := fun c hc => far c.1 (heap_lt (h.m c (inM c hc)).1) (neM c hc)
    have fL : ∀ c ∈ L, c.1 ≠ g := fun c hc => far c.1 (heap_lt (h.v c hc).1) (neL c hc)
    refine ⟨[(g, .cells cur e (0, 0))], ⟨hb, hL, fun c hc => ?_, h.ap, fun c hc d hd => ?_, ?_⟩, hidkS ⟨fun q hq => ?_, fun W hW => ⟨ho.1, .inr ⟨g, cap, cur, hv, hge, hW _ (.head _), rest⟩⟩⟩⟩
    · rcases List.mem_append.1 hc with q | q
      · exact hA c q
      · rcases List.mem_cons.1 q with q | q
        · subst q; exact ⟨hh, hge⟩
        · exact hM c q
    · rcases List.mem_append.1 hd with q | q
      · exact h.lm c hc d (inA d q)
      · rcases List.mem_cons.1 q with q | q
        · subst q; exact fL c hc
        · exact h.lm c hc d (inM d q)
    · refine List.pairwise_append.2 ⟨mm.1, .cons (fun d hd e => fM d hd e.symm) mn.2.1, fun c hc d hd => ?_⟩
      rcases List.mem_cons.1 hd with q | q
      · subst q; exact fA c hc
      · exact mm.2.2 c hc d (List.mem_append_right _ q)
    · rw [hvg] at hq; cases hq; exact ⟨_, .head _⟩
end Go.Proofs.Ytjpmmbmhkpgjcaa
