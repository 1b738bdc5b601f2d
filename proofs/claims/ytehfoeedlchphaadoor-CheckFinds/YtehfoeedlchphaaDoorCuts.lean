/- What check's own small functions answer: a proof that must have so many digests, a proof parted from its last one; knots, and their sums and texts. -/
import Derived.Test.YtehfoeedlchphaaDoorCheckC
import Derived.Test.YtehfoeedlchphaaDoorLaws5
import Derived.Test.YtehfoeedlchphaaDoorKnots
namespace Go.Proofs.YtehfoeedlchphaaDoor
open Go.RowKit Sums
set_option linter.unusedVariables false
set_option linter.unusedSimpArgs false

/-- A variable that is an array, made; the world behind it is a letter. -/
theorem wpList_new_var {P : Program} {ops : Array Oper} {rest : List Oper} {o : Oper} {a : Act} {w : World} {Q : Exit → Act → World → Prop} (hg : o.guard = none) (t : TypeId) (ho : o.op = .alloc t)
    (cs : Array Value) (hz : (P.info? t).map (fun i => (i.zero, i.size)) = some (some (.agg cs), cs.size)) (h : ∀ g w', Hid (Made g cs t w w') → wpList P ops Q rest (a.put o.dst (.pointer (some ⟨g, 0, none⟩))) w') : wpList P ops Q (o :: rest) a w :=
  wpList_alloc_row hg t ho cs hz (h w.heap.size _ ⟨rfl, heap_alloc_new w _, (Below.refl _ _).alloc (Nat.le_refl _) _⟩)
theorem wpList_set_var {P : Program} {ops : Array Oper} {rest : List Oper} {o : Oper} {a : Act} {w : World} {Q : Exit → Act → World → Prop} (hgd : o.guard = none) (t : TypeId) (x y : Operand) (ho : o.op = .store t x y)
    (g : Nat) (D : Array Value) (hx : a.eval x = .pointer (some ⟨g, 0, none⟩)) (hy : a.eval y = .agg D) (t' : TypeId) (Z : Array Value) (hg : w.heap[g]? = some (.cells Z t' (0, 0))) (hi : (P.info? t).map (·.size) = some D.size) (hold : Z.size = D.size) (h1 : D.all (·.oneCell') = true)
    (h : ∀ w', Hid (Wrote g D t' w w') → wpList P ops Q rest (a.put o.dst undef) w') : wpList P ops Q (o :: rest) a w :=
  wpList_store_row hgd t x y ho g D hx hy t' Z hg hi hold h1 (h _ (wrote_row hg))
theorem results_tmp_row {P : Program} {fn : Func} {p q : Tmp} {ty : TypeId} (h : fn.results = #[.tmp q, .cell p ty]) (tmps : Array Value) (w : World) (g : Nat) (t : TypeId) (cs : Array Value) (fr : Nat × Nat) (d : TypeDesc)
    (hp : tmps.getD p undef = .pointer (some ⟨g, 0, none⟩)) (hg : w.heap[g]? = some (.cells cs t fr))
    (hu : P.underlying ty = some d) (hd : (match d with | .struct _ | .array _ _ => true | _ => false) = true) (hi : (P.info? ty).map (·.size) = some cs.size) :
    (results fn tmps).run P w = .ok (.tuple #[tmps.getD q undef, .agg cs]) w := by
  have hp' : tmps[p]?.getD undef = .pointer (some ⟨g, 0, none⟩) := by simpa using hp
  simp [results, h, hp', asAddr, run_loadVar_row w g t ty cs fr d hg hu hd hi]

/-- An array read out of the midst of a row. -/
theorem yieldsIf_mid {P : Program} {ops : Array Oper} {S : World → Prop} {op : Oper} {a : Act} (hw : Region.wanted op (yielded ops a.tmps) = true) (ty : TypeId) (x : Operand) (ho : op.op = .load ty x)
    (b o : Nat) (hx : a.eval x = .pointer (some ⟨b, o, none⟩)) (D : Array Value) (d : TypeDesc) (hS : ∀ w, S w → w.rangeAt b o D.toList)
    (hu : P.underlying ty = some d) (hd : d.isRow = true) (hi : (P.info? ty).map (·.size) = some D.size) : YieldsIf P ops S op (.agg D) a := by
  have := yieldsIf_load_mid (P := P) (ops := ops) (S := S) hw ty x ho b o hx D.toList d hS hu hd (by simpa using hi)
  simpa using this
theorem wpList_mid {P : Program} {ops : Array Oper} {rest : List Oper} {op : Oper} {a : Act} {w : World} {Q : Exit → Act → World → Prop} (hgd : op.guard = none) (ty : TypeId) (x : Operand) (ho : op.op = .load ty x)
    (b o : Nat) (hx : a.eval x = .pointer (some ⟨b, o, none⟩)) (D : Array Value) (d : TypeDesc) (hc : w.rangeAt b o D.toList)
    (hu : P.underlying ty = some d) (hd : d.isRow = true) (hi : (P.info? ty).map (·.size) = some D.size)
    (h : wpList P ops Q rest (a.put op.dst (.agg D)) w) : wpList P ops Q (op :: rest) a w :=
  wpList_load_mid hgd ty x ho b o hx D.toList d hc hu hd (by simpa using hi) (by simpa using h)

/-- A struct that is built, where the order is drawn. -/
theorem yieldsIf_build {P : Program} {ops : Array Oper} {S : World → Prop} {o : Oper} {a : Act} (hw : Region.wanted o (yielded ops a.tmps) = true) (t : TypeId) (parts : Array (Nat × Operand)) (ho : o.op = .build t parts) (vals : Array (Nat × Value)) (hv : (parts.toList.map fun p => (p.1, a.eval p.2)) = vals.toList)
    (v : Value) (hrun : ∀ W, (Instr.build t vals).run P W = .ok v W) : YieldsIf P ops S o v a :=
  .inl ⟨hw, fun w _ => by
    have hv' : (parts.map fun (i, x) => (i, a.eval x)) = vals := by
      apply Array.ext'
      rw [Array.toList_map, ← hv]
    subst hv'
    unfold execOp
    simp only [ho, Sem.run_bind, hrun, Result.andThen_ok]
    rfl⟩

/-! Knots. -/
theorem infoK : (Tryd.prog.info? 57).map (fun i => (i.zero, i.size, i.bytes)) = some (some (.agg (cellsOf (List.replicate 64 0)).toArray), 64, 64) := by kernel_rfl
theorem sizeK : (Tryd.prog.info? 57).map (·.size) = some 64 := by
  obtain ⟨i, hi, _, hs, _⟩ := info_parts infoK
  rw [hi, Option.map_some, hs]
theorem noughtsK : ∃ Z : Array Value, Hid (Z = (cellsOf (List.replicate 64 0)).toArray) ∧ Hid ((Tryd.prog.info? 57).map (fun i => (i.zero, i.size)) = some (some (.agg Z), Z.size)) ∧ Hid (Z.size = 64) := by
  refine ⟨(cellsOf (List.replicate 64 0)).toArray, (rfl : _ = _), ?_, (rfl : _ = _)⟩
  obtain ⟨i, hi, hz, hs, _⟩ := info_parts infoK
  show _ = _
  rw [hi, Option.map_some, hz, hs]
  rfl
theorem knot_row (l : List UInt8) (hl : l.length = 64) : ∃ D : Array Value, Hid (D = (cellsOf l).toArray) ∧ Hid ((Tryd.prog.info? 57).map (·.size) = some D.size) ∧ Hid (D.all (·.oneCell') = true) ∧ Hid (D.size = 64) := by
  refine ⟨(cellsOf l).toArray, (rfl : _ = _), ?_, cellsOf_all l, ?_⟩
  · show _ = _
    rw [sizeK]; simp [cellsOf_length, hl]
  · show _ = _
    simp [cellsOf_length, hl]
theorem fill_put (place : Nat → Option (Nat × Nat)) (i off n : Nat) (D cs : Array Value) (pre old post : List Value) (more : List (Nat × Value)) (hp : place i = some (off, n)) (hn : D.size = n) (hcs : cs.toList = pre ++ old ++ post) (hpre : pre.length = off) (hold : old.length = n) :
    Instr.fill place cs ((i, .agg D) :: more) = Instr.fill place (pre ++ D.toList ++ post).toArray more := by
  have hsz : (Value.agg D).cells.size = n := hn
  have hcz : cs.size = off + n + post.length := by rw [← Array.length_toList, hcs]; simp only [List.length_append, hpre, hold]
  conv => lhs; unfold Instr.fill
  simp only [hp, hsz]
  rw [if_neg (by simp; omega)]
  congr 1
  apply Array.ext'
  have := fold_set D.toList 0 off cs pre old post hcs (by omega) (by rw [hold, Array.length_toList, hn])
  rw [← this, ← Array.foldl_toList]
  congr 2
  simp [Value.cells]
theorem builtK (A B K : Array Value) (hA : A.size = 32) (hB : B.size = 32) (hK : K.toList = A.toList ++ B.toList) : Tryd.prog.built 57 [(0, .agg A), (1, .agg B)] = some K := by
  obtain ⟨i, hi, hz, hs, _⟩ := info_parts infoK
  obtain ⟨j, hj, _, hjs, _⟩ := info_parts infoD
  obtain ⟨Z, hZ⟩ : ∃ Z, Z = List.replicate 32 (0 : UInt8) := ⟨_, rfl⟩
  have hZ32 : (cellsOf Z).length = 32 := by rw [cellsOf_length, hZ]; rfl
  have e : (cellsOf (List.replicate 64 0)).toArray = (cellsOf Z ++ cellsOf Z).toArray := by rw [hZ, ← cellsOf_append]; rfl
  rw [e] at hz
  unfold Program.built
  simp only [hi, Tryd.underlying57, hz, List.mapM_cons, List.mapM_nil, hj, hjs, Option.map_some, Option.bind_eq_bind, Option.bind_some, Option.pure_def]
  show Instr.fill _ (cellsOf Z ++ cellsOf Z).toArray _ = some K
  refine (fill_put _ 0 0 32 A _ [] (cellsOf Z) (cellsOf Z) _ rfl hA rfl rfl hZ32).trans ?_
  refine (fill_put _ 1 32 32 B _ A.toList (cellsOf Z) [] _ rfl hB (by simp) (by simpa using hA) hZ32).trans ?_
  simp only [Instr.fill, List.append_nil, Option.some.injEq]
  exact Array.ext' hK.symm
/-- A knot that is made of two digests. -/
theorem build_knot (w : World) (A B K : Array Value) (hA : A.size = 32) (hB : B.size = 32) (hK : K.toList = A.toList ++ B.toList) : (Instr.build 57 #[(0, .agg A), (1, .agg B)]).run Tryd.prog w = .ok (.agg K) w := run_build w 57 _ K (builtK A B K hA hB hK)
theorem range_knot {W : World} {g : Nat} {l r : List UInt8} {t : TypeId} {fr : Nat × Nat} (hl : l.length = 32) (h : W.heap[g]? = some (.cells (cellsOf (l ++ r)).toArray t fr)) : W.rangeAt g 0 (cellsOf l) ∧ W.rangeAt g 32 (cellsOf r) := by
  refine ⟨fun j v hj => ?_, fun j v hj => ?_⟩
  · have hlt := (List.getElem?_eq_some_iff.1 hj).1
    rw [Nat.zero_add, cell_of_row W g j _ t fr h]
    simp only [List.getElem?_toArray, cellsOf_append]
    rw [List.getElem?_append_left hlt, hj]
  · rw [cell_of_row W g _ _ t fr h]
    simp only [List.getElem?_toArray, cellsOf_append]
    rw [List.getElem?_append_right (by rw [cellsOf_length]; omega), cellsOf_length, hl, Nat.add_sub_cancel_left, hj]

/-! A proof that must have so many digests. -/
theorem must_ok (n : Nat) (a : Option Addr) (len cap : Nat) (w : World) (h : len = n) (hl : len ≤ maxLen) :
    Calls Tryd.prog 43 #[.int .i64 n, .slice a len cap] w fun e w' => e = .returned (.tuple #[]) ∧ w' = w := by
  subst h
  have hlx : len ≤ 9223372036854775807 := by unfold maxLen at hl; omega
  clear hl
  go_enter Tryd.func43, Tryd.ntmps43
  go_wp2
  go_end0
  exact ⟨rfl, rfl⟩
theorem must_no (n : Nat) (a : Option Addr) (len cap : Nat) (w : World) (h : len ≠ n) (hl : len ≤ maxLen) :
    Calls Tryd.prog 43 #[.int .i64 n, .slice a len cap] w fun e w' => (∃ u p, e = .panicked [{ v := .iface u p, recovered := false }]) ∧ w' = w := by
  have hlx : len ≤ 9223372036854775807 := by unfold maxLen at hl; omega
  have hne : ((len : Int) != (n : Int)) = true := by rw [bne_iff_ne]; omega
  clear hl h
  go_enter Tryd.func43, Tryd.ntmps43
  go_wp2
  exact ⟨rfl, ⟨_, _, rfl⟩, rfl⟩

/-! A proof parted from its last digest. -/
set_option maxHeartbeats 1000000 in
theorem cut_no (a : Option Addr) (cap : Nat) (w : World) :
    Calls Tryd.prog 45 #[.slice a 0 cap] w fun e w' => (∃ u p, e = .panicked [{ v := .iface u p, recovered := false }]) ∧ Below w.heap.size w w' := by
  obtain ⟨Z, HZ, HA, HS, H1, H32⟩ := noughts27
  go_enter Tryd.func45, Tryd.ntmps45
  go_wp2_with (first
    | (refine wpList_alloc_row rfl 23 rfl Z HA.out ?_)
    | fail)
  exact ⟨rfl, ⟨_, _, rfl⟩, (Below.refl _ _).alloc (Nat.le_refl _) _⟩
set_option maxHeartbeats 1000000 in
theorem cut_ok (g o m cap : Nat) (l : List (List UInt8)) (d : List UInt8) (w : World) (hR : LReads w (some ⟨g, o, none⟩) (m + 1) cap (l ++ [d])) (D : Array Value) (HD : Hid (D = (cellsOf d).toArray)) :
    Calls Tryd.prog 45 #[.slice (some ⟨g, o, none⟩) (m + 1) cap] w fun e w' => e = .returned (.tuple #[.slice (some ⟨g, o, none⟩) m cap, .agg D]) ∧ Below w.heap.size w w' := by
  obtain ⟨Z, HZ, HA, HS, H1, H32⟩ := noughts27
  have hd : d.length = 32 := hR.2.1 d (by simp)
  have HSD : Hid ((Tryd.prog.info? 23).map (·.size) = some D.size) := by show _ = _; rw [size23, HD.out]; simp [cellsOf_length, hd]
  have H1D : Hid (D.all (·.oneCell') = true) := by show _ = _; rw [HD.out]; exact cellsOf_all _
  have HZD : Hid (Z.size = D.size) := by show _ = _; rw [H32.out, HD.out]; simp [cellsOf_length, hd]
  have hlm : l.length = m := by have := hR.1; simpa using this
  have hcap : m + 1 ≤ cap := hR.2.2.1
  have hlx : m + 1 ≤ 9223372036854775807 := by have := hR.2.2.2.1; unfold maxLen at this; omega
  have e0 : (l ++ [d])[m]'(by simp; omega) = d := by simp [← hlm]
  have HRG : Hid (w.rangeAt g (o + 32 * m) D.toList) := by
    have := hR.range m (by simp; omega)
    rw [e0] at this
    rw [HD.out]; exact this
  have hgl : g < w.heap.size := by
    obtain ⟨g', o', e, h⟩ := hR.at (by omega)
    cases e
    exact h
  have HW0 : Hid (Below w.heap.size w (w.alloc (.cells Z 23)).drew ∧ (w.alloc (.cells Z 23)).drew.heap[w.heap.size]? = some (.cells Z 23 (0, 0))) := ⟨((Below.refl _ _).alloc (Nat.le_refl _) _).drew, heap_alloc_new w _⟩
  have slc : ∀ W, (Instr.sliceAt 24 (.slice (some ⟨g, o, none⟩) (m + 1) cap) none (some (.int .i64 (m : Int))) none).run Tryd.prog W = .ok (.slice (some ⟨g, o, none⟩) m cap) W := fun W => slice_left W g o (m + 1) cap m (by omega)
  have idx : ∀ W, (Instr.indexAt 24 (.slice (some ⟨g, o, none⟩) (m + 1) cap) (.int .i64 (m : Int))).run Tryd.prog W = .ok (.pointer (some ⟨g, o + 32 * m, none⟩)) W := fun W => index_list W g o (m + 1) cap m .i64 (by omega)
  have wr := wrap_int ((m : Int)) (by omega) (by omega)
  have c0 : (((m : Int) + 1) == 0) = false := by rw [beq_eq_false_iff_ne]; omega
  have c1 : (m : Int) + 1 - 1 = (m : Int) := by omega
  clear hR HD
  go_enter Tryd.func45, Tryd.ntmps45
  go_wp2_with (first
    | (refine wpList_alloc_row rfl 23 rfl Z HA.out ?_)
    | fail)
  refine wp_region_held_drew (S := (fun W => W.rangeAt g (o + 32 * m) D.toList)) (by kernel_rfl) (range_keep HW0.out.1 HRG.out) (fun hHeld => ?_)
  refine wpAnyH_take (i := 0) (oi := { dst := some 12, op := Op.move (Operand.tmp 0), type := 24, pos := "check.go:149", after := #[], guard := none }) (v := .slice (some ⟨g, o, none⟩) (m + 1) cap) rfl (by kernel_rfl) (by kernel_rfl) (by kernel_rfl) (fun _ _ _ h => h) (Or.inl ⟨by rfl, by intro W hSw; go_simp⟩) hHeld ?_
  try simp only [Act.put, List.setIfInBounds_toArray, List.set_cons_zero, List.set_cons_succ]
  refine wpAnyH_take (i := 1) (oi := { dst := some 13, op := Op.move (Operand.tmp 4), type := 3, pos := "check.go:149", after := #[], guard := none }) (v := .int .i64 (m : Int)) rfl (by kernel_rfl) (by kernel_rfl) (by kernel_rfl) (fun _ _ _ h => h) (Or.inl ⟨by rfl, by intro W hSw; go_simp⟩) hHeld ?_
  try simp only [Act.put, List.setIfInBounds_toArray, List.set_cons_zero, List.set_cons_succ]
  refine wpAnyH_take (i := 2) (oi := { dst := some 14, op := Op.slice 24 (Operand.tmp 12) none (some (Operand.tmp 13)) none, type := 24, pos := "check.go:149", after := #[{ on := 0, ground := Ground.data }, { on := 1, ground := Ground.data }], guard := none }) (v := .slice (some ⟨g, o, none⟩) m cap) rfl (by kernel_rfl) (by kernel_rfl) (by kernel_rfl) (fun _ _ _ h => h) (Or.inl ⟨by rfl, by intro W hSw; have := slc W; go_simp⟩) hHeld ?_
  try simp only [Act.put, List.setIfInBounds_toArray, List.set_cons_zero, List.set_cons_succ]
  refine wpAnyH_take (i := 3) (oi := { dst := some 15, op := Op.move (Operand.tmp 0), type := 24, pos := "check.go:149", after := #[{ on := 7, ground := Ground.gcOnly Departure.lateStores }], guard := none }) (v := .slice (some ⟨g, o, none⟩) (m + 1) cap) rfl (by kernel_rfl) (by kernel_rfl) (by kernel_rfl) (fun _ _ _ h => h) (Or.inl ⟨by rfl, by intro W hSw; go_simp⟩) hHeld ?_
  try simp only [Act.put, List.setIfInBounds_toArray, List.set_cons_zero, List.set_cons_succ]
  refine wpAnyH_take (i := 4) (oi := { dst := some 16, op := Op.move (Operand.tmp 4), type := 3, pos := "check.go:149", after := #[{ on := 7, ground := Ground.gcOnly Departure.lateStores }], guard := none }) (v := .int .i64 (m : Int)) rfl (by kernel_rfl) (by kernel_rfl) (by kernel_rfl) (fun _ _ _ h => h) (Or.inl ⟨by rfl, by intro W hSw; go_simp⟩) hHeld ?_
  try simp only [Act.put, List.setIfInBounds_toArray, List.set_cons_zero, List.set_cons_succ]
  refine wpAnyH_take (i := 5) (oi := { dst := some 17, op := Op.indexAddr 24 (Operand.tmp 15) (Operand.tmp 16), type := 0, pos := "check.go:149", after := #[{ on := 3, ground := Ground.data }, { on := 4, ground := Ground.data }, { on := 7, ground := Ground.gcOnly Departure.lateStores }], guard := none }) (v := .pointer (some ⟨g, o + 32 * m, none⟩)) rfl (by kernel_rfl) (by kernel_rfl) (by kernel_rfl) (fun _ _ _ h => h) (Or.inl ⟨by rfl, by intro W hSw; have := idx W; go_simp⟩) hHeld ?_
  try simp only [Act.put, List.setIfInBounds_toArray, List.set_cons_zero, List.set_cons_succ]
  refine wpAnyH_take (i := 6) (oi := { dst := some 18, op := Op.load 23 (Operand.tmp 17), type := 23, pos := "check.go:149", after := #[{ on := 5, ground := Ground.data }, { on := 7, ground := Ground.gcOnly Departure.lateStores }], guard := none }) (v := .agg D) rfl (by kernel_rfl) (by kernel_rfl) (by kernel_rfl) (fun _ _ _ h => h) (yieldsIf_mid (by rfl) 23 (.tmp 17) rfl g (o + 32 * m) rfl D _ (fun _ h => h) Tryd.underlying23 rfl HSD.out) hHeld ?_
  try simp only [Act.put, List.setIfInBounds_toArray, List.set_cons_zero, List.set_cons_succ]
  refine wpAnyH_take (i := 7) (oi := { dst := some 2, op := Op.assign (Operand.tmp 14), type := 24, pos := "check.go:149", after := #[{ on := 2, ground := Ground.data }, { on := 0, ground := Ground.phase }, { on := 1, ground := Ground.phase }, { on := 2, ground := Ground.phase }, { on := 3, ground := Ground.textOnly Departure.lateStores }, { on := 4, ground := Ground.textOnly Departure.lateStores }, { on := 5, ground := Ground.textOnly Departure.lateStores }, { on := 6, ground := Ground.textOnly Departure.lateStores }], guard := none }) (v := .slice (some ⟨g, o, none⟩) m cap) rfl (by kernel_rfl) (by kernel_rfl) (by kernel_rfl) (fun _ _ _ h => h) (Or.inl ⟨by rfl, by intro W hSw; go_simp⟩) hHeld ?_
  try simp only [Act.put, List.setIfInBounds_toArray, List.set_cons_zero, List.set_cons_succ]
  refine wpAnyH_ready (rs := [8]) (by kernel_rfl) (by simp) ?_
  refine (AllReadyH.cons (o := { dst := none, op := Op.store 23 (Operand.tmp 3) (Operand.tmp 18), type := 0, pos := "check.go:149", after := #[{ on := 6, ground := Ground.data }, { on := 7, ground := Ground.chain }, { on := 0, ground := Ground.phase }, { on := 1, ground := Ground.phase }, { on := 2, ground := Ground.phase }, { on := 3, ground := Ground.phase }, { on := 4, ground := Ground.phase }, { on := 5, ground := Ground.phase }, { on := 6, ground := Ground.phase }, { on := 7, ground := Ground.phase }], guard := none }) rfl (fun K hK => ?_) AllReadyH.nil)
  refine step_store_row (by rfl) 23 (.tmp 3) (.tmp 18) rfl w.heap.size D rfl rfl 23 Z HW0.out.2 HSD.out HZD.out H1D.out ?_
  refine hK.out _ _ (range_other hHeld (by omega)) (fun hHeld => ?_)
  clear hK K
  try simp only [Act.put, List.setIfInBounds_toArray, List.set_cons_zero, List.set_cons_succ]
  refine wpAnyH_done (by kernel_rfl) ?_ _
  go_wp2
  refine bodyPost_ret (v := .tuple #[.slice (some ⟨g, o, none⟩) m cap, .agg D]) ?_ rfl ⟨rfl, below_setRow HW0.out.1 (Nat.le_refl _) _⟩
  exact results_tmp_row (p := 3) (q := 2) (ty := 23) rfl _ _ w.heap.size 23 D (0, 0) _ rfl (setRow_heap _ _ _ _ 23 _ HW0.out.2) Tryd.underlying23 rfl HSD.out

/-! A knot's sum, and its text. -/
set_option maxHeartbeats 1000000 in
theorem sum_any (l r : List UInt8) (hl : l.length = 32) (hr : r.length = 32) (w : World) (hK : Table 0 w) (KK : Array Value) (HKK : Hid (KK = (cellsOf (l ++ r)).toArray)) (D : Array Value) (HD : Hid (D = (cellsOf (knotD l r)).toArray)) :
    Calls Tryd.prog 46 #[.agg KK] w fun e w' => e = .returned (.agg D) ∧ Below w.heap.size w w' := by
  obtain ⟨Z, HZ, HA, HS, H1, H32⟩ := noughts27
  obtain ⟨L, HL, HSL, H1L, H32L⟩ := dig_row' l hl
  obtain ⟨R, HR, HSR, H1R, H32R⟩ := dig_row' r hr
  have HSD : Hid ((Tryd.prog.info? 23).map (·.size) = some D.size) := by show _ = _; rw [size23, HD.out]; simp [cellsOf_length, knotD, sumD_length]
  have H1D : Hid (D.all (·.oneCell') = true) := by show _ = _; rw [HD.out]; exact cellsOf_all _
  have HZD : Hid (Z.size = D.size) := by show _ = _; rw [H32.out, HD.out]; simp [cellsOf_length, knotD, sumD_length]
  have HW0 : Hid (((w.alloc (.cells KK 57)).alloc (.cells Z 23)).rangeAt w.heap.size 0 L.toList ∧ ((w.alloc (.cells KK 57)).alloc (.cells Z 23)).rangeAt w.heap.size 32 R.toList ∧ Below w.heap.size w ((w.alloc (.cells KK 57)).alloc (.cells Z 23)) ∧ ((w.alloc (.cells KK 57)).alloc (.cells Z 23)).heap[w.heap.size + 1]? = some (.cells Z 23 (0, 0))) := by
    have h : ((w.alloc (.cells KK 57)).alloc (.cells Z 23)).heap[w.heap.size]? = some (.cells KK 57 (0, 0)) := heap_keep (heap_alloc_new w _)
    rw [HKK.out] at h
    have h2 := range_knot hl h
    rw [HL.out, HR.out]
    exact ⟨by rw [HKK.out]; exact h2.1, by rw [HKK.out]; exact h2.2, ((Below.refl _ _).alloc (Nat.le_refl _) _).alloc (by simp) _, by have := heap_alloc_new (w.alloc (.cells KK 57)) (.cells Z 23); simpa using this⟩
  have KN : Hid (∀ W, Below w.heap.size w W → Calls Tryd.prog 25 #[.agg L, .agg R] W fun e w' => e = .returned (.agg D) ∧ Below W.heap.size W w') := fun W hb => by
    rw [HL.out, HR.out]
    exact knot_any l r hl hr W (hK.keep hb) D HD
  clear hK HKK HD
  go_enter Tryd.func46, Tryd.ntmps46
  go_wp2_with (first
    | (refine wpList_alloc_row rfl 23 rfl Z HA.out ?_)
    | (refine wpList_mid rfl 23 (.tmp 3) rfl w.heap.size 0 rfl L _ HW0.out.1 Tryd.underlying23 rfl HSL.out ?_)
    | (refine wpList_mid rfl 23 (.tmp 5) rfl w.heap.size 32 rfl R _ HW0.out.2.1 Tryd.underlying23 rfl HSR.out ?_)
    | fail)
  refine (KN.out _ HW0.out.2.2.1).mono ?_
  rintro e w1 ⟨rfl, hb1⟩
  have HG : Hid (w1.heap[w.heap.size + 1]? = some (.cells Z 23 (0, 0))) := (hb1.block _ (heap_lt HW0.out.2.2.2)).trans HW0.out.2.2.2
  have hB : Below w.heap.size w w1 := HW0.out.2.2.1.trans (hb1.mono HW0.out.2.2.1.size)
  clear hb1 HW0
  go_wp2_with (first
    | (refine wpList_store_row rfl 23 (.tmp 2) (.tmp 7) rfl (w.heap.size + 1) D rfl rfl 23 Z HG.out HSD.out HZD.out H1D.out ?_)
    | fail)
  refine bodyPost_ret (v := .agg D) ?_ rfl ⟨rfl, below_setRow hB (by simp) _⟩
  exact results_cell_row (p := 2) (ty := 23) rfl _ _ (w.heap.size + 1) 23 D (0, 0) _ rfl (setRow_heap _ _ _ _ 23 _ HG.out) Tryd.underlying23 rfl HSD.out
theorem slice_at (w : World) (g o : Nat) : (Instr.sliceAt 23 (.pointer (some ⟨g, o, none⟩)) none none none).run Tryd.prog w = .ok (.slice (some ⟨g, o, none⟩) 32 32) w := by
  simp [Instr.sliceAt, Instr.slice, Instr.sliceBounds, run_underlying Tryd.underlying23, Instr.sureAddr]
  rw [add_plain]
  simp
theorem conv_at (W : World) (g o : Nat) (l : List UInt8) (hl : l.length = 32) (h : W.rangeAt g o (cellsOf l)) : Sem.run Tryd.prog (convert 68 9 (.slice (some ⟨g, o, none⟩) 32 32)) W = .ok (.string ⟨l.toArray⟩) W := by
  have := run_convert_bytes_back (P := Tryd.prog) W 68 9 5 ⟨g, o, none⟩ 32 l Tryd.underlying68 Tryd.underlying5 Tryd.underlying9 (fun j hj => by
    rw [add_plain]
    exact h j _ (cellsOf_at l j hj))
  rw [hl] at this
  exact this
set_option maxHeartbeats 1000000 in
theorem text_any (k : List UInt8) (hk : k.length = 64) (w : World) (KK : Array Value) (HKK : Hid (KK = (cellsOf k).toArray)) (s : ByteArray) (Hs : Hid (s = ⟨(1 :: k).toArray⟩)) :
    Calls Tryd.prog 33 #[.agg KK] w fun e w' => e = .returned (.string s) ∧ Below w.heap.size w w' := by
  obtain ⟨l, r, hl, hr, rfl⟩ : ∃ l r, l.length = 32 ∧ r.length = 32 ∧ k = l ++ r := ⟨k.take 32, k.drop 32, by simp; omega, by simp; omega, (List.take_append_drop 32 k).symm⟩
  obtain ⟨x, HX⟩ : ∃ x : ByteArray, Hid (x = ⟨l.toArray⟩) := ⟨_, (rfl : (⟨l.toArray⟩ : ByteArray) = _)⟩
  obtain ⟨y, HY⟩ : ∃ y : ByteArray, Hid (y = ⟨r.toArray⟩) := ⟨_, (rfl : (⟨r.toArray⟩ : ByteArray) = _)⟩
  have HW0 : Hid ((w.alloc (.cells KK 57)).drew.rangeAt w.heap.size 0 (cellsOf l) ∧ (w.alloc (.cells KK 57)).drew.rangeAt w.heap.size 32 (cellsOf r) ∧ Below w.heap.size w (w.alloc (.cells KK 57)).drew) := by
    have h : (w.alloc (.cells KK 57)).drew.heap[w.heap.size]? = some (.cells KK 57 (0, 0)) := heap_alloc_new w _
    rw [HKK.out] at h
    have h2 := range_knot hl h
    exact ⟨by rw [HKK.out]; exact h2.1, by rw [HKK.out]; exact h2.2, ((Below.refl _ _).alloc (Nat.le_refl _) _).drew⟩
  have c0 : ∀ W, W.rangeAt w.heap.size 0 (cellsOf l) → Sem.run Tryd.prog (convert 68 9 (.slice (some ⟨w.heap.size, 0, none⟩) 32 32)) W = .ok (.string x) W := fun W h => by
    rw [HX.out]; exact conv_at W _ 0 l hl h
  have c1 : ∀ W, W.rangeAt w.heap.size 32 (cellsOf r) → Sem.run Tryd.prog (convert 68 9 (.slice (some ⟨w.heap.size, 32, none⟩) 32 32)) W = .ok (.string y) W := fun W h => by
    rw [HY.out]; exact conv_at W _ 32 r hr h
  have s0 := fun W => slice_at W w.heap.size 0
  have s1 := fun W => slice_at W w.heap.size 32
  have hx : x.size = 32 := by rw [HX.out]; show l.toArray.size = 32; simpa using hl
  have hy : y.size = 32 := by rw [HY.out]; show r.toArray.size = 32; simpa using hr
  have Hfin : Hid ((⟨#[1]⟩ : ByteArray) ++ x ++ y = s) := by
    show _ = _
    rw [Hs.out, HX.out, HY.out]
    apply ByteArray.ext
    simp
  clear HKK Hs HX HY
  go_enter Tryd.func33, Tryd.ntmps33
  go_wp2
  refine wp_region_held_drew (S := (fun W => W.rangeAt w.heap.size 0 (cellsOf l) ∧ W.rangeAt w.heap.size 32 (cellsOf r))) (by kernel_rfl) ⟨HW0.out.1, HW0.out.2.1⟩ (fun hHeld => ?_)
  refine wpAnyH_take (i := 0) (oi := { dst := some 3, op := Op.fieldAddr 57 (Operand.tmp 1) 0, type := 0, pos := "check.go:86", after := #[], guard := none }) (v := .pointer (some ⟨w.heap.size, 0, none⟩)) rfl (by kernel_rfl) (by kernel_rfl) (by kernel_rfl) (fun _ _ _ h => h) (Or.inl ⟨by rfl, by intro W hSw; go_simp⟩) hHeld ?_
  try simp only [Act.put, List.setIfInBounds_toArray, List.set_cons_zero, List.set_cons_succ]
  refine wpAnyH_take (i := 1) (oi := { dst := some 4, op := Op.slice 23 (Operand.tmp 3) none none none, type := 68, pos := "check.go:86", after := #[{ on := 0, ground := Ground.data }], guard := none }) (v := .slice (some ⟨w.heap.size, 0, none⟩) 32 32) rfl (by kernel_rfl) (by kernel_rfl) (by kernel_rfl) (fun _ _ _ h => h) (Or.inl ⟨by rfl, by intro W hSw; have := s0 W; go_simp⟩) hHeld ?_
  try simp only [Act.put, List.setIfInBounds_toArray, List.set_cons_zero, List.set_cons_succ]
  refine wpAnyH_take (i := 2) (oi := { dst := some 5, op := Op.convert 68 9 (Operand.tmp 4), type := 9, pos := "check.go:86", after := #[{ on := 1, ground := Ground.data }], guard := none }) (v := .string x) rfl (by kernel_rfl) (by kernel_rfl) (by kernel_rfl) (fun _ _ _ h => h) (Or.inl ⟨by rfl, by intro W hSw; have := c0 W hSw.1; go_simp⟩) hHeld ?_
  try simp only [Act.put, List.setIfInBounds_toArray, List.set_cons_zero, List.set_cons_succ]
  refine wpAnyH_take (i := 3) (oi := { dst := some 6, op := Op.binOp BinOp.add 9 (Operand.const (Value.string { data := #[1] })) (Operand.tmp 5) 9, type := 9, pos := "check.go:86", after := #[{ on := 2, ground := Ground.data }], guard := none }) (v := .string (⟨#[1]⟩ ++ x)) rfl (by kernel_rfl) (by kernel_rfl) (by kernel_rfl) (fun _ _ _ h => h) (Or.inl ⟨by rfl, by intro W hSw; go_simp⟩) hHeld ?_
  try simp only [Act.put, List.setIfInBounds_toArray, List.set_cons_zero, List.set_cons_succ]
  refine wpAnyH_take (i := 4) (oi := { dst := some 7, op := Op.fieldAddr 57 (Operand.tmp 1) 1, type := 0, pos := "check.go:86", after := #[], guard := none }) (v := .pointer (some ⟨w.heap.size, 32, none⟩)) rfl (by kernel_rfl) (by kernel_rfl) (by kernel_rfl) (fun _ _ _ h => h) (Or.inl ⟨by rfl, by intro W hSw; go_simp⟩) hHeld ?_
  try simp only [Act.put, List.setIfInBounds_toArray, List.set_cons_zero, List.set_cons_succ]
  refine wpAnyH_take (i := 5) (oi := { dst := some 8, op := Op.slice 23 (Operand.tmp 7) none none none, type := 68, pos := "check.go:86", after := #[{ on := 4, ground := Ground.data }], guard := none }) (v := .slice (some ⟨w.heap.size, 32, none⟩) 32 32) rfl (by kernel_rfl) (by kernel_rfl) (by kernel_rfl) (fun _ _ _ h => h) (Or.inl ⟨by rfl, by intro W hSw; have := s1 W; go_simp⟩) hHeld ?_
  try simp only [Act.put, List.setIfInBounds_toArray, List.set_cons_zero, List.set_cons_succ]
  refine wpAnyH_take (i := 6) (oi := { dst := some 9, op := Op.convert 68 9 (Operand.tmp 8), type := 9, pos := "check.go:86", after := #[{ on := 5, ground := Ground.data }], guard := none }) (v := .string y) rfl (by kernel_rfl) (by kernel_rfl) (by kernel_rfl) (fun _ _ _ h => h) (Or.inl ⟨by rfl, by intro W hSw; have := c1 W hSw.2; go_simp⟩) hHeld ?_
  try simp only [Act.put, List.setIfInBounds_toArray, List.set_cons_zero, List.set_cons_succ]
  refine wpAnyH_take (i := 7) (oi := { dst := some 10, op := Op.binOp BinOp.add 9 (Operand.tmp 6) (Operand.tmp 9) 9, type := 9, pos := "check.go:86", after := #[{ on := 3, ground := Ground.data }, { on := 6, ground := Ground.data }], guard := none }) (v := .string (⟨#[1]⟩ ++ x ++ y)) rfl (by kernel_rfl) (by kernel_rfl) (by kernel_rfl) (fun _ _ _ h => h) (Or.inl ⟨by rfl, by intro W hSw; go_simp⟩) hHeld ?_
  try simp only [Act.put, List.setIfInBounds_toArray, List.set_cons_zero, List.set_cons_succ]
  refine wpAnyH_take (i := 8) (oi := { dst := some 2, op := Op.assign (Operand.tmp 10), type := 9, pos := "check.go:86", after := #[{ on := 7, ground := Ground.data }, { on := 0, ground := Ground.phase }, { on := 1, ground := Ground.phase }, { on := 2, ground := Ground.phase }, { on := 3, ground := Ground.phase }, { on := 4, ground := Ground.phase }, { on := 5, ground := Ground.phase }, { on := 6, ground := Ground.phase }, { on := 7, ground := Ground.phase }], guard := none }) (v := .string (⟨#[1]⟩ ++ x ++ y)) rfl (by kernel_rfl) (by kernel_rfl) (by kernel_rfl) (fun _ _ _ h => h) (Or.inl ⟨by rfl, by intro W hSw; go_simp⟩) hHeld ?_
  try simp only [Act.put, List.setIfInBounds_toArray, List.set_cons_zero, List.set_cons_succ]
  refine wpAnyH_done (by kernel_rfl) ?_ _
  go_wp2
  go_ret
  rw [Hfin.out]
  exact ⟨rfl, HW0.out.2.2⟩
end Go.Proofs.YtehfoeedlchphaaDoor
