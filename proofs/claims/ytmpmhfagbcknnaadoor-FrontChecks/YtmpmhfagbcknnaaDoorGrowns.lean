/- A front's peaks are laid into memory of one's own. -/
import Derived.Test.YtmpmhfagbcknnaaDoorTakes
import Derived.Laws.MakeOwn
import Derived.Laws.CopyRow
namespace Go.Proofs.YtmpmhfagbcknnaaDoor
open Go.RowKit Sums
set_option linter.unusedVariables false
set_option linter.unusedSimpArgs false

theorem wpList_make_run {P : Program} {ops : Array Oper} {rest : List Oper} {o : Oper} {a : Act} {w : World} {Q : Exit → Act → World → Prop} (hg : o.guard = none) (l c : Operand) (t : TypeId) (hop : o.op = Op.makeSlice t l c)
    (vl vc v' : Value) (w' : World) (hl : a.eval l = vl) (hc : a.eval c = vc) (hrun : (Instr.makeSlice t vl vc).run P w = .ok v' w') (h : wpList P ops Q rest (a.put o.dst v') w') : wpList P ops Q (o :: rest) a w := by
  refine wpList_plain hg fun K hK => ?_
  unfold Oper.wp
  simp [execOp, hop, hl, hc, hrun, Result.andThen]
  exact hK _ _ h
theorem wpList_copy_run {P : Program} {ops : Array Oper} {rest : List Oper} {o : Oper} {a : Act} {w : World} {Q : Exit → Act → World → Prop} (hg : o.guard = none) (s x : Operand) (t u : TypeId) (hop : o.op = Op.call { callee := Callee.builtin Builtin.copy, args := #[s, x], argTypes := #[t, u] })
    (vs vx v' : Value) (w' : World) (hs : a.eval s = vs) (hx : a.eval x = vx) (hrun : (Builtin.copy_ #[t, u] o.type #[vs, vx]).run P w = .ok v' w') (h : wpList P ops Q rest (a.put o.dst v') w') : wpList P ops Q (o :: rest) a w := by
  refine wpList_plain hg fun K hK => ?_
  unfold Oper.wp
  simp [execOp, hop, resolve, invoke, builtin, hs, hx, hrun, Result.andThen]
  exact hK _ _ h

theorem run_copy_digs (w : World) (ty : TypeId) (g n dCap sCap : Nat) (a : Addr) (cur : Array Value) (cs : List Value) (hg : w.heap[g]? = some (.cells cur 29 (0, 0))) (hn : cs.length = n * 32)
    (hsrc : ∀ j v, cs[j]? = some v → w.cell? (a.add j) = some v) (hfit : cs.length ≤ cur.size) (h1 : ∀ v ∈ cs, v.oneCell' = true) :
    (Builtin.copy_ #[22, 22] ty #[.slice (some ⟨g, 0, none⟩) n dCap, .slice (some a) n sCap]).run Tryd.prog w = .ok (goInt n) (w.setRow g (cs ++ cur.toList.drop cs.length).toArray) := by
  have hl := run_loadCells_list (P := Tryd.prog) w a cs hsrc
  have hst := run_storeCells_at Tryd.prog g 0 29 cs 0 cur w hg (by simpa using hfit) h1
  simp only [Nat.zero_add, List.take_zero, List.nil_append] at hst
  rw [hn] at hl
  simp [Builtin.copy_, run_underlying Tryd.underlying22, Builtin.lenOf, Builtin.firstCells, sizeOfD, hl, hst]
theorem run_copy_empty (w : World) (ty : TypeId) (g dCap sCap : Nat) (a : Option Addr) :
    (Builtin.copy_ #[22, 22] ty #[.slice (some ⟨g, 0, none⟩) 0 dCap, .slice a 0 sCap]).run Tryd.prog w = .ok (goInt 0) w := by
  have hl : ∀ (x : Addr), (loadCells x 0).run Tryd.prog w = .ok #[] w := fun x => by simpa using run_loadCells_list (P := Tryd.prog) w x [] (by simp)
  cases a <;> simp [Builtin.copy_, run_underlying Tryd.underlying22, Builtin.lenOf, Builtin.firstCells, sizeOfD, storeCells, hl]

/-- Room for one more is made, and the peaks are laid there. -/
theorem run_laid (W : World) (B : Nat) (a : Option Addr) (len cap : Nat) (ps : List (List UInt8)) (hR : LReads W a len cap ps) (hl : len ≤ 100000) (hB : B ≤ W.heap.size) (ty : TypeId) :
    ∃ w1 w2, (Instr.makeSlice 22 (.int .i64 len) (.int .i64 ((len : Int) + 1))).run Tryd.prog W = .ok (.slice (some ⟨W.heap.size, 0, none⟩) len (len + 1)) w1 ∧ Below W.heap.size W w1 ∧
      (Builtin.copy_ #[22, 22] ty #[.slice (some ⟨W.heap.size, 0, none⟩) len (len + 1), .slice a len cap]).run Tryd.prog w1 = .ok (goInt len) w2 ∧
      w2.ownsRow B 29 32 (.slice (some ⟨W.heap.size, 0, none⟩) len (len + 1)) ps.length (cellsOf ps.flatten) ∧ Below W.heap.size W w2 := by
  obtain ⟨i0, hi, hz0, hz1, hz2⟩ := info_parts infoD
  have hlen := hR.1
  have hfl := flat_length hR.2.1
  have hr := run_makeSlice (P := Tryd.prog) W 22 29 i0 _ Tryd.underlying22 hi hz0 .i64 .i64 len ((len : Int) + 1) (by omega) (by omega) (by rw [hz1]; omega) (by rw [hz2]; omega) (by omega)
  rw [Int.toNat_natCast, show ((len : Int) + 1).toNat = len + 1 by omega, hz1] at hr
  obtain ⟨cur, hcur⟩ : ∃ cur, cur = madeCells (Value.agg (cellsOf (List.replicate 32 0)).toArray).cells ((len + 1) * 32) := ⟨_, rfl⟩
  have hcs : cur.size = (len + 1) * 32 := by rw [hcur]; exact size_madeCells _ _
  rw [← hcur] at hr
  have hb : Below W.heap.size W (W.alloc (.cells cur 29)) := (Below.refl _ _).alloc (Nat.le_refl _) _
  have hgn := heap_alloc_new W (.cells cur 29)
  by_cases h0 : len = 0
  · have hps : ps = [] := List.eq_nil_of_length_eq_zero (by omega)
    subst hps h0
    refine ⟨_, _, hr, hb, run_copy_empty _ ty _ _ _ _, ⟨by simp [cellsOf], .inr ⟨_, 1, cur, rfl, hB, hgn, by simp, by unfold maxLen; omega, hcs, by simp [cellsOf]⟩⟩, hb⟩
  · obtain ⟨g, o, rfl, hg⟩ := hR.at (by omega)
    have hsrc : ∀ j v, (cellsOf ps.flatten)[j]? = some v → (W.alloc (.cells cur 29)).cell? ((⟨g, o, none⟩ : Addr).add j) = some v := by
      intro j u hj
      rw [add_plain]
      obtain ⟨h1, h2, h3, h4, h5⟩ := hR.keep hb
      rcases h5 with h5 | ⟨g', o', e, hly⟩
      · omega
      · cases e
        have hjl : j < ps.flatten.length := by
          have := (List.getElem?_eq_some_iff.1 hj).1
          rwa [cellsOf_length] at this
        rw [hly j hjl]
        rw [cellsOf_at _ j hjl] at hj
        exact hj
    have hc := run_copy_digs (W.alloc (.cells cur 29)) ty W.heap.size len (len + 1) cap ⟨g, o, none⟩ cur (cellsOf ps.flatten) hgn (by rw [cellsOf_length]; omega) hsrc (by rw [cellsOf_length]; omega) (cellsOf_one _)
    refine ⟨_, _, hr, hb, hc, ⟨by rw [cellsOf_length]; omega, .inr ⟨_, len + 1, _, by rw [hlen], hB, setRow_heap _ _ _ _ 29 _ hgn, by omega, by unfold maxLen; omega, ?_, ?_⟩⟩, below_setRow hb (Nat.le_refl _) _⟩
    · simp only [List.size_toArray, List.length_append, List.length_drop, Array.length_toList, cellsOf_length, hcs]
      omega
    · simp only [List.toList_toArray]
      rw [List.take_left' (by rw [cellsOf_length]; omega)]

theorem sizeG : (Tryd.prog.info? 50).map (·.size) = some 2 := by kernel_rfl
theorem sizeF : (Tryd.prog.info? 25).map (·.size) = some 2 := by kernel_rfl

set_option maxHeartbeats 2000000 in
theorem grown_any (n : Int) (a : Option Addr) (len cap : Nat) (ps : List (List UInt8)) (w : World) (hR : LReads w a len cap ps) (hl : len ≤ 100000) :
    Calls Tryd.prog 26 #[.agg #[.int .i64 n, .slice a len cap]] w fun e w' => ∃ g, e = .returned (.agg #[.int .i64 n, .slice (some ⟨g, 0, none⟩) len (len + 1)]) ∧ w'.ownsRow w.heap.size 29 32 (.slice (some ⟨g, 0, none⟩) len (len + 1)) ps.length (cellsOf ps.flatten) ∧ Below w.heap.size w w' := by
  obtain ⟨W, hW⟩ : ∃ W, W = ((w.alloc (.cells #[.int .i64 n, .slice a len cap] 25)).alloc (.cells #[.int .i64 0, .slice none 0 0] 50)) := ⟨_, rfl⟩
  have hb0 : Below w.heap.size w W := by rw [hW]; exact (((Below.refl _ _).alloc (Nat.le_refl _) _).alloc (by simp) _)
  have hT : Two W w.heap.size (.int .i64 n) (.slice a len cap) := by rw [hW]; exact (two_new w _ _ 25).keep ((Below.refl _ _).alloc (Nat.le_refl _) _)
  have hV : W.heap[w.heap.size + 1]? = some (.cells #[.int .i64 0, .slice none 0 0] 50 (0, 0)) := by
    rw [hW]
    have := heap_alloc_new (w.alloc (.cells #[.int .i64 n, .slice a len cap] 25)) (.cells #[.int .i64 0, .slice none 0 0] 50)
    simpa using this
  have hs : W.heap.size = w.heap.size + 2 := by rw [hW]; simp
  obtain ⟨w1, w2, hmk, hb1, hcp, hown, hb2⟩ := run_laid W w.heap.size a len cap ps (hR.keep hb0) hl (by omega) 3
  have HMK := hidk hmk
  have HCP := hidk hcp
  have hcA : w1.cell? ⟨w.heap.size, 1, none⟩ = some (.slice a len cap) := (hT.keep hb1).2
  have hcB : w2.cell? ⟨w.heap.size, 0, none⟩ = some (.int .i64 n) := (hT.keep hb2).1
  have HV : Hid (w2.heap[w.heap.size + 1]? = some (.cells #[.int .i64 0, .slice none 0 0] 50 (0, 0))) := (hb2.block _ (heap_lt hV)).trans hV
  have HB : Hid (Below w.heap.size w (w2.setRow (w.heap.size + 1) #[.int .i64 n, .slice (some ⟨W.heap.size, 0, none⟩) len (len + 1)])) := below_setRow (hb0.trans (hb2.mono (by omega))) (by omega) _
  have HO : Hid ((w2.setRow (w.heap.size + 1) #[.int .i64 n, .slice (some ⟨W.heap.size, 0, none⟩) len (len + 1)]).ownsRow w.heap.size 29 32 (.slice (some ⟨W.heap.size, 0, none⟩) len (len + 1)) ps.length (cellsOf ps.flatten)) := by
    rcases hown.2 with ⟨e, _⟩ | ⟨g, cp, cur, e, h1, h2, h3⟩
    · cases e
    · cases e
      exact ⟨hown.1, .inr ⟨_, _, cur, rfl, h1, by rw [setRow_other _ _ _ _ (by omega)]; exact h2, h3⟩⟩
  obtain ⟨R, HRR⟩ : ∃ R : Array Value, Hid (R = #[.int .i64 n, .slice (some ⟨W.heap.size, 0, none⟩) len (len + 1)]) := ⟨_, (rfl : _ = _)⟩
  have HS : Hid ((Tryd.prog.info? 50).map (·.size) = some R.size) := by show _ = _; rw [HRR.out, sizeG]; rfl
  have H2 : Hid ((#[.int .i64 0, .slice none 0 0] : Array Value).size = R.size) := by show _ = _; rw [HRR.out]; rfl
  have H1 : Hid (R.all (·.oneCell') = true) := by show _ = _; rw [HRR.out]; simp [Value.oneCell']
  rw [← HRR.out] at HB HO
  have w0 := wrap_int ((len : Int) + 1) (by omega) (by omega)
  generalize W.heap.size = gw at *
  have HRE : Hid (Value.agg #[.int .i64 n, .slice (some ⟨gw, 0, none⟩) len (len + 1)] = .agg R) := by show _ = _; rw [HRR.out]
  clear hR hT hV hs hmk hb1 hcp hown hb2 hb0
  subst hW
  go_enter Tryd.func26, Tryd.ntmps26
  go_wp2_with (first
    | (refine wpList_make_run rfl (.tmp 6) (.tmp 10) 22 rfl _ _ _ w1 rfl rfl HMK.out ?_; try simp only [Act.put, List.setIfInBounds_toArray, List.set_cons_zero, List.set_cons_succ])
    | (refine wpList_copy_run rfl (.tmp 12) (.tmp 14) 22 22 rfl _ _ _ w2 rfl rfl HCP.out ?_; try simp only [Act.put, List.setIfInBounds_toArray, List.set_cons_zero, List.set_cons_succ])
    | (refine wpList_store_row rfl 50 (.tmp 2) (.tmp 20) rfl (w.heap.size + 1) R rfl HRE.out 50 #[.int .i64 0, .slice none 0 0] HV.out HS.out H2.out H1.out ?_; try simp only [Act.put, List.setIfInBounds_toArray, List.set_cons_zero, List.set_cons_succ])
    | fail)
  refine bodyPost_ret (v := .agg R) ?_ rfl ⟨gw, by rw [HRR.out], HO.out, HB.out⟩
  exact results_cell_row (p := 2) (ty := 50) rfl _ _ (w.heap.size + 1) 50 R (0, 0) _ rfl (setRow_heap _ _ _ _ 50 _ HV.out) Tryd.underlying50 rfl HS.out
end Go.Proofs.YtmpmhfagbcknnaaDoor
