/- What the statements' Digests answers. -/
import Derived.Test.YtmpmhfagbcknnaaDoorGrown
namespace Go.Proofs.YtmpmhfagbcknnaaDoor
open Go.RowKit Sums
set_option linter.unusedVariables false
set_option linter.unusedSimpArgs false

/-- An append whose run is known, in a plain region. -/
theorem wpList_append_run {P : Program} {ops : Array Oper} {rest : List Oper} {o : Oper} {a : Act} {w : World} {Q : Exit → Act → World → Prop}
    (hg : o.guard = none) (s x : Operand) (t u : TypeId) (hop : o.op = Op.call { callee := Callee.builtin Builtin.append, args := #[s, x], argTypes := #[t, u] })
    (vs vx v' : Value) (w' : World) (hs : a.eval s = vs) (hx : a.eval x = vx) (hrun : (Builtin.append_ #[t, u] o.type #[vs, vx]).run P w = .ok v' w')
    (h : wpList P ops Q rest (a.put o.dst v') w') : wpList P ops Q (o :: rest) a w := by
  refine wpList_plain hg fun K hK => ?_
  unfold Oper.wp
  simp [execOp, hop, resolve, invoke, builtin, hs, hx, hrun, Result.andThen]
  exact hK _ _ h
theorem neqSelf (D : Array Value) (l : List UInt8) (hl : l.length = 32) (HD : Hid (D = (cellsOf l).toArray)) (w : World) : (binOp .neq 29 (.agg D) (.agg D)).run Tryd.prog w = .ok (.bool false) w := by
  have h : (Op.equalIn (9998 + 2) 29 (.agg (cellsOf l).toArray) (.agg (cellsOf l).toArray)).run Tryd.prog w = .ok (l == l) w := run_equalIn_bytes (P := Tryd.prog) w 9998 29 5 32 Tryd.underlying29 Tryd.underlying5 sizeOf5 l l hl hl
  rw [run_neq_struct, HD.out]
  simp only [Nat.reduceAdd] at h
  rw [h]
  simp

set_option maxHeartbeats 1000000 in
theorem same_digs (a1 a2 : Option Addr) (len c1 c2 : Nat) (l : List (List UInt8)) (w : World) (h1 : LReads w a1 len c1 l) (h2 : LReads w a2 len c2 l) :
    Calls Tryd.prog 14 #[.slice a1 len c1, .slice a2 len c2] w fun e w' => e = .returned (.bool true) ∧ Below w.heap.size w w' := by
  have hlen := h1.1
  have hmx : len ≤ 9223372036854775807 := by have := h1.2.2.2.1; unfold maxLen at this; omega
  have H1 : Hid (LReads w a1 len c1 l) := h1
  have H2 : Hid (LReads w a2 len c2 l) := h2
  clear h1 h2
  have hdn : (!((len : Int) == (len : Int))) = false := by simp
  go_enter Tryd.func14, Tryd.ntmps14
  go_wp2
  go_loopw [5] (fun v wr => ∃ i : Nat, i ≤ len ∧ v = .int .i64 i ∧ Below w.heap.size w wr) (fun v _ => len - (intOf v).toNat)
  case atStart => exact ⟨0, by omega, rfl, Below.refl _ _⟩
  case round =>
    obtain ⟨i, hi, rfl, hB⟩ := hrel
    by_cases hlt : i < len
    · have hdi : decide ((i : Int) < (len : Int)) = true := by rw [decide_eq_true_eq]; omega
      have hw := wrap_int ((i : Int) + 1) (by omega) (by omega)
      obtain ⟨g1, o1, rfl, hg1⟩ := H1.out.at (by omega)
      obtain ⟨g2, o2, rfl, hg2⟩ := H2.out.at (by omega)
      have hil : i < l.length := by omega
      obtain ⟨A, HA⟩ : ∃ A, Hid (A = cellsOf l[i]) := ⟨_, (rfl : cellsOf l[i] = _)⟩
      have h32 : l[i].length = 32 := H1.out.2.1 _ (List.getElem_mem hil)
      have z0 : (Tryd.prog.info? 29).map (·.size) = some A.length := by rw [size23, HA.out, cellsOf_length, h32]
      have hne := fun W => neqSelf A.toArray l[i] h32 (by show _ = _; rw [HA.out]) W
      have hS : wr.rangeAt g1 (o1 + 32 * i) A ∧ wr.rangeAt g2 (o2 + 32 * i) A := by
        rw [HA.out]
        exact ⟨(H1.out.keep hB).range i hil, (H2.out.keep hB).range i hil⟩
      have ix1 := fun W => index_list W g1 o1 len c1 i .i64 hlt
      have ix2 := fun W => index_list W g2 o2 len c2 i .i64 hlt
      clear HA h32 hil
      go_wp2
      refine wp_region_held_drew (S := (fun W => W.rangeAt g1 (o1 + 32 * i) A ∧ W.rangeAt g2 (o2 + 32 * i) A)) (by kernel_rfl) hS (fun hHeld => ?_)
      refine wpAnyH_take (i := 0) (oi := { dst := some 17, op := Op.move (Operand.tmp 0), type := 22, pos := "keep.go:36", after := #[], guard := none }) (v := .slice (some ⟨g1, o1, none⟩) len c1) rfl (by kernel_rfl) (by kernel_rfl) (by kernel_rfl) (fun _ _ _ h => h) (Or.inl ⟨by rfl, by intro w hSw; go_simp⟩) hHeld ?_
      try simp only [Act.put, List.setIfInBounds_toArray, List.set_cons_zero, List.set_cons_succ]
      refine wpAnyH_take (i := 1) (oi := { dst := some 18, op := Op.move (Operand.tmp 5), type := 3, pos := "keep.go:36", after := #[], guard := none }) (v := .int .i64 i) rfl (by kernel_rfl) (by kernel_rfl) (by kernel_rfl) (fun _ _ _ h => h) (Or.inl ⟨by rfl, by intro w hSw; go_simp⟩) hHeld ?_
      try simp only [Act.put, List.setIfInBounds_toArray, List.set_cons_zero, List.set_cons_succ]
      refine wpAnyH_take (i := 2) (oi := { dst := some 19, op := Op.indexAddr 22 (Operand.tmp 17) (Operand.tmp 18), type := 0, pos := "keep.go:36", after := #[{ on := 0, ground := Ground.data }, { on := 1, ground := Ground.data }], guard := none }) (v := .pointer (some ⟨g1, o1 + 32 * i, none⟩)) rfl (by kernel_rfl) (by kernel_rfl) (by kernel_rfl) (fun _ _ _ h => h) (Or.inl ⟨by rfl, by intro W hSw; have := ix1 W; go_simp⟩) hHeld ?_
      try simp only [Act.put, List.setIfInBounds_toArray, List.set_cons_zero, List.set_cons_succ]
      refine wpAnyH_take (i := 3) (oi := { dst := some 20, op := Op.load 29 (Operand.tmp 19), type := 29, pos := "keep.go:36", after := #[{ on := 2, ground := Ground.data }], guard := none }) (v := .agg A.toArray) rfl (by kernel_rfl) (by kernel_rfl) (by kernel_rfl) (fun _ _ _ h => h) (yieldsIf_load_mid (by rfl) 29 (.tmp 19) rfl _ _ rfl A _ (fun _ h => h.1) Tryd.underlying29 rfl z0) hHeld ?_
      try simp only [Act.put, List.setIfInBounds_toArray, List.set_cons_zero, List.set_cons_succ]
      refine wpAnyH_take (i := 4) (oi := { dst := some 21, op := Op.move (Operand.tmp 1), type := 22, pos := "keep.go:36", after := #[], guard := none }) (v := .slice (some ⟨g2, o2, none⟩) len c2) rfl (by kernel_rfl) (by kernel_rfl) (by kernel_rfl) (fun _ _ _ h => h) (Or.inl ⟨by rfl, by intro w hSw; go_simp⟩) hHeld ?_
      try simp only [Act.put, List.setIfInBounds_toArray, List.set_cons_zero, List.set_cons_succ]
      refine wpAnyH_take (i := 5) (oi := { dst := some 22, op := Op.move (Operand.tmp 5), type := 3, pos := "keep.go:36", after := #[], guard := none }) (v := .int .i64 i) rfl (by kernel_rfl) (by kernel_rfl) (by kernel_rfl) (fun _ _ _ h => h) (Or.inl ⟨by rfl, by intro w hSw; go_simp⟩) hHeld ?_
      try simp only [Act.put, List.setIfInBounds_toArray, List.set_cons_zero, List.set_cons_succ]
      refine wpAnyH_take (i := 6) (oi := { dst := some 23, op := Op.indexAddr 22 (Operand.tmp 21) (Operand.tmp 22), type := 0, pos := "keep.go:36", after := #[{ on := 4, ground := Ground.data }, { on := 5, ground := Ground.data }], guard := none }) (v := .pointer (some ⟨g2, o2 + 32 * i, none⟩)) rfl (by kernel_rfl) (by kernel_rfl) (by kernel_rfl) (fun _ _ _ h => h) (Or.inl ⟨by rfl, by intro W hSw; have := ix2 W; go_simp⟩) hHeld ?_
      try simp only [Act.put, List.setIfInBounds_toArray, List.set_cons_zero, List.set_cons_succ]
      refine wpAnyH_take (i := 7) (oi := { dst := some 24, op := Op.load 29 (Operand.tmp 23), type := 29, pos := "keep.go:36", after := #[{ on := 6, ground := Ground.data }], guard := none }) (v := .agg A.toArray) rfl (by kernel_rfl) (by kernel_rfl) (by kernel_rfl) (fun _ _ _ h => h) (yieldsIf_load_mid (by rfl) 29 (.tmp 23) rfl _ _ rfl A _ (fun _ h => h.2) Tryd.underlying29 rfl z0) hHeld ?_
      try simp only [Act.put, List.setIfInBounds_toArray, List.set_cons_zero, List.set_cons_succ]
      refine wpAnyH_take (i := 8) (oi := { dst := some 25, op := Op.binOp BinOp.neq 29 (Operand.tmp 20) (Operand.tmp 24) 29, type := 4, pos := "keep.go:36", after := #[{ on := 3, ground := Ground.data }, { on := 7, ground := Ground.data }], guard := none }) (v := .bool false) rfl (by kernel_rfl) (by kernel_rfl) (by kernel_rfl) (fun _ _ _ h => h) (Or.inl ⟨by rfl, by intro W hSw; have := hne W; go_simp⟩) hHeld ?_
      try simp only [Act.put, List.setIfInBounds_toArray, List.set_cons_zero, List.set_cons_succ]
      refine wpAnyH_done (by kernel_rfl) ?_ _
      go_wp2
      go_roundw
      case rel => exact ⟨i + 1, by omega, by go_num, hB.drew⟩
      case measure => simp [intOf]; omega
    · obtain rfl : len = i := by omega
      go_wp2
      go_ret
      exact ⟨rfl, hB⟩

/-- A list of the call's own can be read. -/
theorem LReads.own {w : World} {B : Nat} {v : Value} {l : List (List UInt8)} (h : w.ownsRow B 29 32 v l.length (cellsOf l.flatten)) (hd : Digs32 l) : ∃ a cap, v = .slice a l.length cap ∧ LReads w a l.length cap l ∧ (∀ g o, a = some ⟨g, o, none⟩ → B ≤ g) := by
  rcases h.2 with ⟨rfl, h0⟩ | ⟨g, cap, cur, rfl, hb, hg, hc, hm, hs, ht⟩
  · exact ⟨none, 0, by rw [h0], ⟨rfl, hd, by omega, by omega, .inl h0⟩, fun g o e => by cases e⟩
  · refine ⟨some ⟨g, 0, none⟩, cap, rfl, ⟨rfl, hd, hc, by omega, .inr ⟨g, 0, rfl, fun i hi => ?_⟩⟩, fun g' o' e => by cases e; exact hb⟩
    rw [Nat.zero_add, cell_of_row w g i cur 29 (0, 0) hg]
    have hfl := flat_length hd
    have e : (cellsOf l.flatten)[i]? = cur.toList[i]? := by
      rw [← ht, List.getElem?_take, if_pos (by omega)]
    rw [cellsOf_at _ i hi] at e
    simpa using e.symm
end Go.Proofs.YtmpmhfagbcknnaaDoor
