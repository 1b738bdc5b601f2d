/- CheckAlone over what the calls of check answer. -/
import Derived.Test.YtehfoeedlchphabDoorThree5
import Derived.OpenShut
namespace Go.Proofs.YtehfoeedlchphabDoor
open Go.RowKit Sums
set_option linter.unusedVariables false
set_option linter.unusedSimpArgs false

theorem inc_alone (root leaf : List UInt8) : incE root 1 0 leaf [] = if leaf = root then 0 else 41 := by
  have := incE_in root 1 0 leaf [] (by omega) (by omega) (by omega)
  refine this.trans ?_
  rw [show ([] : List (List UInt8)).reverse = [] from rfl, mkR_nil]
  simp
theorem con_alone (S : Nat) (root : List UInt8) (h1 : 1 ≤ S) (h2 : S ≤ 100000) : conE S root S root [] = 0 := by
  rw [conE_in S root S root [] h1 (Nat.le_refl _) h2, show ([] : List (List UInt8)).reverse = [] from rfl, bothR_nil]
  simp

set_option maxHeartbeats 8000000 in
theorem checkAlone_of (ck : CheckC) (z0 : List UInt8) (a1 a2 : Int) (z3 : List UInt8) (a4 : Option Addr) (len4 cap4 : Nat) (z4 : List (List UInt8)) (w : World) (w0 : z0.length = 32) (w1 : (Lit.int .i64 a1).wf = true) (w2 : (Lit.int .i64 a2).wf = true) (w3 : z3.length = 32) (w4 : LReads w a4 len4 cap4 z4) (hK : TabC w) :
    Calls Tryd.prog 3 #[digV z0, .int .i64 a1, .int .i64 a2, digV z3, .slice a4 len4 cap4] w fun e w' => e = .returned (.bool true) ∧ Below w.heap.size w w' := by
  have hb1 := bounds_i64 w1
  have hb2 := bounds_i64 w2
  have hlen := w4.1
  obtain ⟨R, HR⟩ : ∃ R, Hid (R = (cellsOf z0).toArray) := ⟨_, (rfl : _ = _)⟩
  obtain ⟨X, HX⟩ : ∃ X, Hid (X = (cellsOf z3).toArray) := ⟨_, (rfl : _ = _)⟩
  have HSR : Hid ((Tryd.prog.info? 23).map (·.size) = some R.size) := by show _ = _; rw [size23, HR.out]; simp [cellsOf_length, w0]
  have HSX : Hid ((Tryd.prog.info? 23).map (·.size) = some X.size) := by show _ = _; rw [size23, HX.out]; simp [cellsOf_length, w3]
  have hlx : len4 ≤ 9223372036854775807 := by have := w4.2.2.2.1; unfold maxLen at this; omega
  unfold digV
  rw [← HR.out, ← HX.out]
  have HB := hidk (came w R X)
  by_cases hlong : 200 < len4
  · have dl : decide (200 < (len4 : Int)) = true := by rw [decide_eq_true_eq]; omega
    clear hK w4 HR HX ck
    go_enter Tryd.func3, Tryd.ntmps3
    go_wp2
    go_ret
    exact ⟨rfl, HB.out.1⟩
  have dl : decide (200 < (len4 : Int)) = false := by rw [decide_eq_false_iff_not]; omega
  have i1 : (-9223372036854775808 : Int) ≤ 1 ∧ (1 : Int) ≤ 9223372036854775807 := by omega
  have i0 : (-9223372036854775808 : Int) ≤ 0 ∧ (0 : Int) ≤ 9223372036854775807 := by omega
  have A1 : Hid (∀ W, Below w.heap.size w W → Calls Tryd.prog 4 #[.agg X, .int .i64 1, .int .i64 0, .agg X, .slice none 0 0] W fun e w' => e = .returned (.int .i64 0) ∧ Below W.heap.size W w') := fun W hb => by
    have := ck.included z3 1 0 z3 [] none 0 0 W X X HX HX w3 w3 i1 i0 (LReads.nothing W) (hK.keep hb)
    rwa [inc_alone, if_pos rfl] at this
  obtain ⟨b, Hb⟩ : ∃ b, Hid (b = decide (z0 = z3)) := ⟨_, (rfl : _ = _)⟩
  obtain ⟨E, HE⟩ : ∃ E : Int, Hid (E = if z3 = z0 then 0 else 41) := ⟨_, (rfl : _ = _)⟩
  have A2 : Hid (∀ W, Below w.heap.size w W → Calls Tryd.prog 4 #[.agg R, .int .i64 1, .int .i64 0, .agg X, .slice none 0 0] W fun e w' => e = .returned (.int .i64 E) ∧ Below W.heap.size W w') := fun W hb => by
    have := ck.included z0 1 0 z3 [] none 0 0 W R X HR HX w0 w3 i1 i0 (LReads.nothing W) (hK.keep hb)
    rwa [inc_alone, ← HE.out] at this
  have eqv := fun W => eqDigV z0 z3 w0 w3 R X HR HX b Hb.out.symm W
  have heb : (E == 0) = b := by
    rw [HE.out, Hb.out]
    by_cases h : z3 = z0
    · rw [if_pos h, decide_eq_true h.symm]; rfl
    · rw [if_neg h, decide_eq_false (fun e => h e.symm)]; rfl
  have hev : (E = 0 ∧ b = true) ∨ (E = 41 ∧ b = false) := by
    rw [HE.out, Hb.out]
    by_cases h : z3 = z0
    · left; rw [if_pos h, decide_eq_true h.symm]; exact ⟨rfl, rfl⟩
    · right; rw [if_neg h, decide_eq_false (fun e => h e.symm)]; exact ⟨rfl, rfl⟩
  have A3 : (1 ≤ a1 ∧ a1 ≤ 100000) → Hid (∀ W, Below w.heap.size w W → Calls Tryd.prog 5 #[.int .i64 a1, .agg R, .int .i64 a1, .agg R, .slice none 0 0] W fun e w' => e = .returned (.int .i64 0) ∧ Below W.heap.size W w') := fun h W hb => by
    have := ck.consistent a1 z0 a1 z0 [] none 0 0 W R R HR HR w0 w0 hb1 hb1 (LReads.nothing W) (hK.keep hb)
    obtain ⟨S, hS⟩ : ∃ S : Nat, a1 = S := ⟨a1.toNat, by omega⟩
    have e : conE a1 z0 a1 z0 [] = 0 := by rw [hS]; exact con_alone S z0 (by omega) (by omega)
    rwa [e] at this
  have A4 : 18 < len4 → Hid (∀ W, Below w.heap.size w W → Calls Tryd.prog 4 #[.agg R, .int .i64 a1, .int .i64 a2, .agg X, .slice a4 len4 cap4] W fun e w' => e = .returned (.int .i64 40) ∧ Below W.heap.size W w') := fun h W hb => by
    have := ck.included z0 a1 a2 z3 z4 a4 len4 cap4 W R X HR HX w0 w3 hb1 hb2 (w4.keep hb) (hK.keep hb)
    rwa [incE_long z0 a1 a2 z3 z4 (by omega)] at this
  have A5 : 18 < len4 → Hid (∀ W, Below w.heap.size w W → Calls Tryd.prog 5 #[.int .i64 a2, .agg X, .int .i64 a1, .agg R, .slice a4 len4 cap4] W fun e w' => e = .returned (.int .i64 40) ∧ Below W.heap.size W w') := fun h W hb => by
    have := ck.consistent a2 z3 a1 z0 z4 a4 len4 cap4 W X R HX HR w3 w0 hb2 hb1 (w4.keep hb) (hK.keep hb)
    rwa [conE_long a2 z3 a1 z0 z4 (by omega)] at this
  have TH : Hid (∀ W, Below w.heap.size w W → Calls Tryd.prog 6 #[] W fun e w' => e = .returned (.bool true) ∧ Below W.heap.size W w') := fun W hb => three5_true ck W (hK.keep hb)
  clear hK w4 HR HX ck HE Hb w0 w3 hlen i1 i0
  -- the three parts
  have fin : ∀ (q : Prop), q → q := fun _ h => h
  by_cases hs : 1 ≤ a1 ∧ a1 ≤ 100000
  · have B3 := A3 hs
    have k1 : decide (a1 < 1) = false := by rw [decide_eq_false_iff_not]; omega
    have k2 : decide (100000 < a1) = false := by rw [decide_eq_false_iff_not]; omega
    clear A3
    by_cases h18 : 18 < len4
    · have B4 := A4 h18
      have B5 := A5 h18
      have k3 : decide ((len4 : Int) ≤ 18) = false := by rw [decide_eq_false_iff_not]; omega
      have k3n : ¬ len4 ≤ 18 := by omega
      clear A4 A5 h18
      go_enter Tryd.func3, Tryd.ntmps3
      go_wp2
      refine wp_region_held_drew (S := (fun W => W.heap[w.heap.size]? = some (.cells R 23 (0, 0)) ∧ W.heap[w.heap.size + 1]? = some (.cells X 23 (0, 0)))) (by kernel_rfl) (show _ ∧ _ from HB.out.2) (fun hHeld => ?_)
      refine wpAnyH_take (i := 0) (oi := { dst := some 17, op := Op.load 23 (Operand.tmp 8), type := 23, pos := "law.go:107", after := #[], guard := none }) (v := .agg X) rfl (by kernel_rfl) (by kernel_rfl) (by kernel_rfl) (fun _ _ _ h => h) (yieldsIf_row (by rfl) 23 (.tmp 8) rfl (w.heap.size + 1) rfl 23 X (0, 0) _ (fun _ h => h.2) Tryd.underlying23 rfl HSX.out) hHeld ?_
      try simp only [Act.put, List.setIfInBounds_toArray, List.set_cons_zero, List.set_cons_succ]
      refine wpAnyH_take (i := 1) (oi := { dst := some 18, op := Op.load 23 (Operand.tmp 8), type := 23, pos := "law.go:107", after := #[], guard := none }) (v := .agg X) rfl (by kernel_rfl) (by kernel_rfl) (by kernel_rfl) (fun _ _ _ h => h) (yieldsIf_row (by rfl) 23 (.tmp 8) rfl (w.heap.size + 1) rfl 23 X (0, 0) _ (fun _ h => h.2) Tryd.underlying23 rfl HSX.out) hHeld ?_
      try simp only [Act.put, List.setIfInBounds_toArray, List.set_cons_zero, List.set_cons_succ]
      refine wpAnyH_ready (rs := [2]) (by kernel_rfl) (by simp) ?_
      refine AllReadyH.cons (o := { dst := some 19, op := Op.call { callee := Callee.value (Operand.func 4), args := #[Operand.tmp 17, Operand.const (Value.int IntKind.i64 1), Operand.const (Value.int IntKind.i64 0), Operand.tmp 18, Operand.const (Value.slice none 0 0)], argTypes := #[23, 3, 3, 23, 24] }, type := 25, pos := "law.go:107", after := #[{ on := 0, ground := Ground.data }, { on := 1, ground := Ground.data }], guard := none }) rfl (fun K hK => ?_) AllReadyH.nil
      go_simp
      refine (A1.out _ HB.out.1.drew).mono ?_
      rintro e wa ⟨rfl, hbc⟩
      have Ha : Hid (Below w.heap.size w wa) := HB.out.1.drew.trans (hbc.mono HB.out.1.size)
      go_wp2_with fail
      refine hK.out _ _ ⟨(hbc.block _ (heap_lt hHeld.1)).trans hHeld.1, (hbc.block _ (heap_lt hHeld.2)).trans hHeld.2⟩ (fun hHeld => ?_)
      clear hK K
      try simp only [Act.put, List.setIfInBounds_toArray, List.set_cons_zero, List.set_cons_succ]
      refine wpAnyH_take (i := 3) (oi := { dst := some 20, op := Op.binOp BinOp.eql 25 (Operand.tmp 19) (Operand.const (Value.int IntKind.i64 0)) 25, type := 4, pos := "law.go:107", after := #[{ on := 2, ground := Ground.data }], guard := none }) (v := .bool true) rfl (by kernel_rfl) (by kernel_rfl) (by kernel_rfl) (fun _ _ _ h => h) (Or.inl ⟨by rfl, by intro w hSw; go_simp⟩) hHeld ?_
      try simp only [Act.put, List.setIfInBounds_toArray, List.set_cons_zero, List.set_cons_succ]
      refine wpAnyH_take (i := 4) (oi := { dst := some 21, op := Op.move (Operand.tmp 20), type := 4, pos := "law.go:107", after := #[{ on := 3, ground := Ground.data }, { on := 2, ground := Ground.chain }], guard := none }) (v := .bool true) rfl (by kernel_rfl) (by kernel_rfl) (by kernel_rfl) (fun _ _ _ h => h) (Or.inl ⟨by rfl, by intro w hSw; go_simp⟩) hHeld ?_
      try simp only [Act.put, List.setIfInBounds_toArray, List.set_cons_zero, List.set_cons_succ]
      refine wpAnyH_take (i := 5) (oi := { dst := some 22, op := Op.load 23 (Operand.tmp 5), type := 23, pos := "law.go:107", after := #[{ on := 4, ground := Ground.guard }], guard := some (4, true) }) (v := .agg R) rfl (by kernel_rfl) (by kernel_rfl) (by kernel_rfl) (fun _ _ _ h => h) (yieldsIf_row (by rfl) 23 (.tmp 5) rfl w.heap.size rfl 23 R (0, 0) _ (fun _ h => h.1) Tryd.underlying23 rfl HSR.out) hHeld ?_
      try simp only [Act.put, List.setIfInBounds_toArray, List.set_cons_zero, List.set_cons_succ]
      refine wpAnyH_take (i := 6) (oi := { dst := some 23, op := Op.load 23 (Operand.tmp 8), type := 23, pos := "law.go:107", after := #[{ on := 4, ground := Ground.guard }], guard := some (4, true) }) (v := .agg X) rfl (by kernel_rfl) (by kernel_rfl) (by kernel_rfl) (fun _ _ _ h => h) (yieldsIf_row (by rfl) 23 (.tmp 8) rfl (w.heap.size + 1) rfl 23 X (0, 0) _ (fun _ h => h.2) Tryd.underlying23 rfl HSX.out) hHeld ?_
      try simp only [Act.put, List.setIfInBounds_toArray, List.set_cons_zero, List.set_cons_succ]
      refine wpAnyH_take (i := 9) (oi := { dst := some 26, op := Op.load 23 (Operand.tmp 5), type := 23, pos := "law.go:107", after := #[{ on := 4, ground := Ground.guard }], guard := some (4, true) }) (v := .agg R) rfl (by kernel_rfl) (by kernel_rfl) (by kernel_rfl) (fun _ _ _ h => h) (yieldsIf_row (by rfl) 23 (.tmp 5) rfl w.heap.size rfl 23 R (0, 0) _ (fun _ h => h.1) Tryd.underlying23 rfl HSR.out) hHeld ?_
      try simp only [Act.put, List.setIfInBounds_toArray, List.set_cons_zero, List.set_cons_succ]
      refine wpAnyH_take (i := 10) (oi := { dst := some 27, op := Op.load 23 (Operand.tmp 8), type := 23, pos := "law.go:107", after := #[{ on := 4, ground := Ground.guard }], guard := some (4, true) }) (v := .agg X) rfl (by kernel_rfl) (by kernel_rfl) (by kernel_rfl) (fun _ _ _ h => h) (yieldsIf_row (by rfl) 23 (.tmp 8) rfl (w.heap.size + 1) rfl 23 X (0, 0) _ (fun _ h => h.2) Tryd.underlying23 rfl HSX.out) hHeld ?_
      try simp only [Act.put, List.setIfInBounds_toArray, List.set_cons_zero, List.set_cons_succ]
      refine wpAnyH_take (i := 11) (oi := { dst := some 28, op := Op.binOp BinOp.eql 23 (Operand.tmp 26) (Operand.tmp 27) 23, type := 4, pos := "law.go:107", after := #[{ on := 9, ground := Ground.data }, { on := 10, ground := Ground.data }, { on := 4, ground := Ground.guard }], guard := some (4, true) }) (v := .bool b) rfl (by kernel_rfl) (by kernel_rfl) (by kernel_rfl) (fun _ _ _ h => h) (Or.inl ⟨by rfl, by intro W hSw; have := eqv W; go_simp⟩) hHeld ?_
      try simp only [Act.put, List.setIfInBounds_toArray, List.set_cons_zero, List.set_cons_succ]
      refine wpAnyH_ready (rs := [7]) (by kernel_rfl) (by simp) ?_
      refine AllReadyH.cons (o := { dst := some 24, op := Op.call { callee := Callee.value (Operand.func 4), args := #[Operand.tmp 22, Operand.const (Value.int IntKind.i64 1), Operand.const (Value.int IntKind.i64 0), Operand.tmp 23, Operand.const (Value.slice none 0 0)], argTypes := #[23, 3, 3, 23, 24] }, type := 25, pos := "law.go:107", after := #[{ on := 5, ground := Ground.data }, { on := 6, ground := Ground.data }, { on := 4, ground := Ground.chain }, { on := 4, ground := Ground.guard }], guard := some (4, true) }) rfl (fun K hK => ?_) AllReadyH.nil
      go_simp
      clear hbc
      refine (A2.out _ Ha.out).mono ?_
      rintro e wb ⟨rfl, hbc⟩
      have Hb : Hid (Below w.heap.size w wb) := Ha.out.trans (hbc.mono Ha.out.size)
      go_wp2_with fail
      refine hK.out _ _ ⟨(hbc.block _ (heap_lt hHeld.1)).trans hHeld.1, (hbc.block _ (heap_lt hHeld.2)).trans hHeld.2⟩ (fun hHeld => ?_)
      clear hK K
      try simp only [Act.put, List.setIfInBounds_toArray, List.set_cons_zero, List.set_cons_succ]
      refine wpAnyH_take (i := 8) (oi := { dst := some 25, op := Op.binOp BinOp.eql 25 (Operand.tmp 24) (Operand.const (Value.int IntKind.i64 0)) 25, type := 4, pos := "law.go:107", after := #[{ on := 7, ground := Ground.data }, { on := 4, ground := Ground.guard }], guard := some (4, true) }) (v := .bool b) rfl (by kernel_rfl) (by kernel_rfl) (by kernel_rfl) (fun _ _ _ h => h) (Or.inl ⟨by rfl, by intro W hSw; have := heb; go_simp⟩) hHeld ?_
      try simp only [Act.put, List.setIfInBounds_toArray, List.set_cons_zero, List.set_cons_succ]
      refine wpAnyH_take (i := 12) (oi := { dst := some 29, op := Op.binOp BinOp.eql 4 (Operand.tmp 25) (Operand.tmp 28) 4, type := 4, pos := "law.go:107", after := #[{ on := 8, ground := Ground.data }, { on := 11, ground := Ground.data }, { on := 4, ground := Ground.guard }], guard := some (4, true) }) (v := .bool true) rfl (by kernel_rfl) (by kernel_rfl) (by kernel_rfl) (fun _ _ _ h => h) (Or.inl ⟨by rfl, by intro W hSw; rcases hev with ⟨_, rfl⟩ | ⟨_, rfl⟩ <;> go_simp⟩) hHeld ?_
      try simp only [Act.put, List.setIfInBounds_toArray, List.set_cons_zero, List.set_cons_succ]
      refine wpAnyH_take (i := 13) (oi := { dst := some 30, op := Op.pick (Operand.tmp 21) (Operand.tmp 29) (Operand.const (Value.bool false)), type := 4, pos := "law.go:107", after := #[{ on := 4, ground := Ground.data }, { on := 12, ground := Ground.data }], guard := none }) (v := .bool true) rfl (by kernel_rfl) (by kernel_rfl) (by kernel_rfl) (fun _ _ _ h => h) (Or.inl ⟨by rfl, by intro w hSw; go_simp⟩) hHeld ?_
      try simp only [Act.put, List.setIfInBounds_toArray, List.set_cons_zero, List.set_cons_succ]
      refine wpAnyH_take (i := 14) (oi := { dst := some 11, op := Op.assign (Operand.tmp 30), type := 4, pos := "law.go:107", after := #[{ on := 13, ground := Ground.data }, { on := 7, ground := Ground.chain }, { on := 0, ground := Ground.phase }, { on := 1, ground := Ground.phase }, { on := 2, ground := Ground.phase }, { on := 3, ground := Ground.phase }, { on := 4, ground := Ground.phase }, { on := 5, ground := Ground.phase }, { on := 6, ground := Ground.phase }, { on := 7, ground := Ground.phase }, { on := 8, ground := Ground.phase }, { on := 9, ground := Ground.phase }, { on := 10, ground := Ground.phase }, { on := 11, ground := Ground.phase }, { on := 12, ground := Ground.phase }, { on := 13, ground := Ground.phase }], guard := none }) (v := .bool true) rfl (by kernel_rfl) (by kernel_rfl) (by kernel_rfl) (fun _ _ _ h => h) (Or.inl ⟨by rfl, by intro w hSw; go_simp⟩) hHeld ?_
      try simp only [Act.put, List.setIfInBounds_toArray, List.set_cons_zero, List.set_cons_succ]
      refine wpAnyH_done (by kernel_rfl) ?_ _
      have H1 : Hid (Came w wb R X) := ⟨Hb.out, hHeld.1, hHeld.2⟩
      clear hHeld hbc Ha Hb HB A1 A2 eqv heb hev
      go_wp2_with (first
        | (show wpList _ _ _ ({ dst := some 39, op := _, type := _, pos := _, after := _, guard := _ } :: _) _ _; refine wpList_load_row_w (by rfl) 23 (.tmp 5) rfl w.heap.size rfl 23 R (0, 0) _ H1.out.2.1 Tryd.underlying23 rfl HSR.out ?_; try simp only [Act.put, List.setIfInBounds_toArray, List.set_cons_zero, List.set_cons_succ])
        | (show wpList _ _ _ ({ dst := some 41, op := _, type := _, pos := _, after := _, guard := _ } :: _) _ _; refine wpList_load_row_w (by rfl) 23 (.tmp 5) rfl w.heap.size rfl 23 R (0, 0) _ H1.out.2.1 Tryd.underlying23 rfl HSR.out ?_; try simp only [Act.put, List.setIfInBounds_toArray, List.set_cons_zero, List.set_cons_succ])
        | fail)
      refine (B3.out _ H1.out.1).mono ?_
      rintro e wc ⟨rfl, hbc⟩
      replace H1 := hidk (H1.out.keep hbc)
      clear hbc B3
      go_wp2_with (first
        | (show wpList _ _ _ ({ dst := some 49, op := _, type := _, pos := _, after := _, guard := _ } :: _) _ _; refine wpList_load_row_w (by rfl) 23 (.tmp 5) rfl w.heap.size rfl 23 R (0, 0) _ H1.out.2.1 Tryd.underlying23 rfl HSR.out ?_; try simp only [Act.put, List.setIfInBounds_toArray, List.set_cons_zero, List.set_cons_succ])
        | (show wpList _ _ _ ({ dst := some 52, op := _, type := _, pos := _, after := _, guard := _ } :: _) _ _; refine wpList_load_row_w (by rfl) 23 (.tmp 8) rfl (w.heap.size + 1) rfl 23 X (0, 0) _ H1.out.2.2 Tryd.underlying23 rfl HSX.out ?_; try simp only [Act.put, List.setIfInBounds_toArray, List.set_cons_zero, List.set_cons_succ])
        | fail)
      refine (B4.out _ H1.out.1).mono ?_
      rintro e wd ⟨rfl, hbd⟩
      replace H1 := hidk (H1.out.keep hbd)
      clear hbd B4
      go_wp2_with (first
        | (show wpList _ _ _ ({ dst := some 58, op := _, type := _, pos := _, after := _, guard := _ } :: _) _ _; refine wpList_load_row_w (by rfl) 23 (.tmp 8) rfl (w.heap.size + 1) rfl 23 X (0, 0) _ H1.out.2.2 Tryd.underlying23 rfl HSX.out ?_; try simp only [Act.put, List.setIfInBounds_toArray, List.set_cons_zero, List.set_cons_succ])
        | (show wpList _ _ _ ({ dst := some 60, op := _, type := _, pos := _, after := _, guard := _ } :: _) _ _; refine wpList_load_row_w (by rfl) 23 (.tmp 5) rfl w.heap.size rfl 23 R (0, 0) _ H1.out.2.1 Tryd.underlying23 rfl HSR.out ?_; try simp only [Act.put, List.setIfInBounds_toArray, List.set_cons_zero, List.set_cons_succ])
        | fail)
      refine (B5.out _ H1.out.1).mono ?_
      rintro e we ⟨rfl, hbe⟩
      replace H1 := hidk (H1.out.keep hbe)
      clear hbe B5
      go_wp2_with fail
      refine (TH.out _ H1.out.1).mono ?_
      rintro e wf ⟨rfl, hbf⟩
      replace H1 := hidk (H1.out.keep hbf)
      clear hbf TH
      go_wp2
      go_ret
      exact ⟨rfl, H1.out.1⟩
    · have k3 : decide ((len4 : Int) ≤ 18) = true := by rw [decide_eq_true_eq]; omega
      have k3n : len4 ≤ 18 := by omega
      clear A4 A5 h18
      go_enter Tryd.func3, Tryd.ntmps3
      go_wp2
      refine wp_region_held_drew (S := (fun W => W.heap[w.heap.size]? = some (.cells R 23 (0, 0)) ∧ W.heap[w.heap.size + 1]? = some (.cells X 23 (0, 0)))) (by kernel_rfl) (show _ ∧ _ from HB.out.2) (fun hHeld => ?_)
      refine wpAnyH_take (i := 0) (oi := { dst := some 17, op := Op.load 23 (Operand.tmp 8), type := 23, pos := "law.go:107", after := #[], guard := none }) (v := .agg X) rfl (by kernel_rfl) (by kernel_rfl) (by kernel_rfl) (fun _ _ _ h => h) (yieldsIf_row (by rfl) 23 (.tmp 8) rfl (w.heap.size + 1) rfl 23 X (0, 0) _ (fun _ h => h.2) Tryd.underlying23 rfl HSX.out) hHeld ?_
      try simp only [Act.put, List.setIfInBounds_toArray, List.set_cons_zero, List.set_cons_succ]
      refine wpAnyH_take (i := 1) (oi := { dst := some 18, op := Op.load 23 (Operand.tmp 8), type := 23, pos := "law.go:107", after := #[], guard := none }) (v := .agg X) rfl (by kernel_rfl) (by kernel_rfl) (by kernel_rfl) (fun _ _ _ h => h) (yieldsIf_row (by rfl) 23 (.tmp 8) rfl (w.heap.size + 1) rfl 23 X (0, 0) _ (fun _ h => h.2) Tryd.underlying23 rfl HSX.out) hHeld ?_
      try simp only [Act.put, List.setIfInBounds_toArray, List.set_cons_zero, List.set_cons_succ]
      refine wpAnyH_ready (rs := [2]) (by kernel_rfl) (by simp) ?_
      refine AllReadyH.cons (o := { dst := some 19, op := Op.call { callee := Callee.value (Operand.func 4), args := #[Operand.tmp 17, Operand.const (Value.int IntKind.i64 1), Operand.const (Value.int IntKind.i64 0), Operand.tmp 18, Operand.const (Value.slice none 0 0)], argTypes := #[23, 3, 3, 23, 24] }, type := 25, pos := "law.go:107", after := #[{ on := 0, ground := Ground.data }, { on := 1, ground := Ground.data }], guard := none }) rfl (fun K hK => ?_) AllReadyH.nil
      go_simp
      refine (A1.out _ HB.out.1.drew).mono ?_
      rintro e wa ⟨rfl, hbc⟩
      have Ha : Hid (Below w.heap.size w wa) := HB.out.1.drew.trans (hbc.mono HB.out.1.size)
      go_wp2_with fail
      refine hK.out _ _ ⟨(hbc.block _ (heap_lt hHeld.1)).trans hHeld.1, (hbc.block _ (heap_lt hHeld.2)).trans hHeld.2⟩ (fun hHeld => ?_)
      clear hK K
      try simp only [Act.put, List.setIfInBounds_toArray, List.set_cons_zero, List.set_cons_succ]
      refine wpAnyH_take (i := 3) (oi := { dst := some 20, op := Op.binOp BinOp.eql 25 (Operand.tmp 19) (Operand.const (Value.int IntKind.i64 0)) 25, type := 4, pos := "law.go:107", after := #[{ on := 2, ground := Ground.data }], guard := none }) (v := .bool true) rfl (by kernel_rfl) (by kernel_rfl) (by kernel_rfl) (fun _ _ _ h => h) (Or.inl ⟨by rfl, by intro w hSw; go_simp⟩) hHeld ?_
      try simp only [Act.put, List.setIfInBounds_toArray, List.set_cons_zero, List.set_cons_succ]
      refine wpAnyH_take (i := 4) (oi := { dst := some 21, op := Op.move (Operand.tmp 20), type := 4, pos := "law.go:107", after := #[{ on := 3, ground := Ground.data }, { on := 2, ground := Ground.chain }], guard := none }) (v := .bool true) rfl (by kernel_rfl) (by kernel_rfl) (by kernel_rfl) (fun _ _ _ h => h) (Or.inl ⟨by rfl, by intro w hSw; go_simp⟩) hHeld ?_
      try simp only [Act.put, List.setIfInBounds_toArray, List.set_cons_zero, List.set_cons_succ]
      refine wpAnyH_take (i := 5) (oi := { dst := some 22, op := Op.load 23 (Operand.tmp 5), type := 23, pos := "law.go:107", after := #[{ on := 4, ground := Ground.guard }], guard := some (4, true) }) (v := .agg R) rfl (by kernel_rfl) (by kernel_rfl) (by kernel_rfl) (fun _ _ _ h => h) (yieldsIf_row (by rfl) 23 (.tmp 5) rfl w.heap.size rfl 23 R (0, 0) _ (fun _ h => h.1) Tryd.underlying23 rfl HSR.out) hHeld ?_
      try simp only [Act.put, List.setIfInBounds_toArray, List.set_cons_zero, List.set_cons_succ]
      refine wpAnyH_take (i := 6) (oi := { dst := some 23, op := Op.load 23 (Operand.tmp 8), type := 23, pos := "law.go:107", after := #[{ on := 4, ground := Ground.guard }], guard := some (4, true) }) (v := .agg X) rfl (by kernel_rfl) (by kernel_rfl) (by kernel_rfl) (fun _ _ _ h => h) (yieldsIf_row (by rfl) 23 (.tmp 8) rfl (w.heap.size + 1) rfl 23 X (0, 0) _ (fun _ h => h.2) Tryd.underlying23 rfl HSX.out) hHeld ?_
      try simp only [Act.put, List.setIfInBounds_toArray, List.set_cons_zero, List.set_cons_succ]
      refine wpAnyH_take (i := 9) (oi := { dst := some 26, op := Op.load 23 (Operand.tmp 5), type := 23, pos := "law.go:107", after := #[{ on := 4, ground := Ground.guard }], guard := some (4, true) }) (v := .agg R) rfl (by kernel_rfl) (by kernel_rfl) (by kernel_rfl) (fun _ _ _ h => h) (yieldsIf_row (by rfl) 23 (.tmp 5) rfl w.heap.size rfl 23 R (0, 0) _ (fun _ h => h.1) Tryd.underlying23 rfl HSR.out) hHeld ?_
      try simp only [Act.put, List.setIfInBounds_toArray, List.set_cons_zero, List.set_cons_succ]
      refine wpAnyH_take (i := 10) (oi := { dst := some 27, op := Op.load 23 (Operand.tmp 8), type := 23, pos := "law.go:107", after := #[{ on := 4, ground := Ground.guard }], guard := some (4, true) }) (v := .agg X) rfl (by kernel_rfl) (by kernel_rfl) (by kernel_rfl) (fun _ _ _ h => h) (yieldsIf_row (by rfl) 23 (.tmp 8) rfl (w.heap.size + 1) rfl 23 X (0, 0) _ (fun _ h => h.2) Tryd.underlying23 rfl HSX.out) hHeld ?_
      try simp only [Act.put, List.setIfInBounds_toArray, List.set_cons_zero, List.set_cons_succ]
      refine wpAnyH_take (i := 11) (oi := { dst := some 28, op := Op.binOp BinOp.eql 23 (Operand.tmp 26) (Operand.tmp 27) 23, type := 4, pos := "law.go:107", after := #[{ on := 9, ground := Ground.data }, { on := 10, ground := Ground.data }, { on := 4, ground := Ground.guard }], guard := some (4, true) }) (v := .bool b) rfl (by kernel_rfl) (by kernel_rfl) (by kernel_rfl) (fun _ _ _ h => h) (Or.inl ⟨by rfl, by intro W hSw; have := eqv W; go_simp⟩) hHeld ?_
      try simp only [Act.put, List.setIfInBounds_toArray, List.set_cons_zero, List.set_cons_succ]
      refine wpAnyH_ready (rs := [7]) (by kernel_rfl) (by simp) ?_
      refine AllReadyH.cons (o := { dst := some 24, op := Op.call { callee := Callee.value (Operand.func 4), args := #[Operand.tmp 22, Operand.const (Value.int IntKind.i64 1), Operand.const (Value.int IntKind.i64 0), Operand.tmp 23, Operand.const (Value.slice none 0 0)], argTypes := #[23, 3, 3, 23, 24] }, type := 25, pos := "law.go:107", after := #[{ on := 5, ground := Ground.data }, { on := 6, ground := Ground.data }, { on := 4, ground := Ground.chain }, { on := 4, ground := Ground.guard }], guard := some (4, true) }) rfl (fun K hK => ?_) AllReadyH.nil
      go_simp
      clear hbc
      refine (A2.out _ Ha.out).mono ?_
      rintro e wb ⟨rfl, hbc⟩
      have Hb : Hid (Below w.heap.size w wb) := Ha.out.trans (hbc.mono Ha.out.size)
      go_wp2_with fail
      refine hK.out _ _ ⟨(hbc.block _ (heap_lt hHeld.1)).trans hHeld.1, (hbc.block _ (heap_lt hHeld.2)).trans hHeld.2⟩ (fun hHeld => ?_)
      clear hK K
      try simp only [Act.put, List.setIfInBounds_toArray, List.set_cons_zero, List.set_cons_succ]
      refine wpAnyH_take (i := 8) (oi := { dst := some 25, op := Op.binOp BinOp.eql 25 (Operand.tmp 24) (Operand.const (Value.int IntKind.i64 0)) 25, type := 4, pos := "law.go:107", after := #[{ on := 7, ground := Ground.data }, { on := 4, ground := Ground.guard }], guard := some (4, true) }) (v := .bool b) rfl (by kernel_rfl) (by kernel_rfl) (by kernel_rfl) (fun _ _ _ h => h) (Or.inl ⟨by rfl, by intro W hSw; have := heb; go_simp⟩) hHeld ?_
      try simp only [Act.put, List.setIfInBounds_toArray, List.set_cons_zero, List.set_cons_succ]
      refine wpAnyH_take (i := 12) (oi := { dst := some 29, op := Op.binOp BinOp.eql 4 (Operand.tmp 25) (Operand.tmp 28) 4, type := 4, pos := "law.go:107", after := #[{ on := 8, ground := Ground.data }, { on := 11, ground := Ground.data }, { on := 4, ground := Ground.guard }], guard := some (4, true) }) (v := .bool true) rfl (by kernel_rfl) (by kernel_rfl) (by kernel_rfl) (fun _ _ _ h => h) (Or.inl ⟨by rfl, by intro W hSw; rcases hev with ⟨_, rfl⟩ | ⟨_, rfl⟩ <;> go_simp⟩) hHeld ?_
      try simp only [Act.put, List.setIfInBounds_toArray, List.set_cons_zero, List.set_cons_succ]
      refine wpAnyH_take (i := 13) (oi := { dst := some 30, op := Op.pick (Operand.tmp 21) (Operand.tmp 29) (Operand.const (Value.bool false)), type := 4, pos := "law.go:107", after := #[{ on := 4, ground := Ground.data }, { on := 12, ground := Ground.data }], guard := none }) (v := .bool true) rfl (by kernel_rfl) (by kernel_rfl) (by kernel_rfl) (fun _ _ _ h => h) (Or.inl ⟨by rfl, by intro w hSw; go_simp⟩) hHeld ?_
      try simp only [Act.put, List.setIfInBounds_toArray, List.set_cons_zero, List.set_cons_succ]
      refine wpAnyH_take (i := 14) (oi := { dst := some 11, op := Op.assign (Operand.tmp 30), type := 4, pos := "law.go:107", after := #[{ on := 13, ground := Ground.data }, { on := 7, ground := Ground.chain }, { on := 0, ground := Ground.phase }, { on := 1, ground := Ground.phase }, { on := 2, ground := Ground.phase }, { on := 3, ground := Ground.phase }, { on := 4, ground := Ground.phase }, { on := 5, ground := Ground.phase }, { on := 6, ground := Ground.phase }, { on := 7, ground := Ground.phase }, { on := 8, ground := Ground.phase }, { on := 9, ground := Ground.phase }, { on := 10, ground := Ground.phase }, { on := 11, ground := Ground.phase }, { on := 12, ground := Ground.phase }, { on := 13, ground := Ground.phase }], guard := none }) (v := .bool true) rfl (by kernel_rfl) (by kernel_rfl) (by kernel_rfl) (fun _ _ _ h => h) (Or.inl ⟨by rfl, by intro w hSw; go_simp⟩) hHeld ?_
      try simp only [Act.put, List.setIfInBounds_toArray, List.set_cons_zero, List.set_cons_succ]
      refine wpAnyH_done (by kernel_rfl) ?_ _
      have H1 : Hid (Came w wb R X) := ⟨Hb.out, hHeld.1, hHeld.2⟩
      clear hHeld hbc Ha Hb HB A1 A2 eqv heb hev
      go_wp2_with (first
        | (show wpList _ _ _ ({ dst := some 39, op := _, type := _, pos := _, after := _, guard := _ } :: _) _ _; refine wpList_load_row_w (by rfl) 23 (.tmp 5) rfl w.heap.size rfl 23 R (0, 0) _ H1.out.2.1 Tryd.underlying23 rfl HSR.out ?_; try simp only [Act.put, List.setIfInBounds_toArray, List.set_cons_zero, List.set_cons_succ])
        | (show wpList _ _ _ ({ dst := some 41, op := _, type := _, pos := _, after := _, guard := _ } :: _) _ _; refine wpList_load_row_w (by rfl) 23 (.tmp 5) rfl w.heap.size rfl 23 R (0, 0) _ H1.out.2.1 Tryd.underlying23 rfl HSR.out ?_; try simp only [Act.put, List.setIfInBounds_toArray, List.set_cons_zero, List.set_cons_succ])
        | fail)
      refine (B3.out _ H1.out.1).mono ?_
      rintro e wc ⟨rfl, hbc⟩
      replace H1 := hidk (H1.out.keep hbc)
      clear hbc B3
      go_wp2_with fail
      refine (TH.out _ H1.out.1).mono ?_
      rintro e wf ⟨rfl, hbf⟩
      replace H1 := hidk (H1.out.keep hbf)
      clear hbf TH
      go_wp2
      go_ret
      exact ⟨rfl, H1.out.1⟩
  · have cs : (decide (a1 < 1) = true) ∨ (decide (a1 < 1) = false ∧ decide (100000 < a1) = true) := by
      simp only [decide_eq_true_eq, decide_eq_false_iff_not]
      omega
    clear A3 hs
    by_cases h18 : 18 < len4
    · have B4 := A4 h18
      have B5 := A5 h18
      have k3 : decide ((len4 : Int) ≤ 18) = false := by rw [decide_eq_false_iff_not]; omega
      have k3n : ¬ len4 ≤ 18 := by omega
      clear A4 A5 h18
      rcases cs with k1 | ⟨k1, k2⟩
      all_goals
        go_enter Tryd.func3, Tryd.ntmps3
        go_wp2
        refine wp_region_held_drew (S := (fun W => W.heap[w.heap.size]? = some (.cells R 23 (0, 0)) ∧ W.heap[w.heap.size + 1]? = some (.cells X 23 (0, 0)))) (by kernel_rfl) (show _ ∧ _ from HB.out.2) (fun hHeld => ?_)
        refine wpAnyH_take (i := 0) (oi := { dst := some 17, op := Op.load 23 (Operand.tmp 8), type := 23, pos := "law.go:107", after := #[], guard := none }) (v := .agg X) rfl (by kernel_rfl) (by kernel_rfl) (by kernel_rfl) (fun _ _ _ h => h) (yieldsIf_row (by rfl) 23 (.tmp 8) rfl (w.heap.size + 1) rfl 23 X (0, 0) _ (fun _ h => h.2) Tryd.underlying23 rfl HSX.out) hHeld ?_
        try simp only [Act.put, List.setIfInBounds_toArray, List.set_cons_zero, List.set_cons_succ]
        refine wpAnyH_take (i := 1) (oi := { dst := some 18, op := Op.load 23 (Operand.tmp 8), type := 23, pos := "law.go:107", after := #[], guard := none }) (v := .agg X) rfl (by kernel_rfl) (by kernel_rfl) (by kernel_rfl) (fun _ _ _ h => h) (yieldsIf_row (by rfl) 23 (.tmp 8) rfl (w.heap.size + 1) rfl 23 X (0, 0) _ (fun _ h => h.2) Tryd.underlying23 rfl HSX.out) hHeld ?_
        try simp only [Act.put, List.setIfInBounds_toArray, List.set_cons_zero, List.set_cons_succ]
        refine wpAnyH_ready (rs := [2]) (by kernel_rfl) (by simp) ?_
        refine AllReadyH.cons (o := { dst := some 19, op := Op.call { callee := Callee.value (Operand.func 4), args := #[Operand.tmp 17, Operand.const (Value.int IntKind.i64 1), Operand.const (Value.int IntKind.i64 0), Operand.tmp 18, Operand.const (Value.slice none 0 0)], argTypes := #[23, 3, 3, 23, 24] }, type := 25, pos := "law.go:107", after := #[{ on := 0, ground := Ground.data }, { on := 1, ground := Ground.data }], guard := none }) rfl (fun K hK => ?_) AllReadyH.nil
        go_simp
        refine (A1.out _ HB.out.1.drew).mono ?_
        rintro e wa ⟨rfl, hbc⟩
        have Ha : Hid (Below w.heap.size w wa) := HB.out.1.drew.trans (hbc.mono HB.out.1.size)
        go_wp2_with fail
        refine hK.out _ _ ⟨(hbc.block _ (heap_lt hHeld.1)).trans hHeld.1, (hbc.block _ (heap_lt hHeld.2)).trans hHeld.2⟩ (fun hHeld => ?_)
        clear hK K
        try simp only [Act.put, List.setIfInBounds_toArray, List.set_cons_zero, List.set_cons_succ]
        refine wpAnyH_take (i := 3) (oi := { dst := some 20, op := Op.binOp BinOp.eql 25 (Operand.tmp 19) (Operand.const (Value.int IntKind.i64 0)) 25, type := 4, pos := "law.go:107", after := #[{ on := 2, ground := Ground.data }], guard := none }) (v := .bool true) rfl (by kernel_rfl) (by kernel_rfl) (by kernel_rfl) (fun _ _ _ h => h) (Or.inl ⟨by rfl, by intro w hSw; go_simp⟩) hHeld ?_
        try simp only [Act.put, List.setIfInBounds_toArray, List.set_cons_zero, List.set_cons_succ]
        refine wpAnyH_take (i := 4) (oi := { dst := some 21, op := Op.move (Operand.tmp 20), type := 4, pos := "law.go:107", after := #[{ on := 3, ground := Ground.data }, { on := 2, ground := Ground.chain }], guard := none }) (v := .bool true) rfl (by kernel_rfl) (by kernel_rfl) (by kernel_rfl) (fun _ _ _ h => h) (Or.inl ⟨by rfl, by intro w hSw; go_simp⟩) hHeld ?_
        try simp only [Act.put, List.setIfInBounds_toArray, List.set_cons_zero, List.set_cons_succ]
        refine wpAnyH_take (i := 5) (oi := { dst := some 22, op := Op.load 23 (Operand.tmp 5), type := 23, pos := "law.go:107", after := #[{ on := 4, ground := Ground.guard }], guard := some (4, true) }) (v := .agg R) rfl (by kernel_rfl) (by kernel_rfl) (by kernel_rfl) (fun _ _ _ h => h) (yieldsIf_row (by rfl) 23 (.tmp 5) rfl w.heap.size rfl 23 R (0, 0) _ (fun _ h => h.1) Tryd.underlying23 rfl HSR.out) hHeld ?_
        try simp only [Act.put, List.setIfInBounds_toArray, List.set_cons_zero, List.set_cons_succ]
        refine wpAnyH_take (i := 6) (oi := { dst := some 23, op := Op.load 23 (Operand.tmp 8), type := 23, pos := "law.go:107", after := #[{ on := 4, ground := Ground.guard }], guard := some (4, true) }) (v := .agg X) rfl (by kernel_rfl) (by kernel_rfl) (by kernel_rfl) (fun _ _ _ h => h) (yieldsIf_row (by rfl) 23 (.tmp 8) rfl (w.heap.size + 1) rfl 23 X (0, 0) _ (fun _ h => h.2) Tryd.underlying23 rfl HSX.out) hHeld ?_
        try simp only [Act.put, List.setIfInBounds_toArray, List.set_cons_zero, List.set_cons_succ]
        refine wpAnyH_take (i := 9) (oi := { dst := some 26, op := Op.load 23 (Operand.tmp 5), type := 23, pos := "law.go:107", after := #[{ on := 4, ground := Ground.guard }], guard := some (4, true) }) (v := .agg R) rfl (by kernel_rfl) (by kernel_rfl) (by kernel_rfl) (fun _ _ _ h => h) (yieldsIf_row (by rfl) 23 (.tmp 5) rfl w.heap.size rfl 23 R (0, 0) _ (fun _ h => h.1) Tryd.underlying23 rfl HSR.out) hHeld ?_
        try simp only [Act.put, List.setIfInBounds_toArray, List.set_cons_zero, List.set_cons_succ]
        refine wpAnyH_take (i := 10) (oi := { dst := some 27, op := Op.load 23 (Operand.tmp 8), type := 23, pos := "law.go:107", after := #[{ on := 4, ground := Ground.guard }], guard := some (4, true) }) (v := .agg X) rfl (by kernel_rfl) (by kernel_rfl) (by kernel_rfl) (fun _ _ _ h => h) (yieldsIf_row (by rfl) 23 (.tmp 8) rfl (w.heap.size + 1) rfl 23 X (0, 0) _ (fun _ h => h.2) Tryd.underlying23 rfl HSX.out) hHeld ?_
        try simp only [Act.put, List.setIfInBounds_toArray, List.set_cons_zero, List.set_cons_succ]
        refine wpAnyH_take (i := 11) (oi := { dst := some 28, op := Op.binOp BinOp.eql 23 (Operand.tmp 26) (Operand.tmp 27) 23, type := 4, pos := "law.go:107", after := #[{ on := 9, ground := Ground.data }, { on := 10, ground := Ground.data }, { on := 4, ground := Ground.guard }], guard := some (4, true) }) (v := .bool b) rfl (by kernel_rfl) (by kernel_rfl) (by kernel_rfl) (fun _ _ _ h => h) (Or.inl ⟨by rfl, by intro W hSw; have := eqv W; go_simp⟩) hHeld ?_
        try simp only [Act.put, List.setIfInBounds_toArray, List.set_cons_zero, List.set_cons_succ]
        refine wpAnyH_ready (rs := [7]) (by kernel_rfl) (by simp) ?_
        refine AllReadyH.cons (o := { dst := some 24, op := Op.call { callee := Callee.value (Operand.func 4), args := #[Operand.tmp 22, Operand.const (Value.int IntKind.i64 1), Operand.const (Value.int IntKind.i64 0), Operand.tmp 23, Operand.const (Value.slice none 0 0)], argTypes := #[23, 3, 3, 23, 24] }, type := 25, pos := "law.go:107", after := #[{ on := 5, ground := Ground.data }, { on := 6, ground := Ground.data }, { on := 4, ground := Ground.chain }, { on := 4, ground := Ground.guard }], guard := some (4, true) }) rfl (fun K hK => ?_) AllReadyH.nil
        go_simp
        clear hbc
        refine (A2.out _ Ha.out).mono ?_
        rintro e wb ⟨rfl, hbc⟩
        have Hb : Hid (Below w.heap.size w wb) := Ha.out.trans (hbc.mono Ha.out.size)
        go_wp2_with fail
        refine hK.out _ _ ⟨(hbc.block _ (heap_lt hHeld.1)).trans hHeld.1, (hbc.block _ (heap_lt hHeld.2)).trans hHeld.2⟩ (fun hHeld => ?_)
        clear hK K
        try simp only [Act.put, List.setIfInBounds_toArray, List.set_cons_zero, List.set_cons_succ]
        refine wpAnyH_take (i := 8) (oi := { dst := some 25, op := Op.binOp BinOp.eql 25 (Operand.tmp 24) (Operand.const (Value.int IntKind.i64 0)) 25, type := 4, pos := "law.go:107", after := #[{ on := 7, ground := Ground.data }, { on := 4, ground := Ground.guard }], guard := some (4, true) }) (v := .bool b) rfl (by kernel_rfl) (by kernel_rfl) (by kernel_rfl) (fun _ _ _ h => h) (Or.inl ⟨by rfl, by intro W hSw; have := heb; go_simp⟩) hHeld ?_
        try simp only [Act.put, List.setIfInBounds_toArray, List.set_cons_zero, List.set_cons_succ]
        refine wpAnyH_take (i := 12) (oi := { dst := some 29, op := Op.binOp BinOp.eql 4 (Operand.tmp 25) (Operand.tmp 28) 4, type := 4, pos := "law.go:107", after := #[{ on := 8, ground := Ground.data }, { on := 11, ground := Ground.data }, { on := 4, ground := Ground.guard }], guard := some (4, true) }) (v := .bool true) rfl (by kernel_rfl) (by kernel_rfl) (by kernel_rfl) (fun _ _ _ h => h) (Or.inl ⟨by rfl, by intro W hSw; rcases hev with ⟨_, rfl⟩ | ⟨_, rfl⟩ <;> go_simp⟩) hHeld ?_
        try simp only [Act.put, List.setIfInBounds_toArray, List.set_cons_zero, List.set_cons_succ]
        refine wpAnyH_take (i := 13) (oi := { dst := some 30, op := Op.pick (Operand.tmp 21) (Operand.tmp 29) (Operand.const (Value.bool false)), type := 4, pos := "law.go:107", after := #[{ on := 4, ground := Ground.data }, { on := 12, ground := Ground.data }], guard := none }) (v := .bool true) rfl (by kernel_rfl) (by kernel_rfl) (by kernel_rfl) (fun _ _ _ h => h) (Or.inl ⟨by rfl, by intro w hSw; go_simp⟩) hHeld ?_
        try simp only [Act.put, List.setIfInBounds_toArray, List.set_cons_zero, List.set_cons_succ]
        refine wpAnyH_take (i := 14) (oi := { dst := some 11, op := Op.assign (Operand.tmp 30), type := 4, pos := "law.go:107", after := #[{ on := 13, ground := Ground.data }, { on := 7, ground := Ground.chain }, { on := 0, ground := Ground.phase }, { on := 1, ground := Ground.phase }, { on := 2, ground := Ground.phase }, { on := 3, ground := Ground.phase }, { on := 4, ground := Ground.phase }, { on := 5, ground := Ground.phase }, { on := 6, ground := Ground.phase }, { on := 7, ground := Ground.phase }, { on := 8, ground := Ground.phase }, { on := 9, ground := Ground.phase }, { on := 10, ground := Ground.phase }, { on := 11, ground := Ground.phase }, { on := 12, ground := Ground.phase }, { on := 13, ground := Ground.phase }], guard := none }) (v := .bool true) rfl (by kernel_rfl) (by kernel_rfl) (by kernel_rfl) (fun _ _ _ h => h) (Or.inl ⟨by rfl, by intro w hSw; go_simp⟩) hHeld ?_
        try simp only [Act.put, List.setIfInBounds_toArray, List.set_cons_zero, List.set_cons_succ]
        refine wpAnyH_done (by kernel_rfl) ?_ _
        have H1 : Hid (Came w wb R X) := ⟨Hb.out, hHeld.1, hHeld.2⟩
        clear hHeld hbc Ha Hb HB A1 A2 eqv heb hev
        go_wp2_with (first
          | (show wpList _ _ _ ({ dst := some 49, op := _, type := _, pos := _, after := _, guard := _ } :: _) _ _; refine wpList_load_row_w (by rfl) 23 (.tmp 5) rfl w.heap.size rfl 23 R (0, 0) _ H1.out.2.1 Tryd.underlying23 rfl HSR.out ?_; try simp only [Act.put, List.setIfInBounds_toArray, List.set_cons_zero, List.set_cons_succ])
          | (show wpList _ _ _ ({ dst := some 52, op := _, type := _, pos := _, after := _, guard := _ } :: _) _ _; refine wpList_load_row_w (by rfl) 23 (.tmp 8) rfl (w.heap.size + 1) rfl 23 X (0, 0) _ H1.out.2.2 Tryd.underlying23 rfl HSX.out ?_; try simp only [Act.put, List.setIfInBounds_toArray, List.set_cons_zero, List.set_cons_succ])
          | fail)
        refine (B4.out _ H1.out.1).mono ?_
        rintro e wd ⟨rfl, hbd⟩
        replace H1 := hidk (H1.out.keep hbd)
        clear hbd B4
        go_wp2_with (first
          | (show wpList _ _ _ ({ dst := some 58, op := _, type := _, pos := _, after := _, guard := _ } :: _) _ _; refine wpList_load_row_w (by rfl) 23 (.tmp 8) rfl (w.heap.size + 1) rfl 23 X (0, 0) _ H1.out.2.2 Tryd.underlying23 rfl HSX.out ?_; try simp only [Act.put, List.setIfInBounds_toArray, List.set_cons_zero, List.set_cons_succ])
          | (show wpList _ _ _ ({ dst := some 60, op := _, type := _, pos := _, after := _, guard := _ } :: _) _ _; refine wpList_load_row_w (by rfl) 23 (.tmp 5) rfl w.heap.size rfl 23 R (0, 0) _ H1.out.2.1 Tryd.underlying23 rfl HSR.out ?_; try simp only [Act.put, List.setIfInBounds_toArray, List.set_cons_zero, List.set_cons_succ])
          | fail)
        refine (B5.out _ H1.out.1).mono ?_
        rintro e we ⟨rfl, hbe⟩
        replace H1 := hidk (H1.out.keep hbe)
        clear hbe B5
        go_wp2_with fail
        refine (TH.out _ H1.out.1).mono ?_
        rintro e wf ⟨rfl, hbf⟩
        replace H1 := hidk (H1.out.keep hbf)
        clear hbf TH
        go_wp2
        go_ret
        exact ⟨rfl, H1.out.1⟩
    · have k3 : decide ((len4 : Int) ≤ 18) = true := by rw [decide_eq_true_eq]; omega
      have k3n : len4 ≤ 18 := by omega
      clear A4 A5 h18
      rcases cs with k1 | ⟨k1, k2⟩
      all_goals
        go_enter Tryd.func3, Tryd.ntmps3
        go_wp2
        refine wp_region_held_drew (S := (fun W => W.heap[w.heap.size]? = some (.cells R 23 (0, 0)) ∧ W.heap[w.heap.size + 1]? = some (.cells X 23 (0, 0)))) (by kernel_rfl) (show _ ∧ _ from HB.out.2) (fun hHeld => ?_)
        refine wpAnyH_take (i := 0) (oi := { dst := some 17, op := Op.load 23 (Operand.tmp 8), type := 23, pos := "law.go:107", after := #[], guard := none }) (v := .agg X) rfl (by kernel_rfl) (by kernel_rfl) (by kernel_rfl) (fun _ _ _ h => h) (yieldsIf_row (by rfl) 23 (.tmp 8) rfl (w.heap.size + 1) rfl 23 X (0, 0) _ (fun _ h => h.2) Tryd.underlying23 rfl HSX.out) hHeld ?_
        try simp only [Act.put, List.setIfInBounds_toArray, List.set_cons_zero, List.set_cons_succ]
        refine wpAnyH_take (i := 1) (oi := { dst := some 18, op := Op.load 23 (Operand.tmp 8), type := 23, pos := "law.go:107", after := #[], guard := none }) (v := .agg X) rfl (by kernel_rfl) (by kernel_rfl) (by kernel_rfl) (fun _ _ _ h => h) (yieldsIf_row (by rfl) 23 (.tmp 8) rfl (w.heap.size + 1) rfl 23 X (0, 0) _ (fun _ h => h.2) Tryd.underlying23 rfl HSX.out) hHeld ?_
        try simp only [Act.put, List.setIfInBounds_toArray, List.set_cons_zero, List.set_cons_succ]
        refine wpAnyH_ready (rs := [2]) (by kernel_rfl) (by simp) ?_
        refine AllReadyH.cons (o := { dst := some 19, op := Op.call { callee := Callee.value (Operand.func 4), args := #[Operand.tmp 17, Operand.const (Value.int IntKind.i64 1), Operand.const (Value.int IntKind.i64 0), Operand.tmp 18, Operand.const (Value.slice none 0 0)], argTypes := #[23, 3, 3, 23, 24] }, type := 25, pos := "law.go:107", after := #[{ on := 0, ground := Ground.data }, { on := 1, ground := Ground.data }], guard := none }) rfl (fun K hK => ?_) AllReadyH.nil
        go_simp
        refine (A1.out _ HB.out.1.drew).mono ?_
        rintro e wa ⟨rfl, hbc⟩
        have Ha : Hid (Below w.heap.size w wa) := HB.out.1.drew.trans (hbc.mono HB.out.1.size)
        go_wp2_with fail
        refine hK.out _ _ ⟨(hbc.block _ (heap_lt hHeld.1)).trans hHeld.1, (hbc.block _ (heap_lt hHeld.2)).trans hHeld.2⟩ (fun hHeld => ?_)
        clear hK K
        try simp only [Act.put, List.setIfInBounds_toArray, List.set_cons_zero, List.set_cons_succ]
        refine wpAnyH_take (i := 3) (oi := { dst := some 20, op := Op.binOp BinOp.eql 25 (Operand.tmp 19) (Operand.const (Value.int IntKind.i64 0)) 25, type := 4, pos := "law.go:107", after := #[{ on := 2, ground := Ground.data }], guard := none }) (v := .bool true) rfl (by kernel_rfl) (by kernel_rfl) (by kernel_rfl) (fun _ _ _ h => h) (Or.inl ⟨by rfl, by intro w hSw; go_simp⟩) hHeld ?_
        try simp only [Act.put, List.setIfInBounds_toArray, List.set_cons_zero, List.set_cons_succ]
        refine wpAnyH_take (i := 4) (oi := { dst := some 21, op := Op.move (Operand.tmp 20), type := 4, pos := "law.go:107", after := #[{ on := 3, ground := Ground.data }, { on := 2, ground := Ground.chain }], guard := none }) (v := .bool true) rfl (by kernel_rfl) (by kernel_rfl) (by kernel_rfl) (fun _ _ _ h => h) (Or.inl ⟨by rfl, by intro w hSw; go_simp⟩) hHeld ?_
        try simp only [Act.put, List.setIfInBounds_toArray, List.set_cons_zero, List.set_cons_succ]
        refine wpAnyH_take (i := 5) (oi := { dst := some 22, op := Op.load 23 (Operand.tmp 5), type := 23, pos := "law.go:107", after := #[{ on := 4, ground := Ground.guard }], guard := some (4, true) }) (v := .agg R) rfl (by kernel_rfl) (by kernel_rfl) (by kernel_rfl) (fun _ _ _ h => h) (yieldsIf_row (by rfl) 23 (.tmp 5) rfl w.heap.size rfl 23 R (0, 0) _ (fun _ h => h.1) Tryd.underlying23 rfl HSR.out) hHeld ?_
        try simp only [Act.put, List.setIfInBounds_toArray, List.set_cons_zero, List.set_cons_succ]
        refine wpAnyH_take (i := 6) (oi := { dst := some 23, op := Op.load 23 (Operand.tmp 8), type := 23, pos := "law.go:107", after := #[{ on := 4, ground := Ground.guard }], guard := some (4, true) }) (v := .agg X) rfl (by kernel_rfl) (by kernel_rfl) (by kernel_rfl) (fun _ _ _ h => h) (yieldsIf_row (by rfl) 23 (.tmp 8) rfl (w.heap.size + 1) rfl 23 X (0, 0) _ (fun _ h => h.2) Tryd.underlying23 rfl HSX.out) hHeld ?_
        try simp only [Act.put, List.setIfInBounds_toArray, List.set_cons_zero, List.set_cons_succ]
        refine wpAnyH_take (i := 9) (oi := { dst := some 26, op := Op.load 23 (Operand.tmp 5), type := 23, pos := "law.go:107", after := #[{ on := 4, ground := Ground.guard }], guard := some (4, true) }) (v := .agg R) rfl (by kernel_rfl) (by kernel_rfl) (by kernel_rfl) (fun _ _ _ h => h) (yieldsIf_row (by rfl) 23 (.tmp 5) rfl w.heap.size rfl 23 R (0, 0) _ (fun _ h => h.1) Tryd.underlying23 rfl HSR.out) hHeld ?_
        try simp only [Act.put, List.setIfInBounds_toArray, List.set_cons_zero, List.set_cons_succ]
        refine wpAnyH_take (i := 10) (oi := { dst := some 27, op := Op.load 23 (Operand.tmp 8), type := 23, pos := "law.go:107", after := #[{ on := 4, ground := Ground.guard }], guard := some (4, true) }) (v := .agg X) rfl (by kernel_rfl) (by kernel_rfl) (by kernel_rfl) (fun _ _ _ h => h) (yieldsIf_row (by rfl) 23 (.tmp 8) rfl (w.heap.size + 1) rfl 23 X (0, 0) _ (fun _ h => h.2) Tryd.underlying23 rfl HSX.out) hHeld ?_
        try simp only [Act.put, List.setIfInBounds_toArray, List.set_cons_zero, List.set_cons_succ]
        refine wpAnyH_take (i := 11) (oi := { dst := some 28, op := Op.binOp BinOp.eql 23 (Operand.tmp 26) (Operand.tmp 27) 23, type := 4, pos := "law.go:107", after := #[{ on := 9, ground := Ground.data }, { on := 10, ground := Ground.data }, { on := 4, ground := Ground.guard }], guard := some (4, true) }) (v := .bool b) rfl (by kernel_rfl) (by kernel_rfl) (by kernel_rfl) (fun _ _ _ h => h) (Or.inl ⟨by rfl, by intro W hSw; have := eqv W; go_simp⟩) hHeld ?_
        try simp only [Act.put, List.setIfInBounds_toArray, List.set_cons_zero, List.set_cons_succ]
        refine wpAnyH_ready (rs := [7]) (by kernel_rfl) (by simp) ?_
        refine AllReadyH.cons (o := { dst := some 24, op := Op.call { callee := Callee.value (Operand.func 4), args := #[Operand.tmp 22, Operand.const (Value.int IntKind.i64 1), Operand.const (Value.int IntKind.i64 0), Operand.tmp 23, Operand.const (Value.slice none 0 0)], argTypes := #[23, 3, 3, 23, 24] }, type := 25, pos := "law.go:107", after := #[{ on := 5, ground := Ground.data }, { on := 6, ground := Ground.data }, { on := 4, ground := Ground.chain }, { on := 4, ground := Ground.guard }], guard := some (4, true) }) rfl (fun K hK => ?_) AllReadyH.nil
        go_simp
        clear hbc
        refine (A2.out _ Ha.out).mono ?_
        rintro e wb ⟨rfl, hbc⟩
        have Hb : Hid (Below w.heap.size w wb) := Ha.out.trans (hbc.mono Ha.out.size)
        go_wp2_with fail
        refine hK.out _ _ ⟨(hbc.block _ (heap_lt hHeld.1)).trans hHeld.1, (hbc.block _ (heap_lt hHeld.2)).trans hHeld.2⟩ (fun hHeld => ?_)
        clear hK K
        try simp only [Act.put, List.setIfInBounds_toArray, List.set_cons_zero, List.set_cons_succ]
        refine wpAnyH_take (i := 8) (oi := { dst := some 25, op := Op.binOp BinOp.eql 25 (Operand.tmp 24) (Operand.const (Value.int IntKind.i64 0)) 25, type := 4, pos := "law.go:107", after := #[{ on := 7, ground := Ground.data }, { on := 4, ground := Ground.guard }], guard := some (4, true) }) (v := .bool b) rfl (by kernel_rfl) (by kernel_rfl) (by kernel_rfl) (fun _ _ _ h => h) (Or.inl ⟨by rfl, by intro W hSw; have := heb; go_simp⟩) hHeld ?_
        try simp only [Act.put, List.setIfInBounds_toArray, List.set_cons_zero, List.set_cons_succ]
        refine wpAnyH_take (i := 12) (oi := { dst := some 29, op := Op.binOp BinOp.eql 4 (Operand.tmp 25) (Operand.tmp 28) 4, type := 4, pos := "law.go:107", after := #[{ on := 8, ground := Ground.data }, { on := 11, ground := Ground.data }, { on := 4, ground := Ground.guard }], guard := some (4, true) }) (v := .bool true) rfl (by kernel_rfl) (by kernel_rfl) (by kernel_rfl) (fun _ _ _ h => h) (Or.inl ⟨by rfl, by intro W hSw; rcases hev with ⟨_, rfl⟩ | ⟨_, rfl⟩ <;> go_simp⟩) hHeld ?_
        try simp only [Act.put, List.setIfInBounds_toArray, List.set_cons_zero, List.set_cons_succ]
        refine wpAnyH_take (i := 13) (oi := { dst := some 30, op := Op.pick (Operand.tmp 21) (Operand.tmp 29) (Operand.const (Value.bool false)), type := 4, pos := "law.go:107", after := #[{ on := 4, ground := Ground.data }, { on := 12, ground := Ground.data }], guard := none }) (v := .bool true) rfl (by kernel_rfl) (by kernel_rfl) (by kernel_rfl) (fun _ _ _ h => h) (Or.inl ⟨by rfl, by intro w hSw; go_simp⟩) hHeld ?_
        try simp only [Act.put, List.setIfInBounds_toArray, List.set_cons_zero, List.set_cons_succ]
        refine wpAnyH_take (i := 14) (oi := { dst := some 11, op := Op.assign (Operand.tmp 30), type := 4, pos := "law.go:107", after := #[{ on := 13, ground := Ground.data }, { on := 7, ground := Ground.chain }, { on := 0, ground := Ground.phase }, { on := 1, ground := Ground.phase }, { on := 2, ground := Ground.phase }, { on := 3, ground := Ground.phase }, { on := 4, ground := Ground.phase }, { on := 5, ground := Ground.phase }, { on := 6, ground := Ground.phase }, { on := 7, ground := Ground.phase }, { on := 8, ground := Ground.phase }, { on := 9, ground := Ground.phase }, { on := 10, ground := Ground.phase }, { on := 11, ground := Ground.phase }, { on := 12, ground := Ground.phase }, { on := 13, ground := Ground.phase }], guard := none }) (v := .bool true) rfl (by kernel_rfl) (by kernel_rfl) (by kernel_rfl) (fun _ _ _ h => h) (Or.inl ⟨by rfl, by intro w hSw; go_simp⟩) hHeld ?_
        try simp only [Act.put, List.setIfInBounds_toArray, List.set_cons_zero, List.set_cons_succ]
        refine wpAnyH_done (by kernel_rfl) ?_ _
        have H1 : Hid (Came w wb R X) := ⟨Hb.out, hHeld.1, hHeld.2⟩
        clear hHeld hbc Ha Hb HB A1 A2 eqv heb hev
        go_wp2_with fail
        refine (TH.out _ H1.out.1).mono ?_
        rintro e wf ⟨rfl, hbf⟩
        replace H1 := hidk (H1.out.keep hbf)
        clear hbf TH
        go_wp2
        go_ret
        exact ⟨rfl, H1.out.1⟩
end Go.Proofs.YtehfoeedlchphabDoor
