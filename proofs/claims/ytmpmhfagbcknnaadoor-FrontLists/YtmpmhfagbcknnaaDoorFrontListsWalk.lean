/- FrontLists answers true at every list. -/
import Derived.Test.YtmpmhfagbcknnaaDoorThree4
import Derived.Test.YtmpmhfagbcknnaaDoorOwns
namespace Go.Proofs.YtmpmhfagbcknnaaDoor
open Go.RowKit Sums
set_option linter.unusedVariables false
set_option linter.unusedSimpArgs false

theorem keepL {w W W' : World} {x y a : Option Addr} {n cx m cy cap gf : Nat} {z pk : List (List UInt8)} {F : List Value} (h : LReads W a n cap z ∧ LReads W x n cx z ∧ LReads W y m cy pk ∧ W.rangeAt gf 0 F ∧ Below w.heap.size w W) (hb : Below W.heap.size W W') :
    LReads W' a n cap z ∧ LReads W' x n cx z ∧ LReads W' y m cy pk ∧ W'.rangeAt gf 0 F ∧ Below w.heap.size w W' :=
  ⟨h.1.keep hb, h.2.1.keep hb, h.2.2.1.keep hb, range_keep hb h.2.2.2.1, h.2.2.2.2.trans (hb.mono h.2.2.2.2.size)⟩

set_option maxHeartbeats 2000000 in
theorem frontLists_of (fr : FrontC) (a0 : Option Addr) (len0 cap0 : Nat) (z0 : List (List UInt8)) (w : World) (w0 : LReads w a0 len0 cap0 z0) (hK2 : Table 0 w) (hK : TabF w) :
    Calls Tryd.prog 5 #[.slice a0 len0 cap0] w fun e w' => e = .returned (.bool true) ∧ Below w.heap.size w w' := by
  have hmx : len0 ≤ 9223372036854775807 := by have := w0.2.2.2.1; unfold maxLen at this; omega
  by_cases hlong : 200 < len0
  · have hd : decide ((200 : Int) < (len0 : Int)) = true := by rw [decide_eq_true_eq]; omega
    go_enter Tryd.func5, Tryd.ntmps5
    go_wp2
    go_ret
    exact ⟨rfl, Below.refl _ _⟩
  · have hd : decide ((200 : Int) < (len0 : Int)) = false := by rw [decide_eq_false_iff_not]; omega
    have HW : Hid (LReads w a0 len0 cap0 z0) := w0
    obtain ⟨m, HM⟩ : ∃ m, Hid (m = (peaks z0).length) := ⟨_, (rfl : (peaks z0).length = _)⟩
    have OW : Hid (Calls Tryd.prog 8 #[.slice a0 len0 cap0] w fun e w' => ∃ x cx, e = .returned (.slice x len0 cx) ∧ LReads w' x len0 cx z0 ∧ Below w.heap.size w w') := own_reads a0 len0 cap0 z0 w w0 (by omega)
    have T : Hid (∀ W, Below w.heap.size w W → Calls Tryd.prog 13 #[] W fun e w' => e = .returned (.bool true) ∧ Below W.heap.size W w') := fun W hb => three4_true fr W (hK.keep hb)
    have OC : Hid (∀ W, Below w.heap.size w W → Calls Tryd.prog 17 #[.slice a0 len0 cap0] W fun e w' => ∃ y cy, e = .returned (.tuple #[.agg #[.int .i64 len0, .slice y m cy], .int .i64 0]) ∧ LReads w' y m cy (peaks z0) ∧ Below W.heap.size W w') := fun W hb => by
      rw [HM.out]
      exact fr.of_ok a0 len0 cap0 z0 W (w0.keep hb) (by omega) (hK.keep hb)
    have RC : Hid (∀ W x cx, Below w.heap.size w W → LReads W x len0 cx z0 → Calls Tryd.prog 18 #[.slice x len0 cx] W fun e w' => ∃ y cy, e = .returned (.slice y m cy) ∧ LReads w' y m cy (peaks z0) ∧ Below W.heap.size W w') := fun W x cx hb hx => by
      rw [HM.out]
      exact refFrontOf_any x len0 cx z0 W hx (by omega) (hK2.keep hb)
    have DG : Hid (∀ W x cx y cy, LReads W x m cx (peaks z0) → LReads W y m cy (peaks z0) → Calls Tryd.prog 14 #[.slice x m cx, .slice y m cy] W fun e w' => e = .returned (.bool true) ∧ Below W.heap.size W w') := fun W x cx y cy h1 h2 => same_digs x y m cx cy _ W h1 h2
    have DL : Hid (∀ W x cx, LReads W a0 len0 cap0 z0 → LReads W x len0 cx z0 → Calls Tryd.prog 14 #[.slice a0 len0 cap0, .slice x len0 cx] W fun e w' => e = .returned (.bool true) ∧ Below W.heap.size W w') := fun W x cx h1 h2 => same_digs a0 x len0 cap0 cx z0 W h1 h2
    generalize peaks z0 = pk at HM OC RC DG
    clear hK hK2 w0 HM
    go_enter Tryd.func5, Tryd.ntmps5
    go_wp2_with fail
    refine OW.out.mono ?_
    rintro e w1 ⟨x, cx, rfl, hx, hb1⟩
    have H1 : Hid (LReads w1 a0 len0 cap0 z0 ∧ LReads w1 x len0 cx z0 ∧ Below w.heap.size w w1) := ⟨HW.out.keep hb1, hx, hb1⟩
    clear hx hb1 OW
    go_wp2_with fail
    refine (OC.out _ H1.out.2.2).mono ?_
    rintro e w2 ⟨y, cy, rfl, hy, hb2⟩
    have hal : Below w2.heap.size w2 (w2.alloc (.cells #[.int .i64 len0, .slice y m cy] 25)) := (Below.refl _ _).alloc (Nat.le_refl _) _
    have H2 : Hid (LReads (w2.alloc (.cells #[.int .i64 len0, .slice y m cy] 25)) a0 len0 cap0 z0 ∧ LReads (w2.alloc (.cells #[.int .i64 len0, .slice y m cy] 25)) x len0 cx z0 ∧ LReads (w2.alloc (.cells #[.int .i64 len0, .slice y m cy] 25)) y m cy pk ∧ (w2.alloc (.cells #[.int .i64 len0, .slice y m cy] 25)).rangeAt w2.heap.size 0 [.int .i64 len0, .slice y m cy] ∧ Below w.heap.size w (w2.alloc (.cells #[.int .i64 len0, .slice y m cy] 25))) :=
      ⟨(H1.out.1.keep hb2).keep hal, (H1.out.2.1.keep hb2).keep hal, hy.keep hal, range_row (heap_alloc_new w2 _), (H1.out.2.2.trans (hb2.mono H1.out.2.2.size)).trans (hal.mono (Nat.le_trans H1.out.2.2.size hb2.size))⟩
    clear hy hb2 hal OC H1
    go_wp2
    generalize w2.alloc (.cells #[.int .i64 len0, .slice y m cy] 25) = w3 at H2 ⊢
    generalize w2.heap.size = gf at H2 ⊢
    refine wp_region_held_drew (S := (fun W => LReads W a0 len0 cap0 z0 ∧ LReads W x len0 cx z0 ∧ LReads W y m cy pk ∧ W.rangeAt gf 0 [.int .i64 len0, .slice y m cy] ∧ Below w.heap.size w W)) (by kernel_rfl) (keepL H2.out (Below.refl _ _).drew) (fun hHeld => ?_)
    refine wpAnyH_ready (rs := [0]) (by kernel_rfl) (by simp) ?_
    refine AllReadyH.cons (o := { dst := some 16, op := Op.call { callee := Callee.value (Operand.func 13), args := #[], argTypes := #[] }, type := 4, pos := "law.go:71", after := #[], guard := none }) rfl (fun K hK => ?_) AllReadyH.nil
    go_simp
    refine (T.out _ hHeld.2.2.2.2).mono ?_
    rintro e w4 ⟨rfl, hb4⟩
    go_wp2_with fail
    refine hK.out _ _ (keepL hHeld hb4) (fun hHeld => ?_)
    clear hK K
    try simp only [Act.put, List.setIfInBounds_toArray, List.set_cons_zero, List.set_cons_succ]
    refine wpAnyH_take (i := 1) (oi := { dst := some 17, op := Op.move (Operand.tmp 16), type := 4, pos := "law.go:71", after := #[{ on := 0, ground := Ground.data }, { on := 0, ground := Ground.chain }], guard := none }) (v := .bool true) rfl (by kernel_rfl) (by kernel_rfl) (by kernel_rfl) (fun _ _ _ h => h) (Or.inl ⟨by rfl, by intro w hSw; go_simp⟩) hHeld ?_
    try simp only [Act.put, List.setIfInBounds_toArray, List.set_cons_zero, List.set_cons_succ]
    refine wpAnyH_take (i := 2) (oi := { dst := some 18, op := Op.move (Operand.tmp 5), type := 26, pos := "law.go:71", after := #[{ on := 1, ground := Ground.guard }], guard := some (1, true) }) (v := .int .i64 0) rfl (by kernel_rfl) (by kernel_rfl) (by kernel_rfl) (fun _ _ _ h => h) (Or.inl ⟨by rfl, by intro w hSw; go_simp⟩) hHeld ?_
    try simp only [Act.put, List.setIfInBounds_toArray, List.set_cons_zero, List.set_cons_succ]
    refine wpAnyH_take (i := 3) (oi := { dst := some 19, op := Op.binOp BinOp.eql 26 (Operand.tmp 18) (Operand.const (Value.int IntKind.i64 0)) 26, type := 4, pos := "law.go:71", after := #[{ on := 2, ground := Ground.data }, { on := 1, ground := Ground.guard }], guard := some (1, true) }) (v := .bool true) rfl (by kernel_rfl) (by kernel_rfl) (by kernel_rfl) (fun _ _ _ h => h) (Or.inl ⟨by rfl, by intro w hSw; go_simp⟩) hHeld ?_
    try simp only [Act.put, List.setIfInBounds_toArray, List.set_cons_zero, List.set_cons_succ]
    refine wpAnyH_take (i := 4) (oi := { dst := some 20, op := Op.pick (Operand.tmp 17) (Operand.tmp 19) (Operand.const (Value.bool false)), type := 4, pos := "law.go:71", after := #[{ on := 1, ground := Ground.data }, { on := 3, ground := Ground.data }], guard := none }) (v := .bool true) rfl (by kernel_rfl) (by kernel_rfl) (by kernel_rfl) (fun _ _ _ h => h) (Or.inl ⟨by rfl, by intro w hSw; go_simp⟩) hHeld ?_
    try simp only [Act.put, List.setIfInBounds_toArray, List.set_cons_zero, List.set_cons_succ]
    refine wpAnyH_take (i := 5) (oi := { dst := some 21, op := Op.move (Operand.tmp 20), type := 4, pos := "law.go:71", after := #[{ on := 4, ground := Ground.data }, { on := 1, ground := Ground.chain }], guard := none }) (v := .bool true) rfl (by kernel_rfl) (by kernel_rfl) (by kernel_rfl) (fun _ _ _ h => h) (Or.inl ⟨by rfl, by intro w hSw; go_simp⟩) hHeld ?_
    try simp only [Act.put, List.setIfInBounds_toArray, List.set_cons_zero, List.set_cons_succ]
    refine wpAnyH_take (i := 6) (oi := { dst := some 22, op := Op.fieldAddr 25 (Operand.tmp 4) 0, type := 0, pos := "law.go:71", after := #[{ on := 5, ground := Ground.guard }], guard := some (5, true) }) (v := .pointer (some ⟨gf, 0, none⟩)) rfl (by kernel_rfl) (by kernel_rfl) (by kernel_rfl) (fun _ _ _ h => h) (Or.inl ⟨by rfl, by intro w hSw; go_simp⟩) hHeld ?_
    try simp only [Act.put, List.setIfInBounds_toArray, List.set_cons_zero, List.set_cons_succ]
    refine wpAnyH_take (i := 7) (oi := { dst := some 23, op := Op.load 3 (Operand.tmp 22), type := 3, pos := "law.go:71", after := #[{ on := 6, ground := Ground.data }, { on := 5, ground := Ground.guard }], guard := some (5, true) }) (v := .int .i64 len0) rfl (by kernel_rfl) (by kernel_rfl) (by kernel_rfl) (fun _ _ _ h => h) (Or.inl ⟨by rfl, by intro W hSw; have hc0 := hSw.2.2.2.1 0 _ rfl; simp only [Nat.add_zero] at hc0; go_simp⟩) hHeld ?_
    try simp only [Act.put, List.setIfInBounds_toArray, List.set_cons_zero, List.set_cons_succ]
    refine wpAnyH_take (i := 8) (oi := { dst := some 24, op := Op.move (Operand.tmp 0), type := 22, pos := "law.go:71", after := #[{ on := 5, ground := Ground.guard }], guard := some (5, true) }) (v := .slice a0 len0 cap0) rfl (by kernel_rfl) (by kernel_rfl) (by kernel_rfl) (fun _ _ _ h => h) (Or.inl ⟨by rfl, by intro w hSw; go_simp⟩) hHeld ?_
    try simp only [Act.put, List.setIfInBounds_toArray, List.set_cons_zero, List.set_cons_succ]
    refine wpAnyH_take (i := 9) (oi := { dst := some 25, op := Op.call { callee := Callee.builtin Builtin.len, args := #[Operand.tmp 24], argTypes := #[22] }, type := 3, pos := "law.go:71", after := #[{ on := 8, ground := Ground.data }, { on := 5, ground := Ground.guard }], guard := some (5, true) }) (v := .int .i64 len0) rfl (by kernel_rfl) (by kernel_rfl) (by kernel_rfl) (fun _ _ _ h => h) (Or.inl ⟨by rfl, by intro w hSw; go_simp⟩) hHeld ?_
    try simp only [Act.put, List.setIfInBounds_toArray, List.set_cons_zero, List.set_cons_succ]
    refine wpAnyH_take (i := 10) (oi := { dst := some 26, op := Op.binOp BinOp.eql 3 (Operand.tmp 23) (Operand.tmp 25) 3, type := 4, pos := "law.go:71", after := #[{ on := 7, ground := Ground.data }, { on := 9, ground := Ground.data }, { on := 5, ground := Ground.guard }], guard := some (5, true) }) (v := .bool true) rfl (by kernel_rfl) (by kernel_rfl) (by kernel_rfl) (fun _ _ _ h => h) (Or.inl ⟨by rfl, by intro w hSw; go_simp⟩) hHeld ?_
    try simp only [Act.put, List.setIfInBounds_toArray, List.set_cons_zero, List.set_cons_succ]
    refine wpAnyH_take (i := 11) (oi := { dst := some 27, op := Op.pick (Operand.tmp 21) (Operand.tmp 26) (Operand.const (Value.bool false)), type := 4, pos := "law.go:71", after := #[{ on := 5, ground := Ground.data }, { on := 10, ground := Ground.data }], guard := none }) (v := .bool true) rfl (by kernel_rfl) (by kernel_rfl) (by kernel_rfl) (fun _ _ _ h => h) (Or.inl ⟨by rfl, by intro w hSw; go_simp⟩) hHeld ?_
    try simp only [Act.put, List.setIfInBounds_toArray, List.set_cons_zero, List.set_cons_succ]
    refine wpAnyH_take (i := 12) (oi := { dst := some 28, op := Op.move (Operand.tmp 27), type := 4, pos := "law.go:71", after := #[{ on := 11, ground := Ground.data }, { on := 5, ground := Ground.chain }], guard := none }) (v := .bool true) rfl (by kernel_rfl) (by kernel_rfl) (by kernel_rfl) (fun _ _ _ h => h) (Or.inl ⟨by rfl, by intro w hSw; go_simp⟩) hHeld ?_
    try simp only [Act.put, List.setIfInBounds_toArray, List.set_cons_zero, List.set_cons_succ]
    refine wpAnyH_take (i := 13) (oi := { dst := some 29, op := Op.fieldAddr 25 (Operand.tmp 4) 1, type := 0, pos := "law.go:71", after := #[{ on := 12, ground := Ground.guard }], guard := some (12, true) }) (v := .pointer (some ⟨gf, 1, none⟩)) rfl (by kernel_rfl) (by kernel_rfl) (by kernel_rfl) (fun _ _ _ h => h) (Or.inl ⟨by rfl, by intro w hSw; go_simp⟩) hHeld ?_
    try simp only [Act.put, List.setIfInBounds_toArray, List.set_cons_zero, List.set_cons_succ]
    refine wpAnyH_take (i := 14) (oi := { dst := some 30, op := Op.load 22 (Operand.tmp 29), type := 22, pos := "law.go:71", after := #[{ on := 13, ground := Ground.data }, { on := 12, ground := Ground.guard }], guard := some (12, true) }) (v := .slice y m cy) rfl (by kernel_rfl) (by kernel_rfl) (by kernel_rfl) (fun _ _ _ h => h) (Or.inl ⟨by rfl, by intro W hSw; have hc1 := hSw.2.2.2.1 1 _ rfl; simp only [Nat.zero_add] at hc1; go_simp⟩) hHeld ?_
    try simp only [Act.put, List.setIfInBounds_toArray, List.set_cons_zero, List.set_cons_succ]
    refine wpAnyH_take (i := 15) (oi := { dst := some 31, op := Op.move (Operand.tmp 3), type := 22, pos := "law.go:71", after := #[{ on := 12, ground := Ground.guard }], guard := some (12, true) }) (v := .slice x len0 cx) rfl (by kernel_rfl) (by kernel_rfl) (by kernel_rfl) (fun _ _ _ h => h) (Or.inl ⟨by rfl, by intro w hSw; go_simp⟩) hHeld ?_
    try simp only [Act.put, List.setIfInBounds_toArray, List.set_cons_zero, List.set_cons_succ]
    refine wpAnyH_ready (rs := [16]) (by kernel_rfl) (by simp) ?_
    refine AllReadyH.cons (o := { dst := some 32, op := Op.call { callee := Callee.value (Operand.func 18), args := #[Operand.tmp 31], argTypes := #[22] }, type := 22, pos := "law.go:71", after := #[{ on := 15, ground := Ground.data }, { on := 12, ground := Ground.chain }, { on := 12, ground := Ground.guard }], guard := some (12, true) }) rfl (fun K hK => ?_) AllReadyH.nil
    go_simp
    refine (RC.out _ _ _ hHeld.2.2.2.2 hHeld.2.1).mono ?_
    rintro e w5 ⟨v, cv, rfl, hv, hb5⟩
    have HV := hidk hv
    go_wp2_with fail
    refine hK.out _ _ (keepL hHeld hb5) (fun hHeld => ?_)
    clear hK K
    try simp only [Act.put, List.setIfInBounds_toArray, List.set_cons_zero, List.set_cons_succ]
    refine wpAnyH_ready (rs := [17]) (by kernel_rfl) (by simp) ?_
    refine AllReadyH.cons (o := { dst := some 33, op := Op.call { callee := Callee.value (Operand.func 14), args := #[Operand.tmp 30, Operand.tmp 32], argTypes := #[22, 22] }, type := 4, pos := "law.go:71", after := #[{ on := 14, ground := Ground.data }, { on := 16, ground := Ground.data }, { on := 16, ground := Ground.chain }, { on := 12, ground := Ground.guard }], guard := some (12, true) }) rfl (fun K hK => ?_) AllReadyH.nil
    go_simp
    refine (DG.out _ _ _ _ _ hHeld.2.2.1 HV.out).mono ?_
    rintro e w6 ⟨rfl, hb6⟩
    go_wp2_with fail
    refine hK.out _ _ (keepL hHeld hb6) (fun hHeld => ?_)
    clear hK K
    try simp only [Act.put, List.setIfInBounds_toArray, List.set_cons_zero, List.set_cons_succ]
    refine wpAnyH_take (i := 18) (oi := { dst := some 34, op := Op.pick (Operand.tmp 28) (Operand.tmp 33) (Operand.const (Value.bool false)), type := 4, pos := "law.go:71", after := #[{ on := 12, ground := Ground.data }, { on := 17, ground := Ground.data }], guard := none }) (v := .bool true) rfl (by kernel_rfl) (by kernel_rfl) (by kernel_rfl) (fun _ _ _ h => h) (Or.inl ⟨by rfl, by intro w hSw; go_simp⟩) hHeld ?_
    try simp only [Act.put, List.setIfInBounds_toArray, List.set_cons_zero, List.set_cons_succ]
    refine wpAnyH_take (i := 19) (oi := { dst := some 35, op := Op.move (Operand.tmp 34), type := 4, pos := "law.go:71", after := #[{ on := 18, ground := Ground.data }, { on := 17, ground := Ground.chain }], guard := none }) (v := .bool true) rfl (by kernel_rfl) (by kernel_rfl) (by kernel_rfl) (fun _ _ _ h => h) (Or.inl ⟨by rfl, by intro w hSw; go_simp⟩) hHeld ?_
    try simp only [Act.put, List.setIfInBounds_toArray, List.set_cons_zero, List.set_cons_succ]
    refine wpAnyH_take (i := 20) (oi := { dst := some 36, op := Op.move (Operand.tmp 0), type := 22, pos := "law.go:71", after := #[{ on := 19, ground := Ground.guard }], guard := some (19, true) }) (v := .slice a0 len0 cap0) rfl (by kernel_rfl) (by kernel_rfl) (by kernel_rfl) (fun _ _ _ h => h) (Or.inl ⟨by rfl, by intro w hSw; go_simp⟩) hHeld ?_
    try simp only [Act.put, List.setIfInBounds_toArray, List.set_cons_zero, List.set_cons_succ]
    refine wpAnyH_take (i := 21) (oi := { dst := some 37, op := Op.move (Operand.tmp 3), type := 22, pos := "law.go:71", after := #[{ on := 19, ground := Ground.guard }], guard := some (19, true) }) (v := .slice x len0 cx) rfl (by kernel_rfl) (by kernel_rfl) (by kernel_rfl) (fun _ _ _ h => h) (Or.inl ⟨by rfl, by intro w hSw; go_simp⟩) hHeld ?_
    try simp only [Act.put, List.setIfInBounds_toArray, List.set_cons_zero, List.set_cons_succ]
    refine wpAnyH_ready (rs := [22]) (by kernel_rfl) (by simp) ?_
    refine AllReadyH.cons (o := { dst := some 38, op := Op.call { callee := Callee.value (Operand.func 14), args := #[Operand.tmp 36, Operand.tmp 37], argTypes := #[22, 22] }, type := 4, pos := "law.go:71", after := #[{ on := 20, ground := Ground.data }, { on := 21, ground := Ground.data }, { on := 19, ground := Ground.chain }, { on := 19, ground := Ground.guard }], guard := some (19, true) }) rfl (fun K hK => ?_) AllReadyH.nil
    go_simp
    refine (DL.out _ _ _ hHeld.1 hHeld.2.1).mono ?_
    rintro e w7 ⟨rfl, hb7⟩
    go_wp2_with fail
    refine hK.out _ _ (keepL hHeld hb7) (fun hHeld => ?_)
    clear hK K
    try simp only [Act.put, List.setIfInBounds_toArray, List.set_cons_zero, List.set_cons_succ]
    refine wpAnyH_take (i := 23) (oi := { dst := some 39, op := Op.pick (Operand.tmp 35) (Operand.tmp 38) (Operand.const (Value.bool false)), type := 4, pos := "law.go:71", after := #[{ on := 19, ground := Ground.data }, { on := 22, ground := Ground.data }], guard := none }) (v := .bool true) rfl (by kernel_rfl) (by kernel_rfl) (by kernel_rfl) (fun _ _ _ h => h) (Or.inl ⟨by rfl, by intro w hSw; go_simp⟩) hHeld ?_
    try simp only [Act.put, List.setIfInBounds_toArray, List.set_cons_zero, List.set_cons_succ]
    refine wpAnyH_take (i := 24) (oi := { dst := some 2, op := Op.assign (Operand.tmp 39), type := 4, pos := "law.go:71", after := #[{ on := 23, ground := Ground.data }, { on := 22, ground := Ground.chain }, { on := 0, ground := Ground.phase }, { on := 1, ground := Ground.phase }, { on := 2, ground := Ground.phase }, { on := 3, ground := Ground.phase }, { on := 4, ground := Ground.phase }, { on := 5, ground := Ground.phase }, { on := 6, ground := Ground.phase }, { on := 7, ground := Ground.phase }, { on := 8, ground := Ground.phase }, { on := 9, ground := Ground.phase }, { on := 10, ground := Ground.phase }, { on := 11, ground := Ground.phase }, { on := 12, ground := Ground.phase }, { on := 13, ground := Ground.phase }, { on := 14, ground := Ground.phase }, { on := 15, ground := Ground.phase }, { on := 16, ground := Ground.phase }, { on := 17, ground := Ground.phase }, { on := 18, ground := Ground.phase }, { on := 19, ground := Ground.phase }, { on := 20, ground := Ground.phase }, { on := 21, ground := Ground.phase }, { on := 22, ground := Ground.phase }, { on := 23, ground := Ground.phase }], guard := none }) (v := .bool true) rfl (by kernel_rfl) (by kernel_rfl) (by kernel_rfl) (fun _ _ _ h => h) (Or.inl ⟨by rfl, by intro w hSw; go_simp⟩) hHeld ?_
    try simp only [Act.put, List.setIfInBounds_toArray, List.set_cons_zero, List.set_cons_succ]
    refine wpAnyH_done (by kernel_rfl) ?_ _
    go_wp2
    go_ret
    exact ⟨rfl, hHeld.2.2.2.2⟩
end Go.Proofs.YtmpmhfagbcknnaaDoor
