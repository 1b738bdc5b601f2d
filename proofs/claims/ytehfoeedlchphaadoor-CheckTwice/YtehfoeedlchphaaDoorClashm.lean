/- What check.Clash answers. -/
import Derived.Test.YtehfoeedlchphaaDoorInclm
namespace Go.Proofs.YtehfoeedlchphaaDoor
open Go.RowKit Sums
set_option linter.unusedVariables false
set_option linter.unusedSimpArgs false

theorem part_at (l : List UInt8) (off : Nat) (m : List UInt8) (h : (l.drop off).take 32 = m) (w : World) : (Go.part 23 (cellsOf l).toArray off).run Tryd.prog w = .ok (.agg (cellsOf m).toArray) w := by
  have e : (cellsOf l).toArray.extract off (off + 32) = (cellsOf m).toArray := by
    rw [← h, List.extract_toArray, List.extract_eq_take_drop, Nat.add_sub_cancel_left]
    unfold cellsOf
    rw [List.map_take, List.map_drop]
  simp [Go.part, isAgg, run_underlying Tryd.underlying23, sizeOfD]
  simpa using e
theorem heldK : Tryd.prog.stoodInHeld 57 = false := by kernel_rfl
theorem neqKnot (k1 k2 : List UInt8) (h1 : k1.length = 64) (h2 : k2.length = 64) (A B : Array Value) (HA : Hid (A = (cellsOf k1).toArray)) (HB : Hid (B = (cellsOf k2).toArray)) (b : Bool) (hb : (!decide (k1 = k2)) = b) (w : World) :
    (binOp .neq 57 (.agg A) (.agg B)).run Tryd.prog w = .ok (.bool b) w := by
  have e1 : k1 = k1.take 32 ++ k1.drop 32 := (List.take_append_drop 32 k1).symm
  have e2 : k2 = k2.take 32 ++ k2.drop 32 := (List.take_append_drop 32 k2).symm
  have q1 := fun W => run_equalIn_bytes (P := Tryd.prog) W 9997 23 5 32 Tryd.underlying23 Tryd.underlying5 sizeOf5 (k1.take 32) (k2.take 32) (by simp; omega) (by simp; omega)
  have q2 := fun W => run_equalIn_bytes (P := Tryd.prog) W 9997 23 5 32 Tryd.underlying23 Tryd.underlying5 sizeOf5 (k1.drop 32) (k2.drop 32) (by simp; omega) (by simp; omega)
  have hf : Tryd.prog.fieldsOf 57 = #[{ name := "left", type := 23, offset := 0, embedded := false, tag := "", pkgPath := "estreat/check", byteOffset := 0 }, { name := "right", type := 23, offset := 32, embedded := false, tag := "", pkgPath := "estreat/check", byteOffset := 32 }] := by
    unfold Program.fieldsOf; rw [Tryd.underlying57]
  have p1 := fun W => part_at k1 0 (k1.take 32) (by simp) W
  have p2 := fun W => part_at k2 0 (k2.take 32) (by simp) W
  have p3 := fun W => part_at k1 32 (k1.drop 32) (List.take_of_length_le (by simp; omega)) W
  have p4 := fun W => part_at k2 32 (k2.drop 32) (List.take_of_length_le (by simp; omega)) W
  have hr : (Op.equalIn 10000 57 (.agg A) (.agg B)).run Tryd.prog w = .ok (decide (k1 = k2)) w := by
    rw [run_equalIn_struct w 9999 57 A B (by rw [hf]; exact Tryd.underlying57) heldK, hf, HA.out, HB.out]
    have x1 : ∀ W, (Op.equalIn 9999 23 (.agg (cellsOf (k1.take 32)).toArray) (.agg (cellsOf (k2.take 32)).toArray)).run Tryd.prog W = .ok (k1.take 32 == k2.take 32) W := q1
    have x2 : ∀ W, (Op.equalIn 9999 23 (.agg (cellsOf (k1.drop 32)).toArray) (.agg (cellsOf (k2.drop 32)).toArray)).run Tryd.prog W = .ok (k1.drop 32 == k2.drop 32) W := q2
    obtain ⟨b1, hb1⟩ : ∃ b, (k1.take 32 == k2.take 32) = b := ⟨_, rfl⟩
    obtain ⟨b2, hb2⟩ : ∃ b, (k1.drop 32 == k2.drop 32) = b := ⟨_, rfl⟩
    have hd : decide (k1 = k2) = (b1 && b2) := by
      rw [← hb1, ← hb2, Bool.eq_iff_iff]
      simp only [decide_eq_true_eq, Bool.and_eq_true, beq_iff_eq]
      exact ⟨fun e => by rw [e]; exact ⟨rfl, rfl⟩, fun ⟨a, b⟩ => by rw [e1, e2, a, b]⟩
    rw [hd]
    rw [hb1] at x1
    rw [hb2] at x2
    simp [Op.eqFields, p1, p2, p3, p4, x1, x2]
    cases b1 <;> cases b2 <;> simp
  rw [run_neq_struct, hr, ← hb]
  rfl
theorem sizeOfK (w : World) : (sizeOf 57).run Tryd.prog w = .ok 64 w := by
  obtain ⟨i, hi, _, hs, _⟩ := info_parts infoK
  simp [sizeOf, typeInfo, hi, hs]
theorem index_knots (W : World) (g len cap i : Nat) (hi : i < len) : (Instr.indexAt 43 (.slice (some ⟨g, 0, none⟩) len cap) (.int .i64 i)).run Tryd.prog W = .ok (.pointer (some ⟨g, 64 * i, none⟩)) W := by
  simp [Instr.indexAt, asIntOf, run_underlying Tryd.underlying43, sizeOfK, hi]
  rw [add_plain, Nat.mul_comm, Nat.zero_add]
theorem own_range {w : World} {B g n cap : Nat} {l : List (List UInt8)} (h : w.ownsRow B 57 64 (.slice (some ⟨g, 0, none⟩) n cap) l.length (cellsOf l.flatten)) (hd : Digs64 l) (i : Nat) (hi : i < l.length) : w.rangeAt g (64 * i) (cellsOf l[i]) := by
  rcases h.2 with ⟨hv, _⟩ | ⟨g', cp, cur, hv, hb, hg, hc, hm, hs, ht⟩
  · cases hv
  · cases hv
    intro j v hj
    have hjl := (List.getElem?_eq_some_iff.1 hj).1
    rw [cellsOf_length, hd _ (List.getElem_mem hi)] at hjl
    rw [cell_of_row w g _ cur 57 (0, 0) hg, ← Array.getElem?_toList]
    have e : (cellsOf l.flatten)[64 * i + j]? = cur.toList[64 * i + j]? := by
      rw [← ht, List.getElem?_take, if_pos (by omega)]
    rw [← e, ← hj]
    unfold cellsOf
    rw [List.getElem?_map, List.getElem?_map, flat64_at hd i hi j hjl]

/-- P5.1, whatever the input. -/
theorem included_any (root : List UInt8) (size index : Int) (x : List UInt8) (p : List (List UInt8)) (a : Option Addr) (len cap : Nat) (w : World) (R X : Array Value) (HR : Hid (R = (cellsOf root).toArray)) (HX : Hid (X = (cellsOf x).toArray)) (hr : root.length = 32) (hx : x.length = 32) (hR : LReads w a len cap p) (hK : Table 0 w) :
    Calls Tryd.prog 10 #[.agg R, .int .i64 size, .int .i64 index, .agg X, .slice a len cap] w fun e w' => e = .returned (.int .i64 (incE root size index x p)) ∧ Below w.heap.size w w' := by
  by_cases h : 1 ≤ size ∧ size ≤ 100000 ∧ 0 ≤ index ∧ index < size
  · obtain ⟨S, rfl⟩ : ∃ S : Nat, size = S := ⟨size.toNat, by omega⟩
    obtain ⟨I, rfl⟩ : ∃ I : Nat, index = I := ⟨index.toNat, by omega⟩
    exact included_in root S I x p a len cap w R X HR hr HX hx (by omega) (by omega) (by omega) hR hK
  · rw [incE_out root size index x p h]
    exact included_out root size index a len cap w R X h

set_option maxHeartbeats 8000000 in
theorem clash_any (root : List UInt8) (size index : Int) (x : List UInt8) (p : List (List UInt8)) (y : List UInt8) (q : List (List UInt8)) (a b : Option Addr) (len1 cap1 len2 cap2 : Nat) (w : World) (R X Y : Array Value) (HR : Hid (R = (cellsOf root).toArray)) (HX : Hid (X = (cellsOf x).toArray)) (HY : Hid (Y = (cellsOf y).toArray)) (hr : root.length = 32) (hx : x.length = 32) (hy : y.length = 32)
    (hP : LReads w a len1 cap1 p) (hQ : LReads w b len2 cap2 q) (hK : Table 0 w) :
    Calls Tryd.prog 16 #[.agg R, .int .i64 size, .int .i64 index, .agg X, .slice a len1 cap1, .agg Y, .slice b len2 cap2] w fun e w' => e = .returned (claV (claE root size index x p y q)) ∧ Below w.heap.size w w' := by
  obtain ⟨Z, HZ, HA, HS, H1, H32⟩ := noughts27
  have HSR : Hid ((Tryd.prog.info? 23).map (·.size) = some R.size) := by show _ = _; rw [size23, HR.out]; simp [cellsOf_length, hr]
  have H1R : Hid (R.all (·.oneCell') = true) := by show _ = _; rw [HR.out]; exact cellsOf_all _
  have HZR : Hid (Z.size = R.size) := by show _ = _; rw [H32.out, HR.out]; simp [cellsOf_length, hr]
  have HSX : Hid ((Tryd.prog.info? 23).map (·.size) = some X.size) := by show _ = _; rw [size23, HX.out]; simp [cellsOf_length, hx]
  have HSY : Hid ((Tryd.prog.info? 23).map (·.size) = some Y.size) := by show _ = _; rw [size23, HY.out]; simp [cellsOf_length, hy]
  obtain ⟨E1, HE1⟩ : ∃ E, Hid (E = incE root size index x p) := ⟨_, (rfl : _ = _)⟩
  obtain ⟨E2, HE2⟩ : ∃ E, Hid (E = incE root size index y q) := ⟨_, (rfl : _ = _)⟩
  have I1 : Hid (∀ W, Below w.heap.size w W → Calls Tryd.prog 10 #[.agg R, .int .i64 size, .int .i64 index, .agg X, .slice a len1 cap1] W fun e w' => e = .returned (.int .i64 E1) ∧ Below W.heap.size W w') := fun W hb => by
    rw [HE1.out]; exact included_any root size index x p a len1 cap1 W R X HR HX hr hx (hP.keep hb) (hK.keep hb)
  have I2 : Hid (∀ W, Below w.heap.size w W → Calls Tryd.prog 10 #[.agg R, .int .i64 size, .int .i64 index, .agg Y, .slice b len2 cap2] W fun e w' => e = .returned (.int .i64 E2) ∧ Below W.heap.size W w') := fun W hb => by
    rw [HE2.out]; exact included_any root size index y q b len2 cap2 W R Y HR HY hr hy (hQ.keep hb) (hK.keep hb)
  have EQ := fun v hv W => eqDigV x y hx hy X Y HX HY v hv W
  have HB := hidk (cameR w R X Y)
  have hE1 : E1 = 0 ∨ E1 = 40 ∨ E1 = 41 := by rw [HE1.out]; exact incE_vals _ _ _ _ _
  have hE2 : E2 = 0 ∨ E2 = 40 ∨ E2 = 41 := by rw [HE2.out]; exact incE_vals _ _ _ _ _
  by_cases c1 : ¬ E1 = 0
  · have hc : claE root size index x p y q = none := by unfold claE; rw [if_neg]; intro h; rw [HE1.out] at c1; exact c1 h.1
    rw [hc]
    show Calls _ _ _ _ fun e w' => e = .returned (.tuple #[.string ⟨#[]⟩, .string ⟨#[]⟩, .bool false]) ∧ _
    clear EQ HE1 HE2 hP hQ hK hc hE2 I2 HR HX HY hr hx hy
    rcases hE1 with rfl | rfl | rfl
    · exact absurd rfl c1
    all_goals
      clear c1
      go_enter Tryd.func16, Tryd.ntmps16
      go_wp2_with (first
        | (show wpList _ _ _ ({ dst := some 22, op := _, type := _, pos := _, after := _, guard := _ } :: _) _ _; refine wpList_load_row rfl 23 (.tmp 7) rfl _ rfl 23 R (0, 0) _ HB.out.2.1 Tryd.underlying23 rfl HSR.out ?_; try simp only [Act.put, List.setIfInBounds_toArray, List.set_cons_zero, List.set_cons_succ])
        | (show wpList _ _ _ ({ dst := some 25, op := _, type := _, pos := _, after := _, guard := _ } :: _) _ _; refine wpList_load_row rfl 23 (.tmp 10) rfl _ rfl 23 X (0, 0) _ HB.out.2.2.1 Tryd.underlying23 rfl HSX.out ?_; try simp only [Act.put, List.setIfInBounds_toArray, List.set_cons_zero, List.set_cons_succ])
        | fail)
      refine (I1.out _ HB.out.1).mono ?_
      rintro e w1 ⟨rfl, hb1⟩
      have HB2 := hidk (HB.out.keep hb1)
      clear hb1 HB I1
      go_wp2
      refine bodyPost_ret (results_three rfl _ _ _) rfl ⟨rfl, HB2.out.1⟩
  obtain rfl : E1 = 0 := by omega
  clear c1
  by_cases c2 : ¬ E2 = 0
  · have hc : claE root size index x p y q = none := by unfold claE; rw [if_neg]; intro h; rw [HE2.out] at c2; exact c2 h.2.1
    rw [hc]
    show Calls _ _ _ _ fun e w' => e = .returned (.tuple #[.string ⟨#[]⟩, .string ⟨#[]⟩, .bool false]) ∧ _
    clear EQ HE1 HE2 hP hQ hK hc hE1 HR HX HY hr hx hy
    rcases hE2 with rfl | rfl | rfl
    · exact absurd rfl c2
    all_goals
      clear c2
      go_enter Tryd.func16, Tryd.ntmps16
      go_wp2_with (first
        | (show wpList _ _ _ ({ dst := some 22, op := _, type := _, pos := _, after := _, guard := _ } :: _) _ _; refine wpList_load_row rfl 23 (.tmp 7) rfl _ rfl 23 R (0, 0) _ HB.out.2.1 Tryd.underlying23 rfl HSR.out ?_; try simp only [Act.put, List.setIfInBounds_toArray, List.set_cons_zero, List.set_cons_succ])
        | (show wpList _ _ _ ({ dst := some 25, op := _, type := _, pos := _, after := _, guard := _ } :: _) _ _; refine wpList_load_row rfl 23 (.tmp 10) rfl _ rfl 23 X (0, 0) _ HB.out.2.2.1 Tryd.underlying23 rfl HSX.out ?_; try simp only [Act.put, List.setIfInBounds_toArray, List.set_cons_zero, List.set_cons_succ])
        | fail)
      refine (I1.out _ HB.out.1).mono ?_
      rintro e w1 ⟨rfl, hb1⟩
      have HB2 := hidk (HB.out.keep hb1)
      clear hb1 HB I1
      go_wp2_with (first
        | (show wpList _ _ _ ({ dst := some 30, op := _, type := _, pos := _, after := _, guard := _ } :: _) _ _; refine wpList_load_row_w (by rfl) 23 (.tmp 7) rfl w.heap.size rfl 23 R (0, 0) _ HB2.out.2.1 Tryd.underlying23 rfl HSR.out ?_; try simp only [Act.put, List.setIfInBounds_toArray, List.set_cons_zero, List.set_cons_succ])
        | (show wpList _ _ _ ({ dst := some 33, op := _, type := _, pos := _, after := _, guard := _ } :: _) _ _; refine wpList_load_row_w (by rfl) 23 (.tmp 12) rfl (w.heap.size + 2) rfl 23 Y (0, 0) _ HB2.out.2.2.2 Tryd.underlying23 rfl HSY.out ?_; try simp only [Act.put, List.setIfInBounds_toArray, List.set_cons_zero, List.set_cons_succ])
        | fail)
      refine (I2.out _ HB2.out.1).mono ?_
      rintro e w2 ⟨rfl, hb2⟩
      have HB3 := hidk (HB2.out.keep hb2)
      clear hb2 HB2 I2
      go_wp2
      refine bodyPost_ret (results_three rfl _ _ _) rfl ⟨rfl, HB3.out.1⟩
  obtain rfl : E2 = 0 := by omega
  clear c2
  by_cases c3 : x = y
  · have hc : claE root size index x p y q = none := by unfold claE; rw [if_neg]; intro h; exact h.2.2 c3
    rw [hc]
    show Calls _ _ _ _ fun e w' => e = .returned (.tuple #[.string ⟨#[]⟩, .string ⟨#[]⟩, .bool false]) ∧ _
    have eq := fun W => EQ true (by simp [c3]) W
    clear EQ HE1 HE2 hP hQ hK hc hE1 hE2 HR HX HY hr hx hy c3
    go_enter Tryd.func16, Tryd.ntmps16
    go_wp2_with (first
      | (show wpList _ _ _ ({ dst := some 22, op := _, type := _, pos := _, after := _, guard := _ } :: _) _ _; refine wpList_load_row rfl 23 (.tmp 7) rfl _ rfl 23 R (0, 0) _ HB.out.2.1 Tryd.underlying23 rfl HSR.out ?_; try simp only [Act.put, List.setIfInBounds_toArray, List.set_cons_zero, List.set_cons_succ])
      | (show wpList _ _ _ ({ dst := some 25, op := _, type := _, pos := _, after := _, guard := _ } :: _) _ _; refine wpList_load_row rfl 23 (.tmp 10) rfl _ rfl 23 X (0, 0) _ HB.out.2.2.1 Tryd.underlying23 rfl HSX.out ?_; try simp only [Act.put, List.setIfInBounds_toArray, List.set_cons_zero, List.set_cons_succ])
      | fail)
    refine (I1.out _ HB.out.1).mono ?_
    rintro e w1 ⟨rfl, hb1⟩
    have HB2 := hidk (HB.out.keep hb1)
    clear hb1 HB I1
    go_wp2_with (first
      | (show wpList _ _ _ ({ dst := some 30, op := _, type := _, pos := _, after := _, guard := _ } :: _) _ _; refine wpList_load_row_w (by rfl) 23 (.tmp 7) rfl w.heap.size rfl 23 R (0, 0) _ HB2.out.2.1 Tryd.underlying23 rfl HSR.out ?_; try simp only [Act.put, List.setIfInBounds_toArray, List.set_cons_zero, List.set_cons_succ])
      | (show wpList _ _ _ ({ dst := some 33, op := _, type := _, pos := _, after := _, guard := _ } :: _) _ _; refine wpList_load_row_w (by rfl) 23 (.tmp 12) rfl (w.heap.size + 2) rfl 23 Y (0, 0) _ HB2.out.2.2.2 Tryd.underlying23 rfl HSY.out ?_; try simp only [Act.put, List.setIfInBounds_toArray, List.set_cons_zero, List.set_cons_succ])
      | fail)
    refine (I2.out _ HB2.out.1).mono ?_
    rintro e w2 ⟨rfl, hb2⟩
    have HB3 := hidk (HB2.out.keep hb2)
    clear hb2 HB2 I2
    go_wp2_with (first
      | (show wpList _ _ _ ({ dst := some 39, op := _, type := _, pos := _, after := _, guard := _ } :: _) _ _; refine wpList_load_row_w (by rfl) 23 (.tmp 10) rfl (w.heap.size + 1) rfl 23 X (0, 0) _ HB3.out.2.2.1 Tryd.underlying23 rfl HSX.out ?_; try simp only [Act.put, List.setIfInBounds_toArray, List.set_cons_zero, List.set_cons_succ])
      | (show wpList _ _ _ ({ dst := some 40, op := _, type := _, pos := _, after := _, guard := _ } :: _) _ _; refine wpList_load_row_w (by rfl) 23 (.tmp 12) rfl (w.heap.size + 2) rfl 23 Y (0, 0) _ HB3.out.2.2.2 Tryd.underlying23 rfl HSY.out ?_; try simp only [Act.put, List.setIfInBounds_toArray, List.set_cons_zero, List.set_cons_succ])
      | (show wpList _ _ _ ({ dst := some 46, op := _, type := _, pos := _, after := _, guard := _ } :: _) _ _; refine wpList_load_row rfl 23 (.tmp 10) rfl (w.heap.size + 1) rfl 23 X (0, 0) _ HB3.out.2.2.1 Tryd.underlying23 rfl HSX.out ?_; try simp only [Act.put, List.setIfInBounds_toArray, List.set_cons_zero, List.set_cons_succ])
      | fail)
    refine bodyPost_ret (results_three rfl _ _ _) rfl ⟨rfl, HB3.out.1⟩
  · have eq := fun W => EQ false (by simp [c3]) W
    have o1 := incE_ok HE1.out.symm
    have o2 := incE_ok HE2.out.symm
    obtain ⟨S, rfl⟩ : ∃ S : Nat, size = S := ⟨size.toNat, by omega⟩
    obtain ⟨I, rfl⟩ : ∃ I : Nat, index = I := ⟨index.toNat, by omega⟩
    simp only [Int.toNat_natCast] at o1 o2
    have hm1 : (mkR p.reverse S I x).2 = true := by rw [o1.2.2.2.2]
    have hm2 : (mkR q.reverse S I y).2 = true := by rw [o2.2.2.2.2]
    have hc : claE root S I x p y q = scan (kn p.reverse S I x).reverse (kn q.reverse S I y).reverse := by
      unfold claE
      rw [if_pos ⟨HE1.out.symm, HE2.out.symm, c3⟩, Int.toNat_natCast, Int.toNat_natCast]
      exact clash_scan _ _ S I x y (by omega) (by omega) hm1 hm2
    rw [hc]
    have hsm := mkR_same _ _ S I x y hm1 hm2
    obtain ⟨K1, HK1⟩ : ∃ y, Hid (y = kn p.reverse S I x) := ⟨_, (rfl : _ = _)⟩
    obtain ⟨K2, HK2⟩ : ∃ z, Hid (z = kn q.reverse S I y) := ⟨_, (rfl : _ = _)⟩
    obtain ⟨n, hn1⟩ : ∃ n, K1.length = n := ⟨_, rfl⟩
    have hn2 : K2.length = n := by rw [← hn1, HK1.out, HK2.out, kn_length, kn_length, hsm]
    have hn0 : 0 < n := by
      rw [← hn1, HK1.out, kn_length]
      rcases Nat.eq_zero_or_pos p.reverse.length with e0 | e0
      · exfalso
        have ep : p.reverse = [] := List.eq_nil_of_length_eq_zero e0
        have eq' : q.reverse = [] := List.eq_nil_of_length_eq_zero (by rw [← hsm]; exact e0)
        have m1 := o1.2.2.2.2
        have m2 := o2.2.2.2.2
        rw [ep, mkR_nil] at m1
        rw [eq', mkR_nil] at m2
        exact c3 ((Prod.mk.inj m1).1.trans (Prod.mk.inj m2).1.symm)
      · exact e0
    have hnb : n ≤ 17 := by
      rw [← hn1, HK1.out, kn_length]
      exact mkR_short 17 _ S I x (by omega) (by omega) hm1
    have D1 : Digs64 K1 := by rw [HK1.out]; exact kn_digs sumD_length _ S I x hx (fun z hz => hP.2.1 z (List.mem_reverse.1 hz))
    have D2 : Digs64 K2 := by rw [HK2.out]; exact kn_digs sumD_length _ S I y hy (fun z hz => hQ.2.1 z (List.mem_reverse.1 hz))
    have LM1 : Hid (∀ W, Below w.heap.size w W → Calls Tryd.prog 24 #[.int .i64 S, .int .i64 I, .agg X, .slice a len1 cap1] W fun e w' => ∃ v, e = .returned (.tuple #[.agg R, v]) ∧ w'.ownsRow W.heap.size 57 64 v K1.length (cellsOf K1.flatten) ∧ Below W.heap.size W w') := fun W hb => by
      rw [HK1.out]
      exact leafMakes_ok S I x p a len1 cap1 W X HX hx (by omega) (by omega) (by omega) (hP.keep hb) (hK.keep hb) hm1 R (by rw [o1.2.2.2.2]; exact HR)
    have LM2 : Hid (∀ W, Below w.heap.size w W → Calls Tryd.prog 24 #[.int .i64 S, .int .i64 I, .agg Y, .slice b len2 cap2] W fun e w' => ∃ v, e = .returned (.tuple #[.agg R, v]) ∧ w'.ownsRow W.heap.size 57 64 v K2.length (cellsOf K2.flatten) ∧ Below W.heap.size W w') := fun W hb => by
      rw [HK2.out]
      exact leafMakes_ok S I y q b len2 cap2 W Y HY hy (by omega) (by omega) (by omega) (hQ.keep hb) (hK.keep hb) hm2 R (by rw [o2.2.2.2.2]; exact HR)
    obtain ⟨OUT, HOUT⟩ : ∃ z, Hid (z = scan (kn p.reverse S I x).reverse (kn q.reverse S I y).reverse) := ⟨_, (rfl : _ = _)⟩
    rw [← HOUT.out]
    have HST : Hid (scan (K1.take n).reverse (K2.take n).reverse = OUT) := by
      show _ = _
      rw [List.take_of_length_le (by omega), List.take_of_length_le (by omega), HK1.out, HK2.out, HOUT.out]
    have HD := hidk (And.intro D1 D2)
    have HN := hidk (And.intro hn1 hn2)
    have hSI : 1 ≤ S ∧ S ≤ 100000 ∧ I < S := by omega
    clear EQ HE1 HE2 hP hQ hK hc hE1 hE2 HR HX HY hr hx hy o1 o2 hm1 hm2 hsm HK1 HK2 HOUT D1 D2 hn1 hn2
    go_enter Tryd.func16, Tryd.ntmps16
    go_wp2_with (first
      | (show wpList _ _ _ ({ dst := some 22, op := _, type := _, pos := _, after := _, guard := _ } :: _) _ _; refine wpList_load_row rfl 23 (.tmp 7) rfl _ rfl 23 R (0, 0) _ HB.out.2.1 Tryd.underlying23 rfl HSR.out ?_; try simp only [Act.put, List.setIfInBounds_toArray, List.set_cons_zero, List.set_cons_succ])
      | (show wpList _ _ _ ({ dst := some 25, op := _, type := _, pos := _, after := _, guard := _ } :: _) _ _; refine wpList_load_row rfl 23 (.tmp 10) rfl _ rfl 23 X (0, 0) _ HB.out.2.2.1 Tryd.underlying23 rfl HSX.out ?_; try simp only [Act.put, List.setIfInBounds_toArray, List.set_cons_zero, List.set_cons_succ])
      | fail)
    refine (I1.out _ HB.out.1).mono ?_
    rintro e w1 ⟨rfl, hb1⟩
    have HB2 := hidk (HB.out.keep hb1)
    clear hb1 HB I1
    go_wp2_with (first
      | (show wpList _ _ _ ({ dst := some 30, op := _, type := _, pos := _, after := _, guard := _ } :: _) _ _; refine wpList_load_row_w (by rfl) 23 (.tmp 7) rfl w.heap.size rfl 23 R (0, 0) _ HB2.out.2.1 Tryd.underlying23 rfl HSR.out ?_; try simp only [Act.put, List.setIfInBounds_toArray, List.set_cons_zero, List.set_cons_succ])
      | (show wpList _ _ _ ({ dst := some 33, op := _, type := _, pos := _, after := _, guard := _ } :: _) _ _; refine wpList_load_row_w (by rfl) 23 (.tmp 12) rfl (w.heap.size + 2) rfl 23 Y (0, 0) _ HB2.out.2.2.2 Tryd.underlying23 rfl HSY.out ?_; try simp only [Act.put, List.setIfInBounds_toArray, List.set_cons_zero, List.set_cons_succ])
      | fail)
    refine (I2.out _ HB2.out.1).mono ?_
    rintro e w2 ⟨rfl, hb2⟩
    have HB3 := hidk (HB2.out.keep hb2)
    clear hb2 HB2 I2
    go_wp2_with (first
      | (show wpList _ _ _ ({ dst := some 39, op := _, type := _, pos := _, after := _, guard := _ } :: _) _ _; refine wpList_load_row_w (by rfl) 23 (.tmp 10) rfl (w.heap.size + 1) rfl 23 X (0, 0) _ HB3.out.2.2.1 Tryd.underlying23 rfl HSX.out ?_; try simp only [Act.put, List.setIfInBounds_toArray, List.set_cons_zero, List.set_cons_succ])
      | (show wpList _ _ _ ({ dst := some 40, op := _, type := _, pos := _, after := _, guard := _ } :: _) _ _; refine wpList_load_row_w (by rfl) 23 (.tmp 12) rfl (w.heap.size + 2) rfl 23 Y (0, 0) _ HB3.out.2.2.2 Tryd.underlying23 rfl HSY.out ?_; try simp only [Act.put, List.setIfInBounds_toArray, List.set_cons_zero, List.set_cons_succ])
      | (show wpList _ _ _ ({ dst := some 46, op := _, type := _, pos := _, after := _, guard := _ } :: _) _ _; refine wpList_load_row rfl 23 (.tmp 10) rfl (w.heap.size + 1) rfl 23 X (0, 0) _ HB3.out.2.2.1 Tryd.underlying23 rfl HSX.out ?_; try simp only [Act.put, List.setIfInBounds_toArray, List.set_cons_zero, List.set_cons_succ])
      | fail)
    refine (LM1.out _ HB3.out.1).mono ?_
    rintro e w3 ⟨v1, rfl, ho1, hb3⟩
    obtain ⟨ga, c1, hv1⟩ := own_form ho1 (by rw [HN.out.1]; exact hn0)
    rw [HN.out.1] at hv1
    subst hv1
    have HR1 := hidk (fun (i : Nat) (hi : i < K1.length) => own_range ho1 HD.out.1 i hi)
    have HC3 := hidk (HB3.out.keep hb3)
    clear hb3 HB3 LM1 ho1 eq
    go_wp2_with (first
      | (show wpList _ _ _ ({ dst := some 17, op := _, type := _, pos := _, after := _, guard := _ } :: _) _ _; refine wpList_new_var rfl 23 rfl Z HA.out ?_; intro g17 w4 HM17; try simp only [Act.put, List.setIfInBounds_toArray, List.set_cons_zero, List.set_cons_succ])
      | (refine wpList_set_var rfl 23 (.tmp 17) (.tmp 49) rfl g17 R rfl rfl 23 Z HM17.out.row HSR.out HZR.out H1R.out ?_; intro w5 HW17; have HB5 := hidk (HW17.out.below w3.heap.size w3 HM17.out.below (Nat.le_of_eq HM17.out.new.symm)); have HC5 := hidk (HC3.out.keep HB5.out); try simp only [Act.put, List.setIfInBounds_toArray, List.set_cons_zero, List.set_cons_succ])
      | (show wpList _ _ _ ({ dst := some 54, op := _, type := _, pos := _, after := _, guard := _ } :: _) _ _; refine wpList_load_row rfl 23 (.tmp 12) rfl (w.heap.size + 2) rfl 23 Y (0, 0) _ HC5.out.2.2.2 Tryd.underlying23 rfl HSY.out ?_; try simp only [Act.put, List.setIfInBounds_toArray, List.set_cons_zero, List.set_cons_succ])
      | fail)
    refine (LM2.out _ HC5.out.1).mono ?_
    rintro e w6 ⟨v2, rfl, ho2, hb6⟩
    obtain ⟨gb, c2, hv2⟩ := own_form ho2 (by rw [HN.out.2]; exact hn0)
    rw [HN.out.2] at hv2
    subst hv2
    have HR2 := hidk (fun (i : Nat) (hi : i < K2.length) => own_range ho2 HD.out.2 i hi)
    have HR16 : Hid (∀ (i : Nat) (hi : i < K1.length), w6.rangeAt ga (64 * i) (cellsOf K1[i])) := fun i hi => range_keep hb6 (range_keep HB5.out (HR1.out i hi))
    have HC6 := hidk (HC5.out.keep hb6)
    clear hb6 HC5 LM2 ho2 HB5 HC3 HR1 HM17 HW17
    have wr0 := wrap_int ((n : Int) - 1) (by omega) (by omega)
    go_wp2_with (first
      | (show wpList _ _ _ ({ dst := some 19, op := _, type := _, pos := _, after := _, guard := _ } :: _) _ _; refine wpList_new_var rfl 23 rfl Z HA.out ?_; intro g19 w7 HM19; try simp only [Act.put, List.setIfInBounds_toArray, List.set_cons_zero, List.set_cons_succ])
      | (refine wpList_set_var rfl 23 (.tmp 19) (.tmp 57) rfl g19 R rfl rfl 23 Z HM19.out.row HSR.out HZR.out H1R.out ?_; intro w8 HW19; try simp only [Act.put, List.setIfInBounds_toArray, List.set_cons_zero, List.set_cons_succ])
      | fail)
    have HB8 := hidk (HW19.out.below w6.heap.size w6 HM19.out.below (Nat.le_of_eq HM19.out.new.symm))
    have HC8 := hidk (HC6.out.keep HB8.out).1
    have HR18 : Hid (∀ (i : Nat) (hi : i < K1.length), w8.rangeAt ga (64 * i) (cellsOf K1[i])) := fun i hi => range_keep HB8.out (HR16.out i hi)
    have HR28 : Hid (∀ (i : Nat) (hi : i < K2.length), w8.rangeAt gb (64 * i) (cellsOf K2[i])) := fun i hi => range_keep HB8.out (HR2.out i hi)
    clear HM19 HW19 HB8 HC6 HR16 HR2
    go_loopw [21] (fun v wr => ∃ t : Nat, t ≤ n ∧ v = .int .i64 ((t : Int) - 1) ∧ Hid (scan (K1.take t).reverse (K2.take t).reverse = OUT ∧ Below w8.heap.size w8 wr)) (fun v _ => (intOf v + 1).toNat)
    case atStart => exact ⟨n, Nat.le_refl _, by go_num, HST.out, Below.refl _ _⟩
    case round =>
      clear HST wr0
      obtain ⟨t, ht, rfl, HW⟩ := hrel
      cases t with
      | zero =>
        have HO : Hid (OUT = none) := by show _ = _; rw [← HW.out.1]; rfl
        have HBF := hidk (HC8.out.trans (HW.out.2.mono HC8.out.size))
        go_wp2
        refine bodyPost_ret (results_three rfl _ _ _) rfl ⟨by rw [HO.out]; rfl, HBF.out⟩
      | succ t =>
        have t1 : t < K1.length := by have := HN.out.1; omega
        have t2 : t < K2.length := by have := HN.out.2; omega
        have k1 : K1[t].length = 64 := HD.out.1 _ (List.getElem_mem t1)
        have k2 : K2[t].length = 64 := HD.out.2 _ (List.getElem_mem t2)
        obtain ⟨A, HAA, HSA, H1A, H64A⟩ := knot_row K1[t] k1
        obtain ⟨B, HBB, HSB, H1B, H64B⟩ := knot_row K2[t] k2
        have hS : wr.rangeAt ga (64 * t) A.toList ∧ wr.rangeAt gb (64 * t) B.toList := ⟨by rw [HAA.out]; exact range_keep HW.out.2 (HR18.out t t1), by rw [HBB.out]; exact range_keep HW.out.2 (HR28.out t t2)⟩
        have ix1 : ∀ W, (Instr.indexAt 43 (.slice (some ⟨ga, 0, none⟩) n c1) (.int .i64 (t : Int))).run Tryd.prog W = .ok (.pointer (some ⟨ga, 64 * t, none⟩)) W := fun W => index_knots W ga n c1 t (by omega)
        have ix2 : ∀ W, (Instr.indexAt 43 (.slice (some ⟨gb, 0, none⟩) n c2) (.int .i64 (t : Int))).run Tryd.prog W = .ok (.pointer (some ⟨gb, 64 * t, none⟩)) W := fun W => index_knots W gb n c2 t (by omega)
        have wr1 := wrap_int ((t : Int) - 1) (by omega) (by omega)
        rw [show (((t + 1 : Nat) : Int) - 1) = (t : Int) by omega]
        by_cases hq : K1[t] = K2[t]
        · have NQ : ∀ W, (binOp .neq 57 (.agg A) (.agg B)).run Tryd.prog W = .ok (.bool false) W := fun W => neqKnot _ _ k1 k2 A B HAA HBB false (by simp [hq]) W
          have HST2 : Hid (scan (K1.take t).reverse (K2.take t).reverse = OUT) := by
            show _ = _
            rw [← HW.out.1, scan_step K1 K2 t t1 t2, if_pos hq]
          clear HAA HBB hq k1 k2 t1 t2
          go_wp2
          refine wp_region_held_drew (S := (fun W => W.rangeAt ga (64 * t) A.toList ∧ W.rangeAt gb (64 * t) B.toList)) (by kernel_rfl) hS (fun hHeld => ?_)
          refine wpAnyH_take (i := 0) (oi := { dst := some 66, op := Op.move (Operand.tmp 18), type := 43, pos := "check.go:58", after := #[], guard := none }) (v := .slice (some ⟨ga, 0, none⟩) n c1) rfl (by kernel_rfl) (by kernel_rfl) (by kernel_rfl) (fun _ _ _ h => h) (Or.inl ⟨by rfl, by intro W hSw; go_simp⟩) hHeld ?_
          try simp only [Act.put, List.setIfInBounds_toArray, List.set_cons_zero, List.set_cons_succ]
          refine wpAnyH_take (i := 1) (oi := { dst := some 67, op := Op.move (Operand.tmp 21), type := 3, pos := "check.go:58", after := #[], guard := none }) (v := .int .i64 (t : Int)) rfl (by kernel_rfl) (by kernel_rfl) (by kernel_rfl) (fun _ _ _ h => h) (Or.inl ⟨by rfl, by intro W hSw; go_simp⟩) hHeld ?_
          try simp only [Act.put, List.setIfInBounds_toArray, List.set_cons_zero, List.set_cons_succ]
          refine wpAnyH_take (i := 2) (oi := { dst := some 68, op := Op.indexAddr 43 (Operand.tmp 66) (Operand.tmp 67), type := 0, pos := "check.go:58", after := #[{ on := 0, ground := Ground.data }, { on := 1, ground := Ground.data }], guard := none }) (v := .pointer (some ⟨ga, 64 * t, none⟩)) rfl (by kernel_rfl) (by kernel_rfl) (by kernel_rfl) (fun _ _ _ h => h) (Or.inl ⟨by rfl, by intro W hSw; have := ix1 W; go_simp⟩) hHeld ?_
          try simp only [Act.put, List.setIfInBounds_toArray, List.set_cons_zero, List.set_cons_succ]
          refine wpAnyH_take (i := 3) (oi := { dst := some 69, op := Op.load 57 (Operand.tmp 68), type := 57, pos := "check.go:58", after := #[{ on := 2, ground := Ground.data }], guard := none }) (v := .agg A) rfl (by kernel_rfl) (by kernel_rfl) (by kernel_rfl) (fun _ _ _ h => h) (yieldsIf_mid (by rfl) 57 (.tmp 68) rfl ga (64 * t) rfl A _ (fun _ h => h.1) Tryd.underlying57 rfl HSA.out) hHeld ?_
          try simp only [Act.put, List.setIfInBounds_toArray, List.set_cons_zero, List.set_cons_succ]
          refine wpAnyH_take (i := 4) (oi := { dst := some 70, op := Op.move (Operand.tmp 20), type := 43, pos := "check.go:58", after := #[], guard := none }) (v := .slice (some ⟨gb, 0, none⟩) n c2) rfl (by kernel_rfl) (by kernel_rfl) (by kernel_rfl) (fun _ _ _ h => h) (Or.inl ⟨by rfl, by intro W hSw; go_simp⟩) hHeld ?_
          try simp only [Act.put, List.setIfInBounds_toArray, List.set_cons_zero, List.set_cons_succ]
          refine wpAnyH_take (i := 5) (oi := { dst := some 71, op := Op.move (Operand.tmp 21), type := 3, pos := "check.go:58", after := #[], guard := none }) (v := .int .i64 (t : Int)) rfl (by kernel_rfl) (by kernel_rfl) (by kernel_rfl) (fun _ _ _ h => h) (Or.inl ⟨by rfl, by intro W hSw; go_simp⟩) hHeld ?_
          try simp only [Act.put, List.setIfInBounds_toArray, List.set_cons_zero, List.set_cons_succ]
          refine wpAnyH_take (i := 6) (oi := { dst := some 72, op := Op.indexAddr 43 (Operand.tmp 70) (Operand.tmp 71), type := 0, pos := "check.go:58", after := #[{ on := 4, ground := Ground.data }, { on := 5, ground := Ground.data }], guard := none }) (v := .pointer (some ⟨gb, 64 * t, none⟩)) rfl (by kernel_rfl) (by kernel_rfl) (by kernel_rfl) (fun _ _ _ h => h) (Or.inl ⟨by rfl, by intro W hSw; have := ix2 W; go_simp⟩) hHeld ?_
          try simp only [Act.put, List.setIfInBounds_toArray, List.set_cons_zero, List.set_cons_succ]
          refine wpAnyH_take (i := 7) (oi := { dst := some 73, op := Op.load 57 (Operand.tmp 72), type := 57, pos := "check.go:58", after := #[{ on := 6, ground := Ground.data }], guard := none }) (v := .agg B) rfl (by kernel_rfl) (by kernel_rfl) (by kernel_rfl) (fun _ _ _ h => h) (yieldsIf_mid (by rfl) 57 (.tmp 72) rfl gb (64 * t) rfl B _ (fun _ h => h.2) Tryd.underlying57 rfl HSB.out) hHeld ?_
          try simp only [Act.put, List.setIfInBounds_toArray, List.set_cons_zero, List.set_cons_succ]
          refine wpAnyH_take (i := 8) (oi := { dst := some 74, op := Op.binOp BinOp.neq 57 (Operand.tmp 69) (Operand.tmp 73) 57, type := 4, pos := "check.go:58", after := #[{ on := 3, ground := Ground.data }, { on := 7, ground := Ground.data }], guard := none }) (v := .bool false) rfl (by kernel_rfl) (by kernel_rfl) (by kernel_rfl) (fun _ _ _ h => h) (Or.inl ⟨by rfl, by intro W hSw; have := NQ W; go_simp⟩) hHeld ?_
          try simp only [Act.put, List.setIfInBounds_toArray, List.set_cons_zero, List.set_cons_succ]
          refine wpAnyH_done (by kernel_rfl) ?_ _
          go_wp2
          go_roundw
          case rel => exact ⟨t, by omega, by go_num, HST2.out, HW.out.2.drew⟩
          case measure => simp [intOf]
        · have NQ : ∀ W, (binOp .neq 57 (.agg A) (.agg B)).run Tryd.prog W = .ok (.bool true) W := fun W => neqKnot _ _ k1 k2 A B HAA HBB true (by simp [hq]) W
          obtain ⟨T1, HT1⟩ : ∃ T : ByteArray, Hid (T = ⟨(1 :: K1[t]).toArray⟩) := ⟨⟨(1 :: K1[t]).toArray⟩, hidk rfl⟩
          obtain ⟨T2, HT2⟩ : ∃ T : ByteArray, Hid (T = ⟨(1 :: K2[t]).toArray⟩) := ⟨⟨(1 :: K2[t]).toArray⟩, hidk rfl⟩
          have HRS : Hid (claV OUT = .tuple #[.string T1, .string T2, .bool true]) := by
            show _ = _
            rw [← HW.out.1, scan_step K1 K2 t t1 t2, if_neg hq, HT1.out, HT2.out]
            rfl
          have TX1 : Hid (∀ W, Calls Tryd.prog 33 #[.agg A] W fun e w' => e = .returned (.string T1) ∧ Below W.heap.size W w') := fun W => text_any K1[t] k1 W A HAA T1 HT1
          have TX2 : Hid (∀ W, Calls Tryd.prog 33 #[.agg B] W fun e w' => e = .returned (.string T2) ∧ Below W.heap.size W w') := fun W => text_any K2[t] k2 W B HBB T2 HT2
          have HBW := hidk (HC8.out.trans (HW.out.2.mono HC8.out.size))
          clear HAA HBB hq k1 k2 t1 t2 HT1 HT2
          go_wp2
          refine wp_region_held_drew (S := (fun W => W.rangeAt ga (64 * t) A.toList ∧ W.rangeAt gb (64 * t) B.toList)) (by kernel_rfl) hS (fun hHeld => ?_)
          refine wpAnyH_take (i := 0) (oi := { dst := some 66, op := Op.move (Operand.tmp 18), type := 43, pos := "check.go:58", after := #[], guard := none }) (v := .slice (some ⟨ga, 0, none⟩) n c1) rfl (by kernel_rfl) (by kernel_rfl) (by kernel_rfl) (fun _ _ _ h => h) (Or.inl ⟨by rfl, by intro W hSw; go_simp⟩) hHeld ?_
          try simp only [Act.put, List.setIfInBounds_toArray, List.set_cons_zero, List.set_cons_succ]
          refine wpAnyH_take (i := 1) (oi := { dst := some 67, op := Op.move (Operand.tmp 21), type := 3, pos := "check.go:58", after := #[], guard := none }) (v := .int .i64 (t : Int)) rfl (by kernel_rfl) (by kernel_rfl) (by kernel_rfl) (fun _ _ _ h => h) (Or.inl ⟨by rfl, by intro W hSw; go_simp⟩) hHeld ?_
          try simp only [Act.put, List.setIfInBounds_toArray, List.set_cons_zero, List.set_cons_succ]
          refine wpAnyH_take (i := 2) (oi := { dst := some 68, op := Op.indexAddr 43 (Operand.tmp 66) (Operand.tmp 67), type := 0, pos := "check.go:58", after := #[{ on := 0, ground := Ground.data }, { on := 1, ground := Ground.data }], guard := none }) (v := .pointer (some ⟨ga, 64 * t, none⟩)) rfl (by kernel_rfl) (by kernel_rfl) (by kernel_rfl) (fun _ _ _ h => h) (Or.inl ⟨by rfl, by intro W hSw; have := ix1 W; go_simp⟩) hHeld ?_
          try simp only [Act.put, List.setIfInBounds_toArray, List.set_cons_zero, List.set_cons_succ]
          refine wpAnyH_take (i := 3) (oi := { dst := some 69, op := Op.load 57 (Operand.tmp 68), type := 57, pos := "check.go:58", after := #[{ on := 2, ground := Ground.data }], guard := none }) (v := .agg A) rfl (by kernel_rfl) (by kernel_rfl) (by kernel_rfl) (fun _ _ _ h => h) (yieldsIf_mid (by rfl) 57 (.tmp 68) rfl ga (64 * t) rfl A _ (fun _ h => h.1) Tryd.underlying57 rfl HSA.out) hHeld ?_
          try simp only [Act.put, List.setIfInBounds_toArray, List.set_cons_zero, List.set_cons_succ]
          refine wpAnyH_take (i := 4) (oi := { dst := some 70, op := Op.move (Operand.tmp 20), type := 43, pos := "check.go:58", after := #[], guard := none }) (v := .slice (some ⟨gb, 0, none⟩) n c2) rfl (by kernel_rfl) (by kernel_rfl) (by kernel_rfl) (fun _ _ _ h => h) (Or.inl ⟨by rfl, by intro W hSw; go_simp⟩) hHeld ?_
          try simp only [Act.put, List.setIfInBounds_toArray, List.set_cons_zero, List.set_cons_succ]
          refine wpAnyH_take (i := 5) (oi := { dst := some 71, op := Op.move (Operand.tmp 21), type := 3, pos := "check.go:58", after := #[], guard := none }) (v := .int .i64 (t : Int)) rfl (by kernel_rfl) (by kernel_rfl) (by kernel_rfl) (fun _ _ _ h => h) (Or.inl ⟨by rfl, by intro W hSw; go_simp⟩) hHeld ?_
          try simp only [Act.put, List.setIfInBounds_toArray, List.set_cons_zero, List.set_cons_succ]
          refine wpAnyH_take (i := 6) (oi := { dst := some 72, op := Op.indexAddr 43 (Operand.tmp 70) (Operand.tmp 71), type := 0, pos := "check.go:58", after := #[{ on := 4, ground := Ground.data }, { on := 5, ground := Ground.data }], guard := none }) (v := .pointer (some ⟨gb, 64 * t, none⟩)) rfl (by kernel_rfl) (by kernel_rfl) (by kernel_rfl) (fun _ _ _ h => h) (Or.inl ⟨by rfl, by intro W hSw; have := ix2 W; go_simp⟩) hHeld ?_
          try simp only [Act.put, List.setIfInBounds_toArray, List.set_cons_zero, List.set_cons_succ]
          refine wpAnyH_take (i := 7) (oi := { dst := some 73, op := Op.load 57 (Operand.tmp 72), type := 57, pos := "check.go:58", after := #[{ on := 6, ground := Ground.data }], guard := none }) (v := .agg B) rfl (by kernel_rfl) (by kernel_rfl) (by kernel_rfl) (fun _ _ _ h => h) (yieldsIf_mid (by rfl) 57 (.tmp 72) rfl gb (64 * t) rfl B _ (fun _ h => h.2) Tryd.underlying57 rfl HSB.out) hHeld ?_
          try simp only [Act.put, List.setIfInBounds_toArray, List.set_cons_zero, List.set_cons_succ]
          refine wpAnyH_take (i := 8) (oi := { dst := some 74, op := Op.binOp BinOp.neq 57 (Operand.tmp 69) (Operand.tmp 73) 57, type := 4, pos := "check.go:58", after := #[{ on := 3, ground := Ground.data }, { on := 7, ground := Ground.data }], guard := none }) (v := .bool true) rfl (by kernel_rfl) (by kernel_rfl) (by kernel_rfl) (fun _ _ _ h => h) (Or.inl ⟨by rfl, by intro W hSw; have := NQ W; go_simp⟩) hHeld ?_
          try simp only [Act.put, List.setIfInBounds_toArray, List.set_cons_zero, List.set_cons_succ]
          refine wpAnyH_done (by kernel_rfl) ?_ _
          go_wp2
          refine wp_region_held_drew (S := (fun W => W.rangeAt ga (64 * t) A.toList ∧ W.rangeAt gb (64 * t) B.toList)) (by kernel_rfl) hS (fun hHeld => ?_)
          refine wpAnyH_take (i := 0) (oi := { dst := some 75, op := Op.move (Operand.tmp 18), type := 43, pos := "check.go:59", after := #[], guard := none }) (v := .slice (some ⟨ga, 0, none⟩) n c1) rfl (by kernel_rfl) (by kernel_rfl) (by kernel_rfl) (fun _ _ _ h => h) (Or.inl ⟨by rfl, by intro W hSw; go_simp⟩) hHeld ?_
          try simp only [Act.put, List.setIfInBounds_toArray, List.set_cons_zero, List.set_cons_succ]
          refine wpAnyH_take (i := 1) (oi := { dst := some 76, op := Op.move (Operand.tmp 21), type := 3, pos := "check.go:59", after := #[], guard := none }) (v := .int .i64 (t : Int)) rfl (by kernel_rfl) (by kernel_rfl) (by kernel_rfl) (fun _ _ _ h => h) (Or.inl ⟨by rfl, by intro W hSw; go_simp⟩) hHeld ?_
          try simp only [Act.put, List.setIfInBounds_toArray, List.set_cons_zero, List.set_cons_succ]
          refine wpAnyH_take (i := 2) (oi := { dst := some 77, op := Op.indexAddr 43 (Operand.tmp 75) (Operand.tmp 76), type := 0, pos := "check.go:59", after := #[{ on := 0, ground := Ground.data }, { on := 1, ground := Ground.data }], guard := none }) (v := .pointer (some ⟨ga, 64 * t, none⟩)) rfl (by kernel_rfl) (by kernel_rfl) (by kernel_rfl) (fun _ _ _ h => h) (Or.inl ⟨by rfl, by intro W hSw; have := ix1 W; go_simp⟩) hHeld ?_
          try simp only [Act.put, List.setIfInBounds_toArray, List.set_cons_zero, List.set_cons_succ]
          refine wpAnyH_take (i := 3) (oi := { dst := some 78, op := Op.load 57 (Operand.tmp 77), type := 57, pos := "check.go:59", after := #[{ on := 2, ground := Ground.data }], guard := none }) (v := .agg A) rfl (by kernel_rfl) (by kernel_rfl) (by kernel_rfl) (fun _ _ _ h => h) (yieldsIf_mid (by rfl) 57 (.tmp 77) rfl ga (64 * t) rfl A _ (fun _ h => h.1) Tryd.underlying57 rfl HSA.out) hHeld ?_
          try simp only [Act.put, List.setIfInBounds_toArray, List.set_cons_zero, List.set_cons_succ]
          refine wpAnyH_take (i := 5) (oi := { dst := some 80, op := Op.move (Operand.tmp 20), type := 43, pos := "check.go:59", after := #[], guard := none }) (v := .slice (some ⟨gb, 0, none⟩) n c2) rfl (by kernel_rfl) (by kernel_rfl) (by kernel_rfl) (fun _ _ _ h => h) (Or.inl ⟨by rfl, by intro W hSw; go_simp⟩) hHeld ?_
          try simp only [Act.put, List.setIfInBounds_toArray, List.set_cons_zero, List.set_cons_succ]
          refine wpAnyH_take (i := 6) (oi := { dst := some 81, op := Op.move (Operand.tmp 21), type := 3, pos := "check.go:59", after := #[], guard := none }) (v := .int .i64 (t : Int)) rfl (by kernel_rfl) (by kernel_rfl) (by kernel_rfl) (fun _ _ _ h => h) (Or.inl ⟨by rfl, by intro W hSw; go_simp⟩) hHeld ?_
          try simp only [Act.put, List.setIfInBounds_toArray, List.set_cons_zero, List.set_cons_succ]
          refine wpAnyH_take (i := 7) (oi := { dst := some 82, op := Op.indexAddr 43 (Operand.tmp 80) (Operand.tmp 81), type := 0, pos := "check.go:59", after := #[{ on := 5, ground := Ground.data }, { on := 6, ground := Ground.data }], guard := none }) (v := .pointer (some ⟨gb, 64 * t, none⟩)) rfl (by kernel_rfl) (by kernel_rfl) (by kernel_rfl) (fun _ _ _ h => h) (Or.inl ⟨by rfl, by intro W hSw; have := ix2 W; go_simp⟩) hHeld ?_
          try simp only [Act.put, List.setIfInBounds_toArray, List.set_cons_zero, List.set_cons_succ]
          refine wpAnyH_take (i := 8) (oi := { dst := some 83, op := Op.load 57 (Operand.tmp 82), type := 57, pos := "check.go:59", after := #[{ on := 7, ground := Ground.data }], guard := none }) (v := .agg B) rfl (by kernel_rfl) (by kernel_rfl) (by kernel_rfl) (fun _ _ _ h => h) (yieldsIf_mid (by rfl) 57 (.tmp 82) rfl gb (64 * t) rfl B _ (fun _ h => h.2) Tryd.underlying57 rfl HSB.out) hHeld ?_
          try simp only [Act.put, List.setIfInBounds_toArray, List.set_cons_zero, List.set_cons_succ]
          refine wpAnyH_ready (rs := [4]) (by kernel_rfl) (by simp) ?_
          refine (AllReadyH.cons (o := { dst := some 79, op := Op.call { callee := Callee.value (Operand.func 33), args := #[Operand.tmp 78], argTypes := #[57] }, type := 9, pos := "check.go:59", after := #[{ on := 3, ground := Ground.data }], guard := none }) rfl (fun K hK => ?_) AllReadyH.nil)
          go_simp
          refine (TX1.out _).mono ?_
          rintro e w4 ⟨rfl, hbx⟩
          go_wp2_with fail
          refine hK.out _ _ ⟨range_keep hbx hHeld.1, range_keep hbx hHeld.2⟩ (fun hHeld => ?_)
          clear hK K
          try simp only [Act.put, List.setIfInBounds_toArray, List.set_cons_zero, List.set_cons_succ]
          refine wpAnyH_ready (rs := [9]) (by kernel_rfl) (by simp) ?_
          refine (AllReadyH.cons (o := { dst := some 84, op := Op.call { callee := Callee.value (Operand.func 33), args := #[Operand.tmp 83], argTypes := #[57] }, type := 9, pos := "check.go:59", after := #[{ on := 8, ground := Ground.data }, { on := 4, ground := Ground.chain }], guard := none }) rfl (fun K hK => ?_) AllReadyH.nil)
          go_simp
          refine (TX2.out _).mono ?_
          rintro e w9 ⟨rfl, hby⟩
          go_wp2_with fail
          refine hK.out _ _ ⟨range_keep hby hHeld.1, range_keep hby hHeld.2⟩ (fun hHeld => ?_)
          clear hK K
          try simp only [Act.put, List.setIfInBounds_toArray, List.set_cons_zero, List.set_cons_succ]
          refine wpAnyH_take (i := 10) (oi := { dst := some 14, op := Op.assign (Operand.tmp 79), type := 9, pos := "check.go:59", after := #[{ on := 4, ground := Ground.data }, { on := 9, ground := Ground.chain }, { on := 0, ground := Ground.phase }, { on := 1, ground := Ground.phase }, { on := 2, ground := Ground.phase }, { on := 3, ground := Ground.phase }, { on := 4, ground := Ground.phase }, { on := 5, ground := Ground.textOnly Departure.lateStores }, { on := 6, ground := Ground.textOnly Departure.lateStores }, { on := 7, ground := Ground.textOnly Departure.lateStores }, { on := 8, ground := Ground.textOnly Departure.lateStores }, { on := 9, ground := Ground.textOnly Departure.lateStoresUnsure }], guard := none }) (v := .string T1) rfl (by kernel_rfl) (by kernel_rfl) (by kernel_rfl) (fun _ _ _ h => h) (Or.inl ⟨by rfl, by intro W hSw; go_simp⟩) hHeld ?_
          try simp only [Act.put, List.setIfInBounds_toArray, List.set_cons_zero, List.set_cons_succ]
          refine wpAnyH_take (i := 11) (oi := { dst := some 15, op := Op.assign (Operand.tmp 84), type := 9, pos := "check.go:59", after := #[{ on := 9, ground := Ground.data }, { on := 10, ground := Ground.chain }, { on := 0, ground := Ground.phase }, { on := 1, ground := Ground.phase }, { on := 2, ground := Ground.phase }, { on := 3, ground := Ground.phase }, { on := 4, ground := Ground.phase }, { on := 5, ground := Ground.phase }, { on := 6, ground := Ground.phase }, { on := 7, ground := Ground.phase }, { on := 8, ground := Ground.phase }, { on := 9, ground := Ground.phase }, { on := 10, ground := Ground.phase }], guard := none }) (v := .string T2) rfl (by kernel_rfl) (by kernel_rfl) (by kernel_rfl) (fun _ _ _ h => h) (Or.inl ⟨by rfl, by intro W hSw; go_simp⟩) hHeld ?_
          try simp only [Act.put, List.setIfInBounds_toArray, List.set_cons_zero, List.set_cons_succ]
          refine wpAnyH_take (i := 12) (oi := { dst := some 16, op := Op.assign (Operand.const (Value.bool true)), type := 4, pos := "check.go:59", after := #[{ on := 11, ground := Ground.chain }, { on := 0, ground := Ground.phase }, { on := 1, ground := Ground.phase }, { on := 2, ground := Ground.phase }, { on := 3, ground := Ground.phase }, { on := 4, ground := Ground.phase }, { on := 5, ground := Ground.phase }, { on := 6, ground := Ground.phase }, { on := 7, ground := Ground.phase }, { on := 8, ground := Ground.phase }, { on := 9, ground := Ground.phase }, { on := 10, ground := Ground.phase }, { on := 11, ground := Ground.phase }], guard := none }) (v := .bool true) rfl (by kernel_rfl) (by kernel_rfl) (by kernel_rfl) (fun _ _ _ h => h) (Or.inl ⟨by rfl, by intro W hSw; go_simp⟩) hHeld ?_
          try simp only [Act.put, List.setIfInBounds_toArray, List.set_cons_zero, List.set_cons_succ]
          refine wpAnyH_done (by kernel_rfl) ?_ _
          go_wp2
          refine bodyPost_ret (results_three rfl _ _ _) rfl ⟨by rw [HRS.out]; rfl, (HBW.out.drew.drew.trans (hbx.mono HBW.out.size)).trans (hby.mono (Nat.le_trans HBW.out.size hbx.size))⟩
/-- What the calls of package check answer. -/
theorem checkC_some (hcon : ∀ (m : Int) (old : List UInt8) (n : Int) (root : List UInt8) (proof : List (List UInt8)) (a : Option Addr) (len cap : Nat) (w : World) (O R : Array Value) (HO : Hid (O = (cellsOf old).toArray)) (HR : Hid (R = (cellsOf root).toArray)) (ho : old.length = 32) (hr : root.length = 32)
    (hm : -9223372036854775808 ≤ m ∧ m ≤ 9223372036854775807) (hn : -9223372036854775808 ≤ n ∧ n ≤ 9223372036854775807) (hR : LReads w a len cap proof) (hK : TabC w),
    Calls Tryd.prog 14 #[.int .i64 m, .agg O, .int .i64 n, .agg R, .slice a len cap] w fun e w' => e = .returned (.int .i64 (conE m old n root proof)) ∧ Below w.heap.size w w') : CheckC :=
  ⟨fun root size index leaf proof a len cap w R X HR HX hr hx hs hi hR hK => included_any root size index leaf proof a len cap w R X HR HX hr hx hR hK.sha, hcon,
   fun root size index x p y q a b len1 cap1 len2 cap2 w R X Y HR HX HY hr hx hy hs hi hP hQ hK => clash_any root size index x p y q a b len1 cap1 len2 cap2 w R X Y HR HX HY hr hx hy hP hQ hK.sha⟩
end Go.Proofs.YtehfoeedlchphaaDoor
