/- What the document's Clash answers. -/
import Derived.Test.YtehfoeedlchphaaDoorRefPair
namespace Go.Proofs.YtehfoeedlchphaaDoor
open Go.RowKit Sums
set_option linter.unusedVariables false
set_option linter.unusedSimpArgs false

/-- A proof that makes something of more than one leaf has a digest. -/
theorem mkR_cons {p : List (List UInt8)} {s i : Nat} {x R : List UInt8} (h : mkR p.reverse s i x = (R, true)) (hs : 2 ≤ s) : ∃ q d, p = q ++ [d] := by
  cases hp : p with
  | nil => rw [hp] at h; simp [mkR] at h; omega
  | cons e r => exact ⟨(e :: r).dropLast, (e :: r).getLast (by simp), (List.dropLast_concat_getLast _).symm⟩
/-- One step down. -/
theorem clash_step (q1 q2 : List (List UInt8)) (d1 d2 : List UInt8) (S I : Nat) (a b R : List UInt8) (hS : 2 ≤ S) (hI : I < S) (ha : a.length = 32) (hb : b.length = 32) (h1 : d1.length = 32) (h2 : d2.length = 32) (hp : mkR (q1 ++ [d1]).reverse S I a = (R, true)) (hq : mkR (q2 ++ [d2]).reverse S I b = (R, true))
    (he : pairT (d1 :: q1.reverse) S I a = pairT (d2 :: q2.reverse) S I b) :
    ∃ (S' I' : Nat) (R' : List UInt8), (S' : Int) = (if I < split S then (split S : Int) else ((S : Int) - (split S : Int))) ∧ (I' : Int) = (if I < split S then (I : Int) else ((I : Int) - (split S : Int))) ∧ 1 ≤ S' ∧ S' < S ∧ I' < S' ∧ mkR q1.reverse S' I' a = (R', true) ∧ mkR q2.reverse S' I' b = (R', true) ∧
      clashR (q1 ++ [d1]).reverse (q2 ++ [d2]).reverse S I a b = clashR q1.reverse q2.reverse S' I' a b := by
  have s1 := split_lt S hS
  have s2 := split_pos S hS
  have r1 : (q1 ++ [d1]).reverse = d1 :: q1.reverse := by simp
  have r2 : (q2 ++ [d2]).reverse = d2 :: q2.reverse := by simp
  rw [r1] at hp ⊢
  rw [r2] at hq ⊢
  by_cases hlt : I < split S
  · rw [mkR_left d1 q1.reverse S I a (by omega) hlt] at hp
    rw [mkR_left d2 q2.reverse S I b (by omega) hlt] at hq
    simp only [Prod.mk.injEq] at hp hq
    have e2 := he
    unfold pairT at e2
    simp only [if_pos hlt] at e2
    have hm := (List.append_inj (List.cons.inj e2).2 (by rw [mkR_length sumD_length _ _ _ _ ha, mkR_length sumD_length _ _ _ _ hb])).1
    refine ⟨split S, I, (mkR q1.reverse (split S) I a).1, by rw [if_pos hlt], by rw [if_pos hlt], s2, s1, hlt, by rw [← hp.2], by rw [hm, ← hq.2], ?_⟩
    show (if S ≤ 1 then none else if pairT (d1 :: q1.reverse) S I a = pairT (d2 :: q2.reverse) S I b then (if I < split S then clashR q1.reverse q2.reverse (split S) I a b else clashR q1.reverse q2.reverse (S - split S) (I - split S) a b) else _) = _
    rw [if_neg (by omega), if_pos he, if_pos hlt]
  · rw [mkR_right d1 q1.reverse S I a (by omega) hlt] at hp
    rw [mkR_right d2 q2.reverse S I b (by omega) hlt] at hq
    simp only [Prod.mk.injEq] at hp hq
    have e2 := he
    unfold pairT at e2
    simp only [if_neg hlt] at e2
    have hm := (List.append_inj (List.cons.inj e2).2 (by rw [h1, h2])).2
    refine ⟨S - split S, I - split S, (mkR q1.reverse (S - split S) (I - split S) a).1, by rw [if_neg hlt]; omega, by rw [if_neg hlt]; omega, by omega, by omega, by omega, by rw [← hp.2], by rw [hm, ← hq.2], ?_⟩
    show (if S ≤ 1 then none else if pairT (d1 :: q1.reverse) S I a = pairT (d2 :: q2.reverse) S I b then (if I < split S then clashR q1.reverse q2.reverse (split S) I a b else clashR q1.reverse q2.reverse (S - split S) (I - split S) a b) else _) = _
    rw [if_neg (by omega), if_pos he, if_neg hlt]
theorem clash_tell (q1 q2 : List (List UInt8)) (d1 d2 : List UInt8) (S I : Nat) (a b : List UInt8) (hS : 2 ≤ S) (he : pairT (d1 :: q1.reverse) S I a ≠ pairT (d2 :: q2.reverse) S I b) : clashR (q1 ++ [d1]).reverse (q2 ++ [d2]).reverse S I a b = some (pairT (d1 :: q1.reverse) S I a, pairT (d2 :: q2.reverse) S I b) := by
  have r1 : (q1 ++ [d1]).reverse = d1 :: q1.reverse := by simp
  have r2 : (q2 ++ [d2]).reverse = d2 :: q2.reverse := by simp
  rw [r1, r2]
  show (if S ≤ 1 then none else if pairT (d1 :: q1.reverse) S I a = pairT (d2 :: q2.reverse) S I b then _ else some (pairT (d1 :: q1.reverse) S I a, pairT (d2 :: q2.reverse) S I b)) = _
  rw [if_neg (by omega), if_neg he]
set_option maxHeartbeats 8000000 in
theorem refClash_any (root : List UInt8) (size index : Int) (x : List UInt8) (p : List (List UInt8)) (y : List UInt8) (q : List (List UInt8)) (a b : Option Addr) (len1 cap1 len2 cap2 : Nat) (w : World) (R X Y : Array Value) (HR : Hid (R = (cellsOf root).toArray)) (HX : Hid (X = (cellsOf x).toArray)) (HY : Hid (Y = (cellsOf y).toArray)) (hr : root.length = 32) (hx : x.length = 32) (hy : y.length = 32)
    (hs : -9223372036854775808 ≤ size ∧ size ≤ 9223372036854775807) (hi : -9223372036854775808 ≤ index ∧ index ≤ 9223372036854775807) (hP : LReads w a len1 cap1 p) (hQ : LReads w b len2 cap2 q) (hK : Table 1 w) :
    Calls Tryd.prog 17 #[.agg R, .int .i64 size, .int .i64 index, .agg X, .slice a len1 cap1, .agg Y, .slice b len2 cap2] w fun e w' => e = .returned (claV (claE root size index x p y q)) ∧ Below w.heap.size w w' := by
  have HSR : Hid ((Tryd.prog.info? 23).map (·.size) = some R.size) := by show _ = _; rw [size23, HR.out]; simp [cellsOf_length, hr]
  have HSX : Hid ((Tryd.prog.info? 23).map (·.size) = some X.size) := by show _ = _; rw [size23, HX.out]; simp [cellsOf_length, hx]
  have HSY : Hid ((Tryd.prog.info? 23).map (·.size) = some Y.size) := by show _ = _; rw [size23, HY.out]; simp [cellsOf_length, hy]
  obtain ⟨E1, HE1⟩ : ∃ E, Hid (E = incE root size index x p) := ⟨_, (rfl : _ = _)⟩
  obtain ⟨E2, HE2⟩ : ∃ E, Hid (E = incE root size index y q) := ⟨_, (rfl : _ = _)⟩
  have I1 : Hid (∀ W, Below w.heap.size w W → Calls Tryd.prog 12 #[.agg R, .int .i64 size, .int .i64 index, .agg X, .slice a len1 cap1] W fun e w' => e = .returned (.int .i64 E1) ∧ Below W.heap.size W w') := fun W hb => by
    rw [HE1.out]; exact refInc_any root size index x p a len1 cap1 W R X HR HX hr hx hs hi (hP.keep hb) (hK.keep hb)
  have I2 : Hid (∀ W, Below w.heap.size w W → Calls Tryd.prog 12 #[.agg R, .int .i64 size, .int .i64 index, .agg Y, .slice b len2 cap2] W fun e w' => e = .returned (.int .i64 E2) ∧ Below W.heap.size W w') := fun W hb => by
    rw [HE2.out]; exact refInc_any root size index y q b len2 cap2 W R Y HR HY hr hy hs hi (hQ.keep hb) (hK.keep hb)
  have EQ := fun v hv W => eqDigV x y hx hy X Y HX HY v hv W
  have HB := hidk (cameR w R X Y)
  have hE1 : E1 = 0 ∨ E1 = 40 ∨ E1 = 41 := by rw [HE1.out]; exact incE_vals _ _ _ _ _
  have hE2 : E2 = 0 ∨ E2 = 40 ∨ E2 = 41 := by rw [HE2.out]; exact incE_vals _ _ _ _ _
  by_cases c1 : ¬ E1 = 0
  · have hc : claE root size index x p y q = none := by unfold claE; rw [if_neg]; intro h; rw [HE1.out] at c1; exact c1 h.1
    rw [hc]
    show Calls _ _ _ _ fun e w' => e = .returned (.tuple #[.string ⟨#[]⟩, .string ⟨#[]⟩, .bool false]) ∧ _
    clear EQ HE1 HE2 hP hQ hK hc hE2 I2 HR HX HY hr hx hy hs hi
    rcases hE1 with rfl | rfl | rfl
    · exact absurd rfl c1
    all_goals
      clear c1
      go_enter Tryd.func17, Tryd.ntmps17
      go_wp2_with (first
        | (show wpList _ _ _ ({ dst := some 23, op := _, type := _, pos := _, after := _, guard := _ } :: _) _ _; refine wpList_load_row rfl 23 (.tmp 7) rfl _ rfl 23 R (0, 0) _ HB.out.2.1 Tryd.underlying23 rfl HSR.out ?_; try simp only [Act.put, List.setIfInBounds_toArray, List.set_cons_zero, List.set_cons_succ])
        | (show wpList _ _ _ ({ dst := some 26, op := _, type := _, pos := _, after := _, guard := _ } :: _) _ _; refine wpList_load_row rfl 23 (.tmp 10) rfl _ rfl 23 X (0, 0) _ HB.out.2.2.1 Tryd.underlying23 rfl HSX.out ?_; try simp only [Act.put, List.setIfInBounds_toArray, List.set_cons_zero, List.set_cons_succ])
        | fail)
      refine (I1.out _ HB.out.1).mono ?_
      rintro e w1 ⟨rfl, hb1⟩
      have HB2 := hidk (HB.out.keep hb1)
      clear hb1 HB I1
      go_wp2
      refine bodyPost_ret (results_three rfl _ _ _) rfl ⟨rfl, HB2.out.1⟩
  obtain rfl : E1 = 0 := by omega
  clear c1
  by_cases c2 : ¬ E2 = 0
  · have hc : claE root size index x p y q = none := by unfold claE; rw [if_neg]; intro h; rw [HE2.out] at c2; exact c2 h.2.1
    rw [hc]
    show Calls _ _ _ _ fun e w' => e = .returned (.tuple #[.string ⟨#[]⟩, .string ⟨#[]⟩, .bool false]) ∧ _
    clear EQ HE1 HE2 hP hQ hK hc hE1 HR HX HY hr hx hy hs hi
    rcases hE2 with rfl | rfl | rfl
    · exact absurd rfl c2
    all_goals
      clear c2
      go_enter Tryd.func17, Tryd.ntmps17
      go_wp2_with (first
        | (show wpList _ _ _ ({ dst := some 23, op := _, type := _, pos := _, after := _, guard := _ } :: _) _ _; refine wpList_load_row rfl 23 (.tmp 7) rfl _ rfl 23 R (0, 0) _ HB.out.2.1 Tryd.underlying23 rfl HSR.out ?_; try simp only [Act.put, List.setIfInBounds_toArray, List.set_cons_zero, List.set_cons_succ])
        | (show wpList _ _ _ ({ dst := some 26, op := _, type := _, pos := _, after := _, guard := _ } :: _) _ _; refine wpList_load_row rfl 23 (.tmp 10) rfl _ rfl 23 X (0, 0) _ HB.out.2.2.1 Tryd.underlying23 rfl HSX.out ?_; try simp only [Act.put, List.setIfInBounds_toArray, List.set_cons_zero, List.set_cons_succ])
        | fail)
      refine (I1.out _ HB.out.1).mono ?_
      rintro e w1 ⟨rfl, hb1⟩
      have HB2 := hidk (HB.out.keep hb1)
      clear hb1 HB I1
      go_wp2_with (first
        | (show wpList _ _ _ ({ dst := some 31, op := _, type := _, pos := _, after := _, guard := _ } :: _) _ _; refine wpList_load_row_w (by rfl) 23 (.tmp 7) rfl w.heap.size rfl 23 R (0, 0) _ HB2.out.2.1 Tryd.underlying23 rfl HSR.out ?_; try simp only [Act.put, List.setIfInBounds_toArray, List.set_cons_zero, List.set_cons_succ])
        | (show wpList _ _ _ ({ dst := some 34, op := _, type := _, pos := _, after := _, guard := _ } :: _) _ _; refine wpList_load_row_w (by rfl) 23 (.tmp 12) rfl (w.heap.size + 2) rfl 23 Y (0, 0) _ HB2.out.2.2.2 Tryd.underlying23 rfl HSY.out ?_; try simp only [Act.put, List.setIfInBounds_toArray, List.set_cons_zero, List.set_cons_succ])
        | fail)
      refine (I2.out _ HB2.out.1).mono ?_
      rintro e w2 ⟨rfl, hb2⟩
      have HB3 := hidk (HB2.out.keep hb2)
      clear hb2 HB2 I2
      go_wp2
      refine bodyPost_ret (results_three rfl _ _ _) rfl ⟨rfl, HB3.out.1⟩
  obtain rfl : E2 = 0 := by omega
  clear c2
  by_cases c3 : x = y
  · have hc : claE root size index x p y q = none := by unfold claE; rw [if_neg]; intro h; exact h.2.2 c3
    rw [hc]
    show Calls _ _ _ _ fun e w' => e = .returned (.tuple #[.string ⟨#[]⟩, .string ⟨#[]⟩, .bool false]) ∧ _
    have eq := fun W => EQ true (by simp [c3]) W
    clear EQ HE1 HE2 hP hQ hK hc hE1 hE2 HR HX HY hr hx hy hs hi c3
    go_enter Tryd.func17, Tryd.ntmps17
    go_wp2_with (first
      | (show wpList _ _ _ ({ dst := some 23, op := _, type := _, pos := _, after := _, guard := _ } :: _) _ _; refine wpList_load_row rfl 23 (.tmp 7) rfl _ rfl 23 R (0, 0) _ HB.out.2.1 Tryd.underlying23 rfl HSR.out ?_; try simp only [Act.put, List.setIfInBounds_toArray, List.set_cons_zero, List.set_cons_succ])
      | (show wpList _ _ _ ({ dst := some 26, op := _, type := _, pos := _, after := _, guard := _ } :: _) _ _; refine wpList_load_row rfl 23 (.tmp 10) rfl _ rfl 23 X (0, 0) _ HB.out.2.2.1 Tryd.underlying23 rfl HSX.out ?_; try simp only [Act.put, List.setIfInBounds_toArray, List.set_cons_zero, List.set_cons_succ])
      | fail)
    refine (I1.out _ HB.out.1).mono ?_
    rintro e w1 ⟨rfl, hb1⟩
    have HB2 := hidk (HB.out.keep hb1)
    clear hb1 HB I1
    go_wp2_with (first
      | (show wpList _ _ _ ({ dst := some 31, op := _, type := _, pos := _, after := _, guard := _ } :: _) _ _; refine wpList_load_row_w (by rfl) 23 (.tmp 7) rfl w.heap.size rfl 23 R (0, 0) _ HB2.out.2.1 Tryd.underlying23 rfl HSR.out ?_; try simp only [Act.put, List.setIfInBounds_toArray, List.set_cons_zero, List.set_cons_succ])
      | (show wpList _ _ _ ({ dst := some 34, op := _, type := _, pos := _, after := _, guard := _ } :: _) _ _; refine wpList_load_row_w (by rfl) 23 (.tmp 12) rfl (w.heap.size + 2) rfl 23 Y (0, 0) _ HB2.out.2.2.2 Tryd.underlying23 rfl HSY.out ?_; try simp only [Act.put, List.setIfInBounds_toArray, List.set_cons_zero, List.set_cons_succ])
      | fail)
    refine (I2.out _ HB2.out.1).mono ?_
    rintro e w2 ⟨rfl, hb2⟩
    have HB3 := hidk (HB2.out.keep hb2)
    clear hb2 HB2 I2
    go_wp2_with (first
      | (show wpList _ _ _ ({ dst := some 40, op := _, type := _, pos := _, after := _, guard := _ } :: _) _ _; refine wpList_load_row_w (by rfl) 23 (.tmp 10) rfl (w.heap.size + 1) rfl 23 X (0, 0) _ HB3.out.2.2.1 Tryd.underlying23 rfl HSX.out ?_; try simp only [Act.put, List.setIfInBounds_toArray, List.set_cons_zero, List.set_cons_succ])
      | (show wpList _ _ _ ({ dst := some 41, op := _, type := _, pos := _, after := _, guard := _ } :: _) _ _; refine wpList_load_row_w (by rfl) 23 (.tmp 12) rfl (w.heap.size + 2) rfl 23 Y (0, 0) _ HB3.out.2.2.2 Tryd.underlying23 rfl HSY.out ?_; try simp only [Act.put, List.setIfInBounds_toArray, List.set_cons_zero, List.set_cons_succ])
      | fail)
    refine bodyPost_ret (results_three rfl _ _ _) rfl ⟨rfl, HB3.out.1⟩
  · have eq := fun W => EQ false (by simp [c3]) W
    have o1 := incE_ok HE1.out.symm
    have o2 := incE_ok HE2.out.symm
    obtain ⟨S, rfl⟩ : ∃ S : Nat, size = S := ⟨size.toNat, by omega⟩
    obtain ⟨I, rfl⟩ : ∃ I : Nat, index = I := ⟨index.toNat, by omega⟩
    simp only [Int.toNat_natCast] at o1 o2
    have hc : claE root S I x p y q = clashR p.reverse q.reverse S I x y := by unfold claE; rw [if_pos ⟨HE1.out.symm, HE2.out.symm, c3⟩, Int.toNat_natCast, Int.toNat_natCast]
    rw [hc]
    have PR : Hid (∀ (z : List UInt8) (Zr : Array Value) (r : List (List UInt8)) (d : List UInt8) (S' I' : Nat) (c : Option Addr) (m cap : Nat) (W : World) (T : ByteArray), z.length = 32 → Hid (Zr = (cellsOf z).toArray) → r.length = m → 2 ≤ S' → S' ≤ 100000 → I' < S' → LReads W c (m + 1) cap (r ++ [d]) → Below w.heap.size w W → Hid (T = ⟨(pairT (d :: r.reverse) S' I' z).toArray⟩) →
        Calls Tryd.prog 34 #[.int .i64 S', .int .i64 I', .agg Zr, .slice c (m + 1) cap] W fun e w' => e = .returned (.tuple #[.string T, .int .i64 (if I' < split S' then (split S' : Int) else ((S' : Int) - (split S' : Int))), .int .i64 (if I' < split S' then (I' : Int) else ((I' : Int) - (split S' : Int)))]) ∧ Below W.heap.size W w') := fun z Zr r d S' I' c m cap W T hz HZr hrm h2 h3 h4 hrd hb HT =>
      refPair_any r d S' I' z c m cap W hrm h2 h3 h4 hrd hz (hK.keep hb) Zr HZr T HT
    have HST : Hid (LReads w a len1 cap1 p ∧ LReads w b len2 cap2 q ∧ mkR p.reverse S I x = (root, true) ∧ mkR q.reverse S I y = (root, true)) := ⟨hP, hQ, o1.2.2.2.2, o2.2.2.2.2⟩
    have hSb : 1 ≤ S ∧ S ≤ 100000 ∧ I < S := by omega
    clear EQ HE1 HE2 hP hQ hK hc hE1 hE2 HR hr hs hi o1 o2
    go_enter Tryd.func17, Tryd.ntmps17
    go_wp2_with (first
      | (show wpList _ _ _ ({ dst := some 23, op := _, type := _, pos := _, after := _, guard := _ } :: _) _ _; refine wpList_load_row rfl 23 (.tmp 7) rfl _ rfl 23 R (0, 0) _ HB.out.2.1 Tryd.underlying23 rfl HSR.out ?_; try simp only [Act.put, List.setIfInBounds_toArray, List.set_cons_zero, List.set_cons_succ])
      | (show wpList _ _ _ ({ dst := some 26, op := _, type := _, pos := _, after := _, guard := _ } :: _) _ _; refine wpList_load_row rfl 23 (.tmp 10) rfl _ rfl 23 X (0, 0) _ HB.out.2.2.1 Tryd.underlying23 rfl HSX.out ?_; try simp only [Act.put, List.setIfInBounds_toArray, List.set_cons_zero, List.set_cons_succ])
      | fail)
    refine (I1.out _ HB.out.1).mono ?_
    rintro e w1 ⟨rfl, hb1⟩
    have HB2 := hidk (HB.out.keep hb1)
    clear hb1 HB I1
    go_wp2_with (first
      | (show wpList _ _ _ ({ dst := some 31, op := _, type := _, pos := _, after := _, guard := _ } :: _) _ _; refine wpList_load_row_w (by rfl) 23 (.tmp 7) rfl w.heap.size rfl 23 R (0, 0) _ HB2.out.2.1 Tryd.underlying23 rfl HSR.out ?_; try simp only [Act.put, List.setIfInBounds_toArray, List.set_cons_zero, List.set_cons_succ])
      | (show wpList _ _ _ ({ dst := some 34, op := _, type := _, pos := _, after := _, guard := _ } :: _) _ _; refine wpList_load_row_w (by rfl) 23 (.tmp 12) rfl (w.heap.size + 2) rfl 23 Y (0, 0) _ HB2.out.2.2.2 Tryd.underlying23 rfl HSY.out ?_; try simp only [Act.put, List.setIfInBounds_toArray, List.set_cons_zero, List.set_cons_succ])
      | fail)
    refine (I2.out _ HB2.out.1).mono ?_
    rintro e w2 ⟨rfl, hb2⟩
    have HB3 := hidk (HB2.out.keep hb2)
    clear hb2 HB2 I2
    go_wp2_with (first
      | (show wpList _ _ _ ({ dst := some 40, op := _, type := _, pos := _, after := _, guard := _ } :: _) _ _; refine wpList_load_row_w (by rfl) 23 (.tmp 10) rfl (w.heap.size + 1) rfl 23 X (0, 0) _ HB3.out.2.2.1 Tryd.underlying23 rfl HSX.out ?_; try simp only [Act.put, List.setIfInBounds_toArray, List.set_cons_zero, List.set_cons_succ])
      | (show wpList _ _ _ ({ dst := some 41, op := _, type := _, pos := _, after := _, guard := _ } :: _) _ _; refine wpList_load_row_w (by rfl) 23 (.tmp 12) rfl (w.heap.size + 2) rfl 23 Y (0, 0) _ HB3.out.2.2.2 Tryd.underlying23 rfl HSY.out ?_; try simp only [Act.put, List.setIfInBounds_toArray, List.set_cons_zero, List.set_cons_succ])
      | fail)
    have HB4 := HB3
    clear HB3 eq
    go_loopw [1, 2, 4, 6] (fun u1 u2 u4 u6 wr => ∃ (S' I' : Nat) (c1 c2 : Option Addr) (m1 k1 m2 k2 : Nat), u1 = .int .i64 S' ∧ u2 = .int .i64 I' ∧ u4 = .slice c1 m1 k1 ∧ u6 = .slice c2 m2 k2 ∧ 1 ≤ S' ∧ S' ≤ 100000 ∧ I' < S' ∧ CameR w wr R X Y ∧ Hid (∃ P Q R', LReads w c1 m1 k1 P ∧ LReads w c2 m2 k2 Q ∧ mkR P.reverse S' I' x = (R', true) ∧ mkR Q.reverse S' I' y = (R', true) ∧ clashR P.reverse Q.reverse S' I' x y = clashR p.reverse q.reverse S I x y)) (fun u1 _ _ _ _ => (intOf u1).toNat)
    case atStart => exact ⟨S, I, a, b, len1, cap1, len2, cap2, rfl, rfl, rfl, rfl, by omega, by omega, by omega, HB4.out, p, q, root, HST.out.1, HST.out.2.1, HST.out.2.2.1, HST.out.2.2.2, rfl⟩
    case round =>
      clear HST HB4 hSb
      obtain ⟨S', I', c1, c2, m1, k1, m2, k2, rfl, rfl, rfl, rfl, b1, b2, b3, hcm, HI⟩ := hrel
      obtain ⟨P, Q, R', g1, g2, g3, g4, g5⟩ := HI.out
      by_cases hS1 : S' = 1
      · exfalso
        subst hS1
        have n1 : P.reverse = [] := by cases h : P.reverse with | nil => rfl | cons d r => rw [h, mkR_one] at g3; simp at g3
        have n2 : Q.reverse = [] := by cases h : Q.reverse with | nil => rfl | cons d r => rw [h, mkR_one] at g4; simp at g4
        rw [n1, mkR_nil] at g3
        rw [n2, mkR_nil] at g4
        simp only [Prod.mk.injEq] at g3 g4
        exact c3 (g3.1.trans g4.1.symm)
      · obtain ⟨q1, d1, rfl⟩ := mkR_cons g3 (by omega)
        obtain ⟨q2, d2, rfl⟩ := mkR_cons g4 (by omega)
        have hl1 : m1 = q1.length + 1 := by have := g1.1; simpa using this.symm
        have hl2 : m2 = q2.length + 1 := by have := g2.1; simpa using this.symm
        subst hl1 hl2
        obtain ⟨go1, oo1, rfl, _⟩ := g1.at (by omega)
        obtain ⟨go2, oo2, rfl, _⟩ := g2.at (by omega)
        obtain ⟨n1, Hn1⟩ : ∃ n, Hid (n = q1.length) := ⟨_, (rfl : _ = _)⟩
        obtain ⟨n2, Hn2⟩ : ∃ n, Hid (n = q2.length) := ⟨_, (rfl : _ = _)⟩
        rw [← Hn1.out, ← Hn2.out]
        rw [← Hn1.out] at g1
        rw [← Hn2.out] at g2
        obtain ⟨T1, HT1⟩ : ∃ T : ByteArray, Hid (T = ⟨(pairT (d1 :: q1.reverse) S' I' x).toArray⟩) := ⟨_, (rfl : _ = _)⟩
        obtain ⟨T2, HT2⟩ : ∃ T : ByteArray, Hid (T = ⟨(pairT (d2 :: q2.reverse) S' I' y).toArray⟩) := ⟨_, (rfl : _ = _)⟩
        obtain ⟨v1, Hv1⟩ : ∃ v : Int, Hid (v = (if I' < split S' then (split S' : Int) else ((S' : Int) - (split S' : Int)))) := ⟨_, (rfl : _ = _)⟩
        obtain ⟨v2, Hv2⟩ : ∃ v : Int, Hid (v = (if I' < split S' then (I' : Int) else ((I' : Int) - (split S' : Int)))) := ⟨_, (rfl : _ = _)⟩
        have P1 : Hid (∀ W, Below w.heap.size w W → Calls Tryd.prog 34 #[.int .i64 S', .int .i64 I', .agg X, .slice (some ⟨go1, oo1, none⟩) (n1 + 1) k1] W fun e w' => e = .returned (.tuple #[.string T1, .int .i64 v1, .int .i64 v2]) ∧ Below W.heap.size W w') := fun W hb => by
          rw [Hv1.out, Hv2.out]
          exact PR.out x X q1 d1 S' I' _ n1 k1 W T1 hx HX Hn1.out.symm (by omega) b2 b3 (g1.keep hb) hb HT1
        have P2 : Hid (∀ W, Below w.heap.size w W → Calls Tryd.prog 34 #[.int .i64 S', .int .i64 I', .agg Y, .slice (some ⟨go2, oo2, none⟩) (n2 + 1) k2] W fun e w' => e = .returned (.tuple #[.string T2, .int .i64 v1, .int .i64 v2]) ∧ Below W.heap.size W w') := fun W hb => by
          rw [Hv1.out, Hv2.out]
          exact PR.out y Y q2 d2 S' I' _ n2 k2 W T2 hy HY Hn2.out.symm (by omega) b2 b3 (g2.keep hb) hb HT2
        have hgt : decide ((1 : Int) < (S' : Int)) = true := by rw [decide_eq_true_eq]; omega
        have x1 : n1 + 1 ≤ k1 := g1.2.2.1
        have x2 : n2 + 1 ≤ k2 := g2.2.2.1
        have y1 : n1 + 1 ≤ 9223372036854775807 := by have := g1.2.2.2.1; unfold maxLen at this; omega
        have y2 : n2 + 1 ≤ 9223372036854775807 := by have := g2.2.2.2.1; unfold maxLen at this; omega
        have sl1 := fun W => slice_left W go1 oo1 (n1 + 1) k1 n1 (by omega)
        have sl2 := fun W => slice_left W go2 oo2 (n2 + 1) k2 n2 (by omega)
        have w1 : IntKind.i64.wrap ((n1 : Int) + 1 - 1) = (n1 : Int) := by rw [wrap_int _ (by omega) (by omega)]; omega
        have w2 : IntKind.i64.wrap ((n2 : Int) + 1 - 1) = (n2 : Int) := by rw [wrap_int _ (by omega) (by omega)]; omega
        have HC := hidk hcm
        have HG := hidk (And.intro g1 (And.intro g2 (And.intro g3 (And.intro g4 g5))))
        by_cases he : pairT (d1 :: q1.reverse) S' I' x = pairT (d2 :: q2.reverse) S' I' y
        · obtain rfl : T1 = T2 := by rw [HT1.out, HT2.out, he]
          obtain ⟨S2, I2', R2, z1, z2, z3, z4, z5, z6, z7, z8⟩ := clash_step q1 q2 d1 d2 S' I' x y R' (by omega) b3 hx hy (g1.2.1 d1 (by simp)) (g2.2.1 d2 (by simp)) g3 g4 he
          rw [← z1] at Hv1
          rw [← z2] at Hv2
          obtain rfl : v1 = S2 := Hv1.out
          obtain rfl : v2 = I2' := Hv2.out
          have HN : Hid (∃ P Q R', LReads w (some ⟨go1, oo1, none⟩) n1 k1 P ∧ LReads w (some ⟨go2, oo2, none⟩) n2 k2 Q ∧ mkR P.reverse S2 I2' x = (R', true) ∧ mkR Q.reverse S2 I2' y = (R', true) ∧ clashR P.reverse Q.reverse S2 I2' x y = clashR p.reverse q.reverse S I x y) := by
            refine ⟨q1, q2, R2, ?_, ?_, z6, z7, by rw [← z8]; exact g5⟩
            · have := g1.take n1 (by omega)
              rwa [List.take_left' Hn1.out.symm] at this
            · have := g2.take n2 (by omega)
              rwa [List.take_left' Hn2.out.symm] at this
          clear HI HG g1 g2 g3 g4 g5 Hv1 Hv2 HT1 HT2 Hn1 Hn2 z1 z2 z6 z7 z8 PR he hcm HX HY hx hy c3
          go_wp2_with (first
            | (show wpList _ _ _ ({ dst := some 49, op := _, type := _, pos := _, after := _, guard := _ } :: _) _ _; refine wpList_load_row rfl 23 (.tmp 10) rfl (w.heap.size + 1) rfl 23 X (0, 0) _ HC.out.2.2.1 Tryd.underlying23 rfl HSX.out ?_; try simp only [Act.put, List.setIfInBounds_toArray, List.set_cons_zero, List.set_cons_succ])
            | fail)
          refine (P1.out _ HC.out.1).mono ?_
          rintro e wp ⟨rfl, hbp⟩
          have HC1 := hidk (HC.out.keep hbp)
          clear hbp HC P1
          go_wp2_with (first
            | (show wpList _ _ _ ({ dst := some 58, op := _, type := _, pos := _, after := _, guard := _ } :: _) _ _; refine wpList_load_row rfl 23 (.tmp 12) rfl (w.heap.size + 2) rfl 23 Y (0, 0) _ HC1.out.2.2.2 Tryd.underlying23 rfl HSY.out ?_; try simp only [Act.put, List.setIfInBounds_toArray, List.set_cons_zero, List.set_cons_succ])
            | fail)
          refine (P2.out _ HC1.out.1).mono ?_
          rintro e wq ⟨rfl, hbq⟩
          have HC2 := hidk (HC1.out.keep hbq)
          clear hbq HC1 P2
          go_wp2
          go_roundw
          case rel => exact ⟨S2, I2', _, _, n1, k1, n2, k2, rfl, rfl, rfl, rfl, z3, by omega, z5, HC2.out, HN⟩
          case measure => simp [intOf]; omega
        · have hT : T1 ≠ T2 := by rw [HT1.out, HT2.out]; exact fun e => he (text_inj.1 e)
          have hres : clashR p.reverse q.reverse S I x y = some (pairT (d1 :: q1.reverse) S' I' x, pairT (d2 :: q2.reverse) S' I' y) := by rw [← g5]; exact clash_tell q1 q2 d1 d2 S' I' x y (by omega) he
          have HRS : Hid (claV (clashR p.reverse q.reverse S I x y) = .tuple #[.string T1, .string T2, .bool true]) := by show _ = _; rw [hres, HT1.out, HT2.out]; rfl
          have sq : (T1.toList == T2.toList) = false := text_ne hT
          clear HI HG g1 g2 g3 g4 g5 Hv1 Hv2 HT1 HT2 Hn1 Hn2 PR he hres hcm HX HY hx hy c3 hT
          go_wp2_with (first
            | (show wpList _ _ _ ({ dst := some 49, op := _, type := _, pos := _, after := _, guard := _ } :: _) _ _; refine wpList_load_row rfl 23 (.tmp 10) rfl (w.heap.size + 1) rfl 23 X (0, 0) _ HC.out.2.2.1 Tryd.underlying23 rfl HSX.out ?_; try simp only [Act.put, List.setIfInBounds_toArray, List.set_cons_zero, List.set_cons_succ])
            | fail)
          refine (P1.out _ HC.out.1).mono ?_
          rintro e wp ⟨rfl, hbp⟩
          have HC1 := hidk (HC.out.keep hbp)
          clear hbp HC P1
          go_wp2_with (first
            | (show wpList _ _ _ ({ dst := some 58, op := _, type := _, pos := _, after := _, guard := _ } :: _) _ _; refine wpList_load_row rfl 23 (.tmp 12) rfl (w.heap.size + 2) rfl 23 Y (0, 0) _ HC1.out.2.2.2 Tryd.underlying23 rfl HSY.out ?_; try simp only [Act.put, List.setIfInBounds_toArray, List.set_cons_zero, List.set_cons_succ])
            | fail)
          refine (P2.out _ HC1.out.1).mono ?_
          rintro e wq ⟨rfl, hbq⟩
          have HC2 := hidk (HC1.out.keep hbq)
          clear hbq HC1 P2
          go_wp2
          refine bodyPost_ret (results_three rfl _ _ _) rfl ⟨by rw [HRS.out]; rfl, HC2.out.1⟩
end Go.Proofs.YtehfoeedlchphaaDoor
