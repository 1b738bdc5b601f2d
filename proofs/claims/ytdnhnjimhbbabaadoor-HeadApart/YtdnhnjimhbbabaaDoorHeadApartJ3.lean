/- Texts of our own that the row of HeadApart leans on, part 3. -/
import Derived.Test.YtdnhnjimhbbabaaDoorHeadApartJ2
import Derived.Test.YtdnhnjimhbbabaaDoorRows
import Derived.ProofKit
import Derived.OpenShut
import Derived.LaidMore
import Derived.Lay
import Derived.Lib.BufferWrite

/- What HeadApart says of any input, over what the calls of package head answer. -/
namespace Go.Proofs.YtdnhnjimhbbabaaDoor
open Go.RowKit Sums Nums
set_option linter.unusedVariables false
set_option linter.unusedSimpArgs false
set_option maxRecDepth 100000
/-- Two heads and two signed heads that came in, and what was laid of them. -/
structure CameA (w : World) (A B X Y : Array Value) (W : World) : Prop where
  below : Below w.heap.size w W
  a : W.heap[w.heap.size]? = some (.cells A 26 (0, 0))
  b : W.heap[w.heap.size + 1]? = some (.cells B 26 (0, 0))
  x : W.heap[w.heap.size + 2]? = some (.cells X 28 (0, 0))
  y : W.heap[w.heap.size + 3]? = some (.cells Y 28 (0, 0))
theorem CameA.keep {w W W' : World} {A B X Y : Array Value} (h : CameA w A B X Y W) (hb : Below W.heap.size W W') : CameA w A B X Y W' :=
  ⟨h.below.trans (hb.mono h.below.size), (hb.block _ (heap_lt h.a)).trans h.a, (hb.block _ (heap_lt h.b)).trans h.b, (hb.block _ (heap_lt h.x)).trans h.x, (hb.block _ (heap_lt h.y)).trans h.y⟩
theorem cameA (w : World) (A B X Y : Array Value) : CameA w A B X Y ((((w.alloc (.cells A 26)).alloc (.cells B 26)).alloc (.cells X 28)).alloc (.cells Y 28)) := by
  have h1 : (w.alloc (.cells A 26)).heap.size = w.heap.size + 1 := by show (w.heap.push _).size = _; simp
  have h2 : ((w.alloc (.cells A 26)).alloc (.cells B 26)).heap.size = w.heap.size + 2 := by show ((w.heap.push _).push _).size = _; simp
  have h3 : (((w.alloc (.cells A 26)).alloc (.cells B 26)).alloc (.cells X 28)).heap.size = w.heap.size + 3 := by show (((w.heap.push _).push _).push _).size = _; simp
  refine ⟨((((Below.refl _ _).alloc (Nat.le_refl _) _).alloc (by omega) _).alloc (by omega) _).alloc (by omega) _, heap_keep (heap_keep (heap_keep (heap_alloc_new w _))), ?_, ?_, ?_⟩
  · have := heap_alloc_new (w.alloc (.cells A 26)) (.cells B 26)
    rw [h1] at this
    exact heap_keep (heap_keep this)
  · have := heap_alloc_new ((w.alloc (.cells A 26)).alloc (.cells B 26)) (.cells X 28)
    rw [h2] at this
    exact heap_keep this
  · have := heap_alloc_new (((w.alloc (.cells A 26)).alloc (.cells B 26)).alloc (.cells X 28)) (.cells Y 28)
    rw [h3] at this
    exact this
/-- What was laid of the four. -/
structure Laid4 (w : World) (A B X Y : Array Value) (a1 a2 a3 a4 : Option Addr) (n1 n2 n3 n4 c1 c2 c3 c4 : Nat) (L1 L2 L3 L4 : List UInt8) (W : World) : Prop where
  came : CameA w A B X Y W
  r1 : Reads W a1 n1 c1 L1
  r2 : Reads W a2 n2 c2 L2
  r3 : Reads W a3 n3 c3 L3
  r4 : Reads W a4 n4 c4 L4
theorem Laid4.keep {w W W' : World} {A B X Y : Array Value} {a1 a2 a3 a4 : Option Addr} {n1 n2 n3 n4 c1 c2 c3 c4 : Nat} {L1 L2 L3 L4 : List UInt8} (h : Laid4 w A B X Y a1 a2 a3 a4 n1 n2 n3 n4 c1 c2 c3 c4 L1 L2 L3 L4 W) (hb : Below W.heap.size W W') : Laid4 w A B X Y a1 a2 a3 a4 n1 n2 n3 n4 c1 c2 c3 c4 L1 L2 L3 L4 W' :=
  ⟨h.came.keep hb, h.r1.below hb, h.r2.below hb, h.r3.below hb, h.r4.below hb⟩
theorem putE_right {h : HdT} (e : putE h = 0) : rightH h = true := by
  unfold putE at e
  by_cases hr : rightH h = true
  · exact hr
  · rw [if_neg hr] at e; omega
theorem putSE_may {s : SgT} (e : putSE s = 0) : mayS s = true := by
  unfold putSE at e
  by_cases hr : mayS s = true
  · exact hr
  · rw [if_neg hr] at e; omega
theorem put_apart (a b : HdT) (da : a.d.length = 32) (db : b.d.length = 32) (ea : putE a = 0) (eb : putE b = 0) : putB a = putB b ↔ a = b := by
  have ra := putE_right ea
  have rb := putE_right eb
  unfold putB
  rw [if_pos ra, if_pos rb]
  exact ⟨fun h => headB_inj ra rb da db h, fun h => by rw [h]⟩
theorem putS_apart (a b : SgT) (ia : InS a) (ib : InS b) (ea : putSE a = 0) (eb : putSE b = 0) : putSB a = putSB b ↔ a = b := by
  have ra := putSE_may ea
  have rb := putSE_may eb
  unfold putSB
  rw [if_pos ra, if_pos rb]
  exact ⟨fun h => signB_inj ra rb ia.h.d ib.h.d ia.g ib.g h, fun h => by rw [h]⟩
theorem eq_texts (l r : List UInt8) (x : Bool) (hx : x = true ↔ l = r) : ((⟨l.toArray⟩ : ByteArray).toList == (⟨r.toArray⟩ : ByteArray).toList) = x := by
  by_cases h : l = r
  · subst h
    rw [hx.2 rfl]
    exact beq_self_eq_true _
  · have hx' : x = false := by cases x with | false => rfl | true => exact absurd (hx.1 rfl) h
    have hne : (⟨l.toArray⟩ : ByteArray) ≠ ⟨r.toArray⟩ := fun e => h (text_inj.1 e)
    rw [hx']
    exact text_ne hne
set_option maxHeartbeats 32000000 in
theorem headApart_of (ck : HeadC) (a b : HdT) (s t : SgT) (w : World) (A B X Y : Array Value) (HA : Hid (A = (hcells a).toArray)) (HB : Hid (B = (hcells b).toArray)) (HX : Hid (X = (scells s).toArray)) (HY : Hid (Y = (scells t).toArray)) (ha : InH a) (hb : InH b) (hs : InS s) (ht : InS t) (hT : TabH w) :
    Calls Tryd.prog 7 #[.agg A, .agg B, .agg X, .agg Y] w fun e w' => e = .returned (.bool true) ∧ Below w.heap.size w w' := by
  have HK := hidk (cameA w A B X Y)
  have HSA : Hid ((Tryd.prog.info? 26).map (·.size) = some A.size) := by show _ = _; rw [sizeH, HA.out]; simp [hcells_length _ ha.d]
  have HSB : Hid ((Tryd.prog.info? 26).map (·.size) = some B.size) := by show _ = _; rw [sizeH, HB.out]; simp [hcells_length _ hb.d]
  have HSX : Hid ((Tryd.prog.info? 28).map (·.size) = some X.size) := by show _ = _; rw [sizeS, HX.out]; simp [scells_length _ hs.h.d hs.g]
  have HSY : Hid ((Tryd.prog.info? 28).map (·.size) = some Y.size) := by show _ = _; rw [sizeS, HY.out]; simp [scells_length _ ht.h.d ht.g]
  obtain ⟨E, hE⟩ : ∃ E, E = putE a := ⟨_, rfl⟩
  obtain ⟨F, hF⟩ : ∃ E, E = putE b := ⟨_, rfl⟩
  obtain ⟨G, hG⟩ : ∃ E, E = putSE s := ⟨_, rfl⟩
  obtain ⟨J, hJ⟩ : ∃ E, E = putSE t := ⟨_, rfl⟩
  obtain ⟨L1, hL1⟩ : ∃ L, L = putB a := ⟨_, rfl⟩
  obtain ⟨L2, hL2⟩ : ∃ L, L = putB b := ⟨_, rfl⟩
  obtain ⟨L3, hL3⟩ : ∃ L, L = putSB s := ⟨_, rfl⟩
  obtain ⟨L4, hL4⟩ : ∃ L, L = putSB t := ⟨_, rfl⟩
  obtain ⟨n1, hn1⟩ : ∃ n, n = L1.length := ⟨_, rfl⟩
  obtain ⟨n2, hn2⟩ : ∃ n, n = L2.length := ⟨_, rfl⟩
  obtain ⟨n3, hn3⟩ : ∃ n, n = L3.length := ⟨_, rfl⟩
  obtain ⟨n4, hn4⟩ : ∃ n, n = L4.length := ⟨_, rfl⟩
  have P1 : Hid (∀ W, Calls Tryd.prog 22 #[.agg A] W fun e w' => (∃ a cap, e = .returned (.tuple #[.slice a n1 cap, .int .i64 E]) ∧ Reads w' a n1 cap L1) ∧ Below W.heap.size W w') := fun W => by rw [hE, hn1, hL1]; exact ck.put _ ha W A HA
  have P2 : Hid (∀ W, Calls Tryd.prog 22 #[.agg B] W fun e w' => (∃ a cap, e = .returned (.tuple #[.slice a n2 cap, .int .i64 F]) ∧ Reads w' a n2 cap L2) ∧ Below W.heap.size W w') := fun W => by rw [hF, hn2, hL2]; exact ck.put _ hb W B HB
  have P3 : Hid (∀ W, Calls Tryd.prog 13 #[.agg X] W fun e w' => (∃ a cap, e = .returned (.tuple #[.slice a n3 cap, .int .i64 G]) ∧ Reads w' a n3 cap L3) ∧ Below W.heap.size W w') := fun W => by rw [hG, hn3, hL3]; exact ck.putS _ hs W X HX
  have P4 : Hid (∀ W, Calls Tryd.prog 13 #[.agg Y] W fun e w' => (∃ a cap, e = .returned (.tuple #[.slice a n4 cap, .int .i64 J]) ∧ Reads w' a n4 cap L4) ∧ Below W.heap.size W w') := fun W => by rw [hJ, hn4, hL4]; exact ck.putS _ ht W Y HY
  have LY : Hid (∀ W, Calls Tryd.prog 15 #[] W fun e w' => e = .returned (.bool true) ∧ Below W.heap.size W w') := fun W => lays_true ck W
  have SI : Hid (∀ W, Below w.heap.size w W → Calls Tryd.prog 10 #[] W fun e w' => e = .returned (.bool true) ∧ Below W.heap.size W w') := fun W hb => signs_true ck W (hT.keep hb)
  have hE0 : E = 0 ∨ E = 70 := by rw [hE]; unfold putE; split <;> simp
  have hF0 : F = 0 ∨ F = 70 := by rw [hF]; unfold putE; split <;> simp
  have hG0 : G = 0 ∨ G = 70 := by rw [hG]; unfold putSE; split <;> simp
  have hJ0 : J = 0 ∨ J = 70 := by rw [hJ]; unfold putSE; split <;> simp
  obtain ⟨T1, HT1⟩ : ∃ T : ByteArray, Hid (T = ⟨L1.toArray⟩) := ⟨_, hidk rfl⟩
  obtain ⟨T2, HT2⟩ : ∃ T : ByteArray, Hid (T = ⟨L2.toArray⟩) := ⟨_, hidk rfl⟩
  obtain ⟨T3, HT3⟩ : ∃ T : ByteArray, Hid (T = ⟨L3.toArray⟩) := ⟨_, hidk rfl⟩
  obtain ⟨T4, HT4⟩ : ∃ T : ByteArray, Hid (T = ⟨L4.toArray⟩) := ⟨_, hidk rfl⟩
  have CV1 : Hid (∀ W a cap, Reads W a n1 cap L1 → (convert 35 9 (.slice a n1 cap)).run Tryd.prog W = .ok (.string T1) W) := fun W a cap h => by rw [HT1.out]; exact conv_reads h
  have CV2 : Hid (∀ W a cap, Reads W a n2 cap L2 → (convert 35 9 (.slice a n2 cap)).run Tryd.prog W = .ok (.string T2) W) := fun W a cap h => by rw [HT2.out]; exact conv_reads h
  have CV3 : Hid (∀ W a cap, Reads W a n3 cap L3 → (convert 35 9 (.slice a n3 cap)).run Tryd.prog W = .ok (.string T3) W) := fun W a cap h => by rw [HT3.out]; exact conv_reads h
  have CV4 : Hid (∀ W a cap, Reads W a n4 cap L4 → (convert 35 9 (.slice a n4 cap)).run Tryd.prog W = .ok (.string T4) W) := fun W a cap h => by rw [HT4.out]; exact conv_reads h
  have Q12 : E = 0 → F = 0 → ∃ x : Bool, ((T1.toList == T2.toList) = x) ∧ (∀ W, (binOp .eql 26 (.agg A) (.agg B)).run Tryd.prog W = .ok (.bool x) W) := fun e f => by
    have key := put_apart a b ha.d hb.d (hE ▸ e) (hF ▸ f)
    rw [← hL1, ← hL2] at key
    by_cases h : L1 = L2
    · refine ⟨true, ?_, fun W => eqHead a b ha.d hb.d A B HA HB true ⟨fun _ => key.1 h, fun _ => rfl⟩ W⟩
      rw [HT1.out, HT2.out]; exact eq_texts L1 L2 true ⟨fun _ => h, fun _ => rfl⟩
    · refine ⟨false, ?_, fun W => eqHead a b ha.d hb.d A B HA HB false ⟨fun q => by (cases q), fun q => absurd (key.2 q) h⟩ W⟩
      rw [HT1.out, HT2.out]; exact eq_texts L1 L2 false ⟨fun q => by (cases q), fun q => absurd q h⟩
  have Q34 : G = 0 → J = 0 → ∃ x : Bool, ((T3.toList == T4.toList) = x) ∧ (∀ W, (binOp .eql 28 (.agg X) (.agg Y)).run Tryd.prog W = .ok (.bool x) W) := fun e f => by
    have key := putS_apart s t hs ht (hG ▸ e) (hJ ▸ f)
    rw [← hL3, ← hL4] at key
    by_cases h : L3 = L4
    · refine ⟨true, ?_, fun W => eqSigned s t hs.h.d ht.h.d hs.g ht.g X Y HX HY true ⟨fun _ => key.1 h, fun _ => rfl⟩ W⟩
      rw [HT3.out, HT4.out]; exact eq_texts L3 L4 true ⟨fun _ => h, fun _ => rfl⟩
    · refine ⟨false, ?_, fun W => eqSigned s t hs.h.d ht.h.d hs.g ht.g X Y HX HY false ⟨fun q => by (cases q), fun q => absurd (key.2 q) h⟩ W⟩
      rw [HT3.out, HT4.out]; exact eq_texts L3 L4 false ⟨fun q => by (cases q), fun q => absurd q h⟩
  clear hT HA HB HX HY ha hb hs ht hE hF hG hJ hL1 hL2 hL3 hL4 hn1 hn2 hn3 hn4 HT1 HT2 HT3 HT4
  go_enter Tryd.func7, Tryd.ntmps7
  go_wp2_with (first
    | (show wpList _ _ _ ({ dst := some 18, op := _, type := _, pos := _, after := _, guard := _ } :: _) _ _; refine wpList_load_row rfl 26 (.tmp 4) rfl w.heap.size rfl 26 A (0, 0) _ HK.out.a Tryd.underlying26 rfl HSA.out ?_; try simp only [Act.put, List.setIfInBounds_toArray, List.set_cons_zero, List.set_cons_succ])
    | fail)
  refine (P1.out _).mono ?_
  rintro e w1 ⟨⟨a1, c1, rfl, hR1⟩, hb1⟩
  have HQ1 := hidk hR1
  have HB1 := hidk (HK.out.keep hb1)
  clear hb1 hR1 HK P1
  go_wp2_with (first
    | (show wpList _ _ _ ({ dst := some 23, op := _, type := _, pos := _, after := _, guard := _ } :: _) _ _; refine wpList_load_row rfl 26 (.tmp 5) rfl (w.heap.size + 1) rfl 26 B (0, 0) _ HB1.out.b Tryd.underlying26 rfl HSB.out ?_; try simp only [Act.put, List.setIfInBounds_toArray, List.set_cons_zero, List.set_cons_succ])
    | fail)
  refine (P2.out _).mono ?_
  rintro e w2 ⟨⟨a2, c2, rfl, hR2⟩, hb2⟩
  have HQ2 := hidk (And.intro (HQ1.out.below hb2) hR2)
  have HB2 := hidk (HB1.out.keep hb2)
  clear hb2 hR2 HB1 HQ1 P2
  go_wp2_with (first
    | (show wpList _ _ _ ({ dst := some 28, op := _, type := _, pos := _, after := _, guard := _ } :: _) _ _; refine wpList_load_row rfl 28 (.tmp 6) rfl (w.heap.size + 2) rfl 28 X (0, 0) _ HB2.out.x Tryd.underlying28 rfl HSX.out ?_; try simp only [Act.put, List.setIfInBounds_toArray, List.set_cons_zero, List.set_cons_succ])
    | fail)
  refine (P3.out _).mono ?_
  rintro e w3 ⟨⟨a3, c3, rfl, hR3⟩, hb3⟩
  have HQ3 := hidk (And.intro (HQ2.out.1.below hb3) (And.intro (HQ2.out.2.below hb3) hR3))
  have HB3 := hidk (HB2.out.keep hb3)
  clear hb3 hR3 HB2 HQ2 P3
  go_wp2_with (first
    | (show wpList _ _ _ ({ dst := some 33, op := _, type := _, pos := _, after := _, guard := _ } :: _) _ _; refine wpList_load_row rfl 28 (.tmp 7) rfl (w.heap.size + 3) rfl 28 Y (0, 0) _ HB3.out.y Tryd.underlying28 rfl HSY.out ?_; try simp only [Act.put, List.setIfInBounds_toArray, List.set_cons_zero, List.set_cons_succ])
    | fail)
  refine (P4.out _).mono ?_
  rintro e w4 ⟨⟨a4, c4, rfl, hR4⟩, hb4⟩
  have HL4 : Hid (Laid4 w A B X Y a1 a2 a3 a4 n1 n2 n3 n4 c1 c2 c3 c4 L1 L2 L3 L4 w4) := ⟨HB3.out.keep hb4, HQ3.out.1.below hb4, HQ3.out.2.1.below hb4, HQ3.out.2.2.below hb4, hR4⟩
  clear hb4 hR4 HB3 HQ3 P4
  go_wp2_with fail
  rcases hE0 with rfl | rfl
  · rcases hF0 with rfl | rfl
    · obtain ⟨x12, q12⟩ := Q12 rfl rfl
      clear Q12
      refine wp_region_held_drew (S := (Laid4 w A B X Y a1 a2 a3 a4 n1 n2 n3 n4 c1 c2 c3 c4 L1 L2 L3 L4)) (by kernel_rfl) (HL4.out.keep (Below.refl _ _).drew) (fun hHeld => ?_)
      refine wpAnyH_take (i := 0) (oi := { dst := some 37, op := Op.move (Operand.tmp 10), type := 29, pos := "law.go:113", after := #[], guard := none }) (v := .int .i64 0) rfl (by kernel_rfl) (by kernel_rfl) (by kernel_rfl) (fun _ _ _ h => h) (Or.inl ⟨by rfl, by intro W hSw; go_simp⟩) hHeld ?_
      try simp only [Act.put, List.setIfInBounds_toArray, List.set_cons_zero, List.set_cons_succ]
      refine wpAnyH_take (i := 1) (oi := { dst := some 38, op := Op.binOp BinOp.eql 29 (Operand.tmp 37) (Operand.const (Value.int IntKind.i64 0)) 29, type := 4, pos := "law.go:113", after := #[{ on := 0, ground := Ground.data }], guard := none }) (v := .bool true) rfl (by kernel_rfl) (by kernel_rfl) (by kernel_rfl) (fun _ _ _ h => h) (Or.inl ⟨by rfl, by intro W hSw; go_simp⟩) hHeld ?_
      try simp only [Act.put, List.setIfInBounds_toArray, List.set_cons_zero, List.set_cons_succ]
      refine wpAnyH_take (i := 2) (oi := { dst := some 39, op := Op.move (Operand.tmp 38), type := 4, pos := "law.go:113", after := #[{ on := 1, ground := Ground.data }], guard := none }) (v := .bool true) rfl (by kernel_rfl) (by kernel_rfl) (by kernel_rfl) (fun _ _ _ h => h) (Or.inl ⟨by rfl, by intro W hSw; go_simp⟩) hHeld ?_
      try simp only [Act.put, List.setIfInBounds_toArray, List.set_cons_zero, List.set_cons_succ]
      refine wpAnyH_take (i := 3) (oi := { dst := some 40, op := Op.move (Operand.tmp 12), type := 29, pos := "law.go:113", after := #[{ on := 2, ground := Ground.guard }], guard := some (2, true) }) (v := .int .i64 0) rfl (by kernel_rfl) (by kernel_rfl) (by kernel_rfl) (fun _ _ _ h => h) (Or.inl ⟨by rfl, by intro W hSw; go_simp⟩) hHeld ?_
      try simp only [Act.put, List.setIfInBounds_toArray, List.set_cons_zero, List.set_cons_succ]
      refine wpAnyH_take (i := 4) (oi := { dst := some 41, op := Op.binOp BinOp.eql 29 (Operand.tmp 40) (Operand.const (Value.int IntKind.i64 0)) 29, type := 4, pos := "law.go:113", after := #[{ on := 3, ground := Ground.data }, { on := 2, ground := Ground.guard }], guard := some (2, true) }) (v := .bool true) rfl (by kernel_rfl) (by kernel_rfl) (by kernel_rfl) (fun _ _ _ h => h) (Or.inl ⟨by rfl, by intro W hSw; go_simp⟩) hHeld ?_
      try simp only [Act.put, List.setIfInBounds_toArray, List.set_cons_zero, List.set_cons_succ]
      refine wpAnyH_take (i := 5) (oi := { dst := some 42, op := Op.pick (Operand.tmp 39) (Operand.tmp 41) (Operand.const (Value.bool false)), type := 4, pos := "law.go:113", after := #[{ on := 2, ground := Ground.data }, { on := 4, ground := Ground.data }], guard := none }) (v := .bool true) rfl (by kernel_rfl) (by kernel_rfl) (by kernel_rfl) (fun _ _ _ h => h) (Or.inl ⟨by rfl, by intro W hSw; go_simp⟩) hHeld ?_
      try simp only [Act.put, List.setIfInBounds_toArray, List.set_cons_zero, List.set_cons_succ]
      refine wpAnyH_take (i := 6) (oi := { dst := some 43, op := Op.move (Operand.tmp 42), type := 4, pos := "law.go:113", after := #[{ on := 5, ground := Ground.data }, { on := 2, ground := Ground.chain }], guard := none }) (v := .bool true) rfl (by kernel_rfl) (by kernel_rfl) (by kernel_rfl) (fun _ _ _ h => h) (Or.inl ⟨by rfl, by intro W hSw; go_simp⟩) hHeld ?_
      try simp only [Act.put, List.setIfInBounds_toArray, List.set_cons_zero, List.set_cons_succ]
      refine wpAnyH_take (i := 7) (oi := { dst := some 44, op := Op.move (Operand.tmp 9), type := 35, pos := "law.go:113", after := #[{ on := 6, ground := Ground.guard }], guard := some (6, true) }) (v := .slice a1 n1 c1) rfl (by kernel_rfl) (by kernel_rfl) (by kernel_rfl) (fun _ _ _ h => h) (Or.inl ⟨by rfl, by intro W hSw; go_simp⟩) hHeld ?_
      try simp only [Act.put, List.setIfInBounds_toArray, List.set_cons_zero, List.set_cons_succ]
      refine wpAnyH_take (i := 8) (oi := { dst := some 45, op := Op.convert 35 9 (Operand.tmp 44), type := 9, pos := "law.go:113", after := #[{ on := 7, ground := Ground.data }, { on := 6, ground := Ground.guard }], guard := some (6, true) }) (v := .string T1) rfl (by kernel_rfl) (by kernel_rfl) (by kernel_rfl) (fun _ _ _ h => h) (Or.inl ⟨by rfl, by intro W hSw; have := CV1.out W a1 c1 hSw.r1; go_simp⟩) hHeld ?_
      try simp only [Act.put, List.setIfInBounds_toArray, List.set_cons_zero, List.set_cons_succ]
      refine wpAnyH_take (i := 9) (oi := { dst := some 46, op := Op.move (Operand.tmp 11), type := 35, pos := "law.go:113", after := #[{ on := 6, ground := Ground.guard }], guard := some (6, true) }) (v := .slice a2 n2 c2) rfl (by kernel_rfl) (by kernel_rfl) (by kernel_rfl) (fun _ _ _ h => h) (Or.inl ⟨by rfl, by intro W hSw; go_simp⟩) hHeld ?_
      try simp only [Act.put, List.setIfInBounds_toArray, List.set_cons_zero, List.set_cons_succ]
      refine wpAnyH_take (i := 10) (oi := { dst := some 47, op := Op.convert 35 9 (Operand.tmp 46), type := 9, pos := "law.go:113", after := #[{ on := 9, ground := Ground.data }, { on := 6, ground := Ground.guard }], guard := some (6, true) }) (v := .string T2) rfl (by kernel_rfl) (by kernel_rfl) (by kernel_rfl) (fun _ _ _ h => h) (Or.inl ⟨by rfl, by intro W hSw; have := CV2.out W a2 c2 hSw.r2; go_simp⟩) hHeld ?_
      try simp only [Act.put, List.setIfInBounds_toArray, List.set_cons_zero, List.set_cons_succ]
      refine wpAnyH_take (i := 11) (oi := { dst := some 48, op := Op.binOp BinOp.eql 9 (Operand.tmp 45) (Operand.tmp 47) 9, type := 4, pos := "law.go:113", after := #[{ on := 8, ground := Ground.data }, { on := 10, ground := Ground.data }, { on := 6, ground := Ground.guard }], guard := some (6, true) }) (v := .bool x12) rfl (by kernel_rfl) (by kernel_rfl) (by kernel_rfl) (fun _ _ _ h => h) (Or.inl ⟨by rfl, by intro W hSw; have := q12.1; go_simp⟩) hHeld ?_
      try simp only [Act.put, List.setIfInBounds_toArray, List.set_cons_zero, List.set_cons_succ]
      refine wpAnyH_take (i := 12) (oi := { dst := some 49, op := Op.load 26 (Operand.tmp 4), type := 26, pos := "law.go:113", after := #[{ on := 6, ground := Ground.guard }], guard := some (6, true) }) (v := .agg A) rfl (by kernel_rfl) (by kernel_rfl) (by kernel_rfl) (fun _ _ _ h => h) (yieldsIf_row (by rfl) 26 (.tmp 4) rfl w.heap.size rfl 26 A (0, 0) _ (fun _ h => h.came.a) Tryd.underlying26 rfl HSA.out) hHeld ?_
      try simp only [Act.put, List.setIfInBounds_toArray, List.set_cons_zero, List.set_cons_succ]
      refine wpAnyH_take (i := 13) (oi := { dst := some 50, op := Op.load 26 (Operand.tmp 5), type := 26, pos := "law.go:113", after := #[{ on := 6, ground := Ground.guard }], guard := some (6, true) }) (v := .agg B) rfl (by kernel_rfl) (by kernel_rfl) (by kernel_rfl) (fun _ _ _ h => h) (yieldsIf_row (by rfl) 26 (.tmp 5) rfl (w.heap.size + 1) rfl 26 B (0, 0) _ (fun _ h => h.came.b) Tryd.underlying26 rfl HSB.out) hHeld ?_
      try simp only [Act.put, List.setIfInBounds_toArray, List.set_cons_zero, List.set_cons_succ]
      refine wpAnyH_take (i := 14) (oi := { dst := some 51, op := Op.binOp BinOp.eql 26 (Operand.tmp 49) (Operand.tmp 50) 26, type := 4, pos := "law.go:113", after := #[{ on := 12, ground := Ground.data }, { on := 13, ground := Ground.data }, { on := 6, ground := Ground.guard }], guard := some (6, true) }) (v := .bool x12) rfl (by kernel_rfl) (by kernel_rfl) (by kernel_rfl) (fun _ _ _ h => h) (Or.inl ⟨by rfl, by intro W hSw; have := q12.2 W; go_simp⟩) hHeld ?_
      try simp only [Act.put, List.setIfInBounds_toArray, List.set_cons_zero, List.set_cons_succ]
      refine wpAnyH_take (i := 15) (oi := { dst := some 52, op := Op.binOp BinOp.neq 4 (Operand.tmp 48) (Operand.tmp 51) 4, type := 4, pos := "law.go:113", after := #[{ on := 11, ground := Ground.data }, { on := 14, ground := Ground.data }, { on := 6, ground := Ground.guard }], guard := some (6, true) }) (v := .bool false) rfl (by kernel_rfl) (by kernel_rfl) (by kernel_rfl) (fun _ _ _ h => h) (Or.inl ⟨by rfl, by intro W hSw; go_simp⟩) hHeld ?_
      try simp only [Act.put, List.setIfInBounds_toArray, List.set_cons_zero, List.set_cons_succ]
      refine wpAnyH_take (i := 16) (oi := { dst := some 53, op := Op.pick (Operand.tmp 43) (Operand.tmp 52) (Operand.const (Value.bool false)), type := 4, pos := "law.go:113", after := #[{ on := 6, ground := Ground.data }, { on := 15, ground := Ground.data }], guard := none }) (v := .bool false) rfl (by kernel_rfl) (by kernel_rfl) (by kernel_rfl) (fun _ _ _ h => h) (Or.inl ⟨by rfl, by intro W hSw; go_simp⟩) hHeld ?_
      try simp only [Act.put, List.setIfInBounds_toArray, List.set_cons_zero, List.set_cons_succ]
      refine wpAnyH_done (by kernel_rfl) ?_ _
      skip
      go_wp2_with fail
      have HL5 : Hid (Laid4 w A B X Y a1 a2 a3 a4 n1 n2 n3 n4 c1 c2 c3 c4 L1 L2 L3 L4 w4.drew) := HL4.out.keep (Below.refl _ _).drew
      rcases hG0 with rfl | rfl
      · rcases hJ0 with rfl | rfl
        · obtain ⟨x34, q34⟩ := Q34 rfl rfl
          clear Q34
          refine wp_region_held_drew (S := (Laid4 w A B X Y a1 a2 a3 a4 n1 n2 n3 n4 c1 c2 c3 c4 L1 L2 L3 L4)) (by kernel_rfl) (HL5.out.keep (Below.refl _ _).drew) (fun hHeld => ?_)
          refine wpAnyH_ready (rs := [0]) (by kernel_rfl) (by simp) ?_
          refine (AllReadyH.cons (o := { dst := some 54, op := Op.call { callee := Callee.value (Operand.func 15), args := #[], argTypes := #[] }, type := 4, pos := "law.go:116", after := #[], guard := none }) rfl (fun K hK => ?_) AllReadyH.nil)
          go_simp
          refine (LY.out _).mono ?_
          rintro e wc0 ⟨rfl, hb0⟩
          go_wp2_with fail
          refine hK.out _ _ (hHeld.keep hb0) (fun hHeld => ?_)
          clear hK K
          try simp only [Act.put, List.setIfInBounds_toArray, List.set_cons_zero, List.set_cons_succ]
          refine wpAnyH_take (i := 1) (oi := { dst := some 55, op := Op.move (Operand.tmp 54), type := 4, pos := "law.go:116", after := #[{ on := 0, ground := Ground.data }, { on := 0, ground := Ground.chain }], guard := none }) (v := .bool true) rfl (by kernel_rfl) (by kernel_rfl) (by kernel_rfl) (fun _ _ _ h => h) (Or.inl ⟨by rfl, by intro W hSw; go_simp⟩) hHeld ?_
          try simp only [Act.put, List.setIfInBounds_toArray, List.set_cons_zero, List.set_cons_succ]
          refine wpAnyH_ready (rs := [2]) (by kernel_rfl) (by simp) ?_
          refine (AllReadyH.cons (o := { dst := some 56, op := Op.call { callee := Callee.value (Operand.func 10), args := #[], argTypes := #[] }, type := 4, pos := "law.go:116", after := #[{ on := 1, ground := Ground.chain }, { on := 1, ground := Ground.guard }], guard := some (1, true) }) rfl (fun K hK => ?_) AllReadyH.nil)
          go_simp
          refine (SI.out _ hHeld.came.below).mono ?_
          rintro e wc2 ⟨rfl, hb2⟩
          go_wp2_with fail
          refine hK.out _ _ (hHeld.keep hb2) (fun hHeld => ?_)
          clear hK K
          try simp only [Act.put, List.setIfInBounds_toArray, List.set_cons_zero, List.set_cons_succ]
          refine wpAnyH_take (i := 3) (oi := { dst := some 57, op := Op.pick (Operand.tmp 55) (Operand.tmp 56) (Operand.const (Value.bool false)), type := 4, pos := "law.go:116", after := #[{ on := 1, ground := Ground.data }, { on := 2, ground := Ground.data }], guard := none }) (v := .bool true) rfl (by kernel_rfl) (by kernel_rfl) (by kernel_rfl) (fun _ _ _ h => h) (Or.inl ⟨by rfl, by intro W hSw; go_simp⟩) hHeld ?_
          try simp only [Act.put, List.setIfInBounds_toArray, List.set_cons_zero, List.set_cons_succ]
          refine wpAnyH_take (i := 4) (oi := { dst := some 58, op := Op.move (Operand.tmp 57), type := 4, pos := "law.go:116", after := #[{ on := 3, ground := Ground.data }, { on := 2, ground := Ground.chain }], guard := none }) (v := .bool true) rfl (by kernel_rfl) (by kernel_rfl) (by kernel_rfl) (fun _ _ _ h => h) (Or.inl ⟨by rfl, by intro W hSw; go_simp⟩) hHeld ?_
          try simp only [Act.put, List.setIfInBounds_toArray, List.set_cons_zero, List.set_cons_succ]
          refine wpAnyH_take (i := 5) (oi := { dst := some 59, op := Op.move (Operand.tmp 14), type := 29, pos := "law.go:116", after := #[{ on := 4, ground := Ground.guard }], guard := some (4, true) }) (v := .int .i64 0) rfl (by kernel_rfl) (by kernel_rfl) (by kernel_rfl) (fun _ _ _ h => h) (Or.inl ⟨by rfl, by intro W hSw; go_simp⟩) hHeld ?_
          try simp only [Act.put, List.setIfInBounds_toArray, List.set_cons_zero, List.set_cons_succ]
          refine wpAnyH_take (i := 6) (oi := { dst := some 60, op := Op.binOp BinOp.neq 29 (Operand.tmp 59) (Operand.const (Value.int IntKind.i64 0)) 29, type := 4, pos := "law.go:116", after := #[{ on := 5, ground := Ground.data }, { on := 4, ground := Ground.guard }], guard := some (4, true) }) (v := .bool false) rfl (by kernel_rfl) (by kernel_rfl) (by kernel_rfl) (fun _ _ _ h => h) (Or.inl ⟨by rfl, by intro W hSw; go_simp⟩) hHeld ?_
          try simp only [Act.put, List.setIfInBounds_toArray, List.set_cons_zero, List.set_cons_succ]
          refine wpAnyH_take (i := 7) (oi := { dst := some 61, op := Op.move (Operand.tmp 60), type := 4, pos := "law.go:116", after := #[{ on := 6, ground := Ground.data }, { on := 4, ground := Ground.chain }, { on := 4, ground := Ground.guard }], guard := some (4, true) }) (v := .bool false) rfl (by kernel_rfl) (by kernel_rfl) (by kernel_rfl) (fun _ _ _ h => h) (Or.inl ⟨by rfl, by intro W hSw; go_simp⟩) hHeld ?_
          try simp only [Act.put, List.setIfInBounds_toArray, List.set_cons_zero, List.set_cons_succ]
          refine wpAnyH_take (i := 8) (oi := { dst := some 62, op := Op.move (Operand.tmp 16), type := 29, pos := "law.go:116", after := #[{ on := 7, ground := Ground.guard }], guard := some (7, false) }) (v := .int .i64 0) rfl (by kernel_rfl) (by kernel_rfl) (by kernel_rfl) (fun _ _ _ h => h) (Or.inl ⟨by rfl, by intro W hSw; go_simp⟩) hHeld ?_
          try simp only [Act.put, List.setIfInBounds_toArray, List.set_cons_zero, List.set_cons_succ]
          refine wpAnyH_take (i := 9) (oi := { dst := some 63, op := Op.binOp BinOp.neq 29 (Operand.tmp 62) (Operand.const (Value.int IntKind.i64 0)) 29, type := 4, pos := "law.go:116", after := #[{ on := 8, ground := Ground.data }, { on := 7, ground := Ground.guard }], guard := some (7, false) }) (v := .bool false) rfl (by kernel_rfl) (by kernel_rfl) (by kernel_rfl) (fun _ _ _ h => h) (Or.inl ⟨by rfl, by intro W hSw; go_simp⟩) hHeld ?_
          try simp only [Act.put, List.setIfInBounds_toArray, List.set_cons_zero, List.set_cons_succ]
          refine wpAnyH_take (i := 10) (oi := { dst := some 64, op := Op.pick (Operand.tmp 61) (Operand.const (Value.bool true)) (Operand.tmp 63), type := 4, pos := "law.go:116", after := #[{ on := 7, ground := Ground.data }, { on := 9, ground := Ground.data }, { on := 4, ground := Ground.guard }], guard := some (4, true) }) (v := .bool false) rfl (by kernel_rfl) (by kernel_rfl) (by kernel_rfl) (fun _ _ _ h => h) (Or.inl ⟨by rfl, by intro W hSw; go_simp⟩) hHeld ?_
          try simp only [Act.put, List.setIfInBounds_toArray, List.set_cons_zero, List.set_cons_succ]
          refine wpAnyH_take (i := 11) (oi := { dst := some 65, op := Op.move (Operand.tmp 64), type := 4, pos := "law.go:116", after := #[{ on := 10, ground := Ground.data }, { on := 7, ground := Ground.chain }, { on := 4, ground := Ground.guard }], guard := some (4, true) }) (v := .bool false) rfl (by kernel_rfl) (by kernel_rfl) (by kernel_rfl) (fun _ _ _ h => h) (Or.inl ⟨by rfl, by intro W hSw; go_simp⟩) hHeld ?_
          try simp only [Act.put, List.setIfInBounds_toArray, List.set_cons_zero, List.set_cons_succ]
          refine wpAnyH_take (i := 12) (oi := { dst := some 66, op := Op.move (Operand.tmp 13), type := 35, pos := "law.go:116", after := #[{ on := 11, ground := Ground.guard }], guard := some (11, false) }) (v := .slice a3 n3 c3) rfl (by kernel_rfl) (by kernel_rfl) (by kernel_rfl) (fun _ _ _ h => h) (Or.inl ⟨by rfl, by intro W hSw; go_simp⟩) hHeld ?_
          try simp only [Act.put, List.setIfInBounds_toArray, List.set_cons_zero, List.set_cons_succ]
          refine wpAnyH_take (i := 13) (oi := { dst := some 67, op := Op.convert 35 9 (Operand.tmp 66), type := 9, pos := "law.go:116", after := #[{ on := 12, ground := Ground.data }, { on := 11, ground := Ground.guard }], guard := some (11, false) }) (v := .string T3) rfl (by kernel_rfl) (by kernel_rfl) (by kernel_rfl) (fun _ _ _ h => h) (Or.inl ⟨by rfl, by intro W hSw; have := CV3.out W a3 c3 hSw.r3; go_simp⟩) hHeld ?_
          try simp only [Act.put, List.setIfInBounds_toArray, List.set_cons_zero, List.set_cons_succ]
          refine wpAnyH_take (i := 14) (oi := { dst := some 68, op := Op.move (Operand.tmp 15), type := 35, pos := "law.go:116", after := #[{ on := 11, ground := Ground.guard }], guard := some (11, false) }) (v := .slice a4 n4 c4) rfl (by kernel_rfl) (by kernel_rfl) (by kernel_rfl) (fun _ _ _ h => h) (Or.inl ⟨by rfl, by intro W hSw; go_simp⟩) hHeld ?_
          try simp only [Act.put, List.setIfInBounds_toArray, List.set_cons_zero, List.set_cons_succ]
          refine wpAnyH_take (i := 15) (oi := { dst := some 69, op := Op.convert 35 9 (Operand.tmp 68), type := 9, pos := "law.go:116", after := #[{ on := 14, ground := Ground.data }, { on := 11, ground := Ground.guard }], guard := some (11, false) }) (v := .string T4) rfl (by kernel_rfl) (by kernel_rfl) (by kernel_rfl) (fun _ _ _ h => h) (Or.inl ⟨by rfl, by intro W hSw; have := CV4.out W a4 c4 hSw.r4; go_simp⟩) hHeld ?_
          try simp only [Act.put, List.setIfInBounds_toArray, List.set_cons_zero, List.set_cons_succ]
          refine wpAnyH_take (i := 16) (oi := { dst := some 70, op := Op.binOp BinOp.eql 9 (Operand.tmp 67) (Operand.tmp 69) 9, type := 4, pos := "law.go:116", after := #[{ on := 13, ground := Ground.data }, { on := 15, ground := Ground.data }, { on := 11, ground := Ground.guard }], guard := some (11, false) }) (v := .bool x34) rfl (by kernel_rfl) (by kernel_rfl) (by kernel_rfl) (fun _ _ _ h => h) (Or.inl ⟨by rfl, by intro W hSw; have := q34.1; go_simp⟩) hHeld ?_
          try simp only [Act.put, List.setIfInBounds_toArray, List.set_cons_zero, List.set_cons_succ]
          refine wpAnyH_take (i := 17) (oi := { dst := some 71, op := Op.load 28 (Operand.tmp 6), type := 28, pos := "law.go:116", after := #[{ on := 11, ground := Ground.guard }], guard := some (11, false) }) (v := .agg X) rfl (by kernel_rfl) (by kernel_rfl) (by kernel_rfl) (fun _ _ _ h => h) (yieldsIf_row (by rfl) 28 (.tmp 6) rfl (w.heap.size + 2) rfl 28 X (0, 0) _ (fun _ h => h.came.x) Tryd.underlying28 rfl HSX.out) hHeld ?_
          try simp only [Act.put, List.setIfInBounds_toArray, List.set_cons_zero, List.set_cons_succ]
          refine wpAnyH_take (i := 18) (oi := { dst := some 72, op := Op.load 28 (Operand.tmp 7), type := 28, pos := "law.go:116", after := #[{ on := 11, ground := Ground.guard }], guard := some (11, false) }) (v := .agg Y) rfl (by kernel_rfl) (by kernel_rfl) (by kernel_rfl) (fun _ _ _ h => h) (yieldsIf_row (by rfl) 28 (.tmp 7) rfl (w.heap.size + 3) rfl 28 Y (0, 0) _ (fun _ h => h.came.y) Tryd.underlying28 rfl HSY.out) hHeld ?_
          try simp only [Act.put, List.setIfInBounds_toArray, List.set_cons_zero, List.set_cons_succ]
          refine wpAnyH_take (i := 19) (oi := { dst := some 73, op := Op.binOp BinOp.eql 28 (Operand.tmp 71) (Operand.tmp 72) 28, type := 4, pos := "law.go:116", after := #[{ on := 17, ground := Ground.data }, { on := 18, ground := Ground.data }, { on := 11, ground := Ground.guard }], guard := some (11, false) }) (v := .bool x34) rfl (by kernel_rfl) (by kernel_rfl) (by kernel_rfl) (fun _ _ _ h => h) (Or.inl ⟨by rfl, by intro W hSw; have := q34.2 W; go_simp⟩) hHeld ?_
          try simp only [Act.put, List.setIfInBounds_toArray, List.set_cons_zero, List.set_cons_succ]
          refine wpAnyH_take (i := 20) (oi := { dst := some 74, op := Op.binOp BinOp.eql 4 (Operand.tmp 70) (Operand.tmp 73) 4, type := 4, pos := "law.go:116", after := #[{ on := 16, ground := Ground.data }, { on := 19, ground := Ground.data }, { on := 11, ground := Ground.guard }], guard := some (11, false) }) (v := .bool true) rfl (by kernel_rfl) (by kernel_rfl) (by kernel_rfl) (fun _ _ _ h => h) (Or.inl ⟨by rfl, by intro W hSw; go_simp⟩) hHeld ?_
          try simp only [Act.put, List.setIfInBounds_toArray, List.set_cons_zero, List.set_cons_succ]
          refine wpAnyH_take (i := 21) (oi := { dst := some 75, op := Op.pick (Operand.tmp 65) (Operand.const (Value.bool true)) (Operand.tmp 74), type := 4, pos := "law.go:116", after := #[{ on := 11, ground := Ground.data }, { on := 20, ground := Ground.data }, { on := 4, ground := Ground.guard }], guard := some (4, true) }) (v := .bool true) rfl (by kernel_rfl) (by kernel_rfl) (by kernel_rfl) (fun _ _ _ h => h) (Or.inl ⟨by rfl, by intro W hSw; go_simp⟩) hHeld ?_
          try simp only [Act.put, List.setIfInBounds_toArray, List.set_cons_zero, List.set_cons_succ]
          refine wpAnyH_take (i := 22) (oi := { dst := some 76, op := Op.pick (Operand.tmp 58) (Operand.tmp 75) (Operand.const (Value.bool false)), type := 4, pos := "law.go:116", after := #[{ on := 4, ground := Ground.data }, { on := 21, ground := Ground.data }], guard := none }) (v := .bool true) rfl (by kernel_rfl) (by kernel_rfl) (by kernel_rfl) (fun _ _ _ h => h) (Or.inl ⟨by rfl, by intro W hSw; go_simp⟩) hHeld ?_
          try simp only [Act.put, List.setIfInBounds_toArray, List.set_cons_zero, List.set_cons_succ]
          refine wpAnyH_take (i := 23) (oi := { dst := some 8, op := Op.assign (Operand.tmp 76), type := 4, pos := "law.go:116", after := #[{ on := 22, ground := Ground.data }, { on := 11, ground := Ground.chain }, { on := 0, ground := Ground.phase }, { on := 1, ground := Ground.phase }, { on := 2, ground := Ground.phase }, { on := 3, ground := Ground.phase }, { on := 4, ground := Ground.phase }, { on := 5, ground := Ground.phase }, { on := 6, ground := Ground.phase }, { on := 7, ground := Ground.phase }, { on := 8, ground := Ground.phase }, { on := 9, ground := Ground.phase }, { on := 10, ground := Ground.phase }, { on := 11, ground := Ground.phase }, { on := 12, ground := Ground.phase }, { on := 13, ground := Ground.phase }, { on := 14, ground := Ground.phase }, { on := 15, ground := Ground.phase }, { on := 16, ground := Ground.phase }, { on := 17, ground := Ground.phase }, { on := 18, ground := Ground.phase }, { on := 19, ground := Ground.phase }, { on := 20, ground := Ground.phase }, { on := 21, ground := Ground.phase }, { on := 22, ground := Ground.phase }], guard := none }) (v := .bool true) rfl (by kernel_rfl) (by kernel_rfl) (by kernel_rfl) (fun _ _ _ h => h) (Or.inl ⟨by rfl, by intro W hSw; go_simp⟩) hHeld ?_
          try simp only [Act.put, List.setIfInBounds_toArray, List.set_cons_zero, List.set_cons_succ]
          refine wpAnyH_done (by kernel_rfl) ?_ _
          go_wp2_with fail
          go_ret
          exact ⟨rfl, hHeld.came.below⟩
        · clear Q34
          refine wp_region_held_drew (S := (Laid4 w A B X Y a1 a2 a3 a4 n1 n2 n3 n4 c1 c2 c3 c4 L1 L2 L3 L4)) (by kernel_rfl) (HL5.out.keep (Below.refl _ _).drew) (fun hHeld => ?_)
          refine wpAnyH_ready (rs := [0]) (by kernel_rfl) (by simp) ?_
          refine (AllReadyH.cons (o := { dst := some 54, op := Op.call { callee := Callee.value (Operand.func 15), args := #[], argTypes := #[] }, type := 4, pos := "law.go:116", after := #[], guard := none }) rfl (fun K hK => ?_) AllReadyH.nil)
          go_simp
          refine (LY.out _).mono ?_
          rintro e wc0 ⟨rfl, hb0⟩
          go_wp2_with fail
          refine hK.out _ _ (hHeld.keep hb0) (fun hHeld => ?_)
          clear hK K
          try simp only [Act.put, List.setIfInBounds_toArray, List.set_cons_zero, List.set_cons_succ]
          refine wpAnyH_take (i := 1) (oi := { dst := some 55, op := Op.move (Operand.tmp 54), type := 4, pos := "law.go:116", after := #[{ on := 0, ground := Ground.data }, { on := 0, ground := Ground.chain }], guard := none }) (v := .bool true) rfl (by kernel_rfl) (by kernel_rfl) (by kernel_rfl) (fun _ _ _ h => h) (Or.inl ⟨by rfl, by intro W hSw; go_simp⟩) hHeld ?_
          try simp only [Act.put, List.setIfInBounds_toArray, List.set_cons_zero, List.set_cons_succ]
          refine wpAnyH_ready (rs := [2]) (by kernel_rfl) (by simp) ?_
          refine (AllReadyH.cons (o := { dst := some 56, op := Op.call { callee := Callee.value (Operand.func 10), args := #[], argTypes := #[] }, type := 4, pos := "law.go:116", after := #[{ on := 1, ground := Ground.chain }, { on := 1, ground := Ground.guard }], guard := some (1, true) }) rfl (fun K hK => ?_) AllReadyH.nil)
          go_simp
          refine (SI.out _ hHeld.came.below).mono ?_
          rintro e wc2 ⟨rfl, hb2⟩
          go_wp2_with fail
          refine hK.out _ _ (hHeld.keep hb2) (fun hHeld => ?_)
          clear hK K
          try simp only [Act.put, List.setIfInBounds_toArray, List.set_cons_zero, List.set_cons_succ]
          refine wpAnyH_take (i := 3) (oi := { dst := some 57, op := Op.pick (Operand.tmp 55) (Operand.tmp 56) (Operand.const (Value.bool false)), type := 4, pos := "law.go:116", after := #[{ on := 1, ground := Ground.data }, { on := 2, ground := Ground.data }], guard := none }) (v := .bool true) rfl (by kernel_rfl) (by kernel_rfl) (by kernel_rfl) (fun _ _ _ h => h) (Or.inl ⟨by rfl, by intro W hSw; go_simp⟩) hHeld ?_
          try simp only [Act.put, List.setIfInBounds_toArray, List.set_cons_zero, List.set_cons_succ]
          refine wpAnyH_take (i := 4) (oi := { dst := some 58, op := Op.move (Operand.tmp 57), type := 4, pos := "law.go:116", after := #[{ on := 3, ground := Ground.data }, { on := 2, ground := Ground.chain }], guard := none }) (v := .bool true) rfl (by kernel_rfl) (by kernel_rfl) (by kernel_rfl) (fun _ _ _ h => h) (Or.inl ⟨by rfl, by intro W hSw; go_simp⟩) hHeld ?_
          try simp only [Act.put, List.setIfInBounds_toArray, List.set_cons_zero, List.set_cons_succ]
          refine wpAnyH_take (i := 5) (oi := { dst := some 59, op := Op.move (Operand.tmp 14), type := 29, pos := "law.go:116", after := #[{ on := 4, ground := Ground.guard }], guard := some (4, true) }) (v := .int .i64 0) rfl (by kernel_rfl) (by kernel_rfl) (by kernel_rfl) (fun _ _ _ h => h) (Or.inl ⟨by rfl, by intro W hSw; go_simp⟩) hHeld ?_
          try simp only [Act.put, List.setIfInBounds_toArray, List.set_cons_zero, List.set_cons_succ]
          refine wpAnyH_take (i := 6) (oi := { dst := some 60, op := Op.binOp BinOp.neq 29 (Operand.tmp 59) (Operand.const (Value.int IntKind.i64 0)) 29, type := 4, pos := "law.go:116", after := #[{ on := 5, ground := Ground.data }, { on := 4, ground := Ground.guard }], guard := some (4, true) }) (v := .bool false) rfl (by kernel_rfl) (by kernel_rfl) (by kernel_rfl) (fun _ _ _ h => h) (Or.inl ⟨by rfl, by intro W hSw; go_simp⟩) hHeld ?_
          try simp only [Act.put, List.setIfInBounds_toArray, List.set_cons_zero, List.set_cons_succ]
          refine wpAnyH_take (i := 7) (oi := { dst := some 61, op := Op.move (Operand.tmp 60), type := 4, pos := "law.go:116", after := #[{ on := 6, ground := Ground.data }, { on := 4, ground := Ground.chain }, { on := 4, ground := Ground.guard }], guard := some (4, true) }) (v := .bool false) rfl (by kernel_rfl) (by kernel_rfl) (by kernel_rfl) (fun _ _ _ h => h) (Or.inl ⟨by rfl, by intro W hSw; go_simp⟩) hHeld ?_
          try simp only [Act.put, List.setIfInBounds_toArray, List.set_cons_zero, List.set_cons_succ]
          refine wpAnyH_take (i := 8) (oi := { dst := some 62, op := Op.move (Operand.tmp 16), type := 29, pos := "law.go:116", after := #[{ on := 7, ground := Ground.guard }], guard := some (7, false) }) (v := .int .i64 70) rfl (by kernel_rfl) (by kernel_rfl) (by kernel_rfl) (fun _ _ _ h => h) (Or.inl ⟨by rfl, by intro W hSw; go_simp⟩) hHeld ?_
          try simp only [Act.put, List.setIfInBounds_toArray, List.set_cons_zero, List.set_cons_succ]
          refine wpAnyH_take (i := 9) (oi := { dst := some 63, op := Op.binOp BinOp.neq 29 (Operand.tmp 62) (Operand.const (Value.int IntKind.i64 0)) 29, type := 4, pos := "law.go:116", after := #[{ on := 8, ground := Ground.data }, { on := 7, ground := Ground.guard }], guard := some (7, false) }) (v := .bool true) rfl (by kernel_rfl) (by kernel_rfl) (by kernel_rfl) (fun _ _ _ h => h) (Or.inl ⟨by rfl, by intro W hSw; go_simp⟩) hHeld ?_
          try simp only [Act.put, List.setIfInBounds_toArray, List.set_cons_zero, List.set_cons_succ]
          refine wpAnyH_take (i := 10) (oi := { dst := some 64, op := Op.pick (Operand.tmp 61) (Operand.const (Value.bool true)) (Operand.tmp 63), type := 4, pos := "law.go:116", after := #[{ on := 7, ground := Ground.data }, { on := 9, ground := Ground.data }, { on := 4, ground := Ground.guard }], guard := some (4, true) }) (v := .bool true) rfl (by kernel_rfl) (by kernel_rfl) (by kernel_rfl) (fun _ _ _ h => h) (Or.inl ⟨by rfl, by intro W hSw; go_simp⟩) hHeld ?_
          try simp only [Act.put, List.setIfInBounds_toArray, List.set_cons_zero, List.set_cons_succ]
          refine wpAnyH_take (i := 11) (oi := { dst := some 65, op := Op.move (Operand.tmp 64), type := 4, pos := "law.go:116", after := #[{ on := 10, ground := Ground.data }, { on := 7, ground := Ground.chain }, { on := 4, ground := Ground.guard }], guard := some (4, true) }) (v := .bool true) rfl (by kernel_rfl) (by kernel_rfl) (by kernel_rfl) (fun _ _ _ h => h) (Or.inl ⟨by rfl, by intro W hSw; go_simp⟩) hHeld ?_
          try simp only [Act.put, List.setIfInBounds_toArray, List.set_cons_zero, List.set_cons_succ]
          refine wpAnyH_take (i := 12) (oi := { dst := some 66, op := Op.move (Operand.tmp 13), type := 35, pos := "law.go:116", after := #[{ on := 11, ground := Ground.guard }], guard := some (11, false) }) (v := undef) rfl (by kernel_rfl) (by kernel_rfl) (by kernel_rfl) (fun _ _ _ h => h) (Or.inr ⟨by rfl, rfl⟩) hHeld ?_
          try simp only [Act.put, List.setIfInBounds_toArray, List.set_cons_zero, List.set_cons_succ]
          refine wpAnyH_take (i := 13) (oi := { dst := some 67, op := Op.convert 35 9 (Operand.tmp 66), type := 9, pos := "law.go:116", after := #[{ on := 12, ground := Ground.data }, { on := 11, ground := Ground.guard }], guard := some (11, false) }) (v := undef) rfl (by kernel_rfl) (by kernel_rfl) (by kernel_rfl) (fun _ _ _ h => h) (Or.inr ⟨by rfl, rfl⟩) hHeld ?_
          try simp only [Act.put, List.setIfInBounds_toArray, List.set_cons_zero, List.set_cons_succ]
          refine wpAnyH_take (i := 14) (oi := { dst := some 68, op := Op.move (Operand.tmp 15), type := 35, pos := "law.go:116", after := #[{ on := 11, ground := Ground.guard }], guard := some (11, false) }) (v := undef) rfl (by kernel_rfl) (by kernel_rfl) (by kernel_rfl) (fun _ _ _ h => h) (Or.inr ⟨by rfl, rfl⟩) hHeld ?_
          try simp only [Act.put, List.setIfInBounds_toArray, List.set_cons_zero, List.set_cons_succ]
          refine wpAnyH_take (i := 15) (oi := { dst := some 69, op := Op.convert 35 9 (Operand.tmp 68), type := 9, pos := "law.go:116", after := #[{ on := 14, ground := Ground.data }, { on := 11, ground := Ground.guard }], guard := some (11, false) }) (v := undef) rfl (by kernel_rfl) (by kernel_rfl) (by kernel_rfl) (fun _ _ _ h => h) (Or.inr ⟨by rfl, rfl⟩) hHeld ?_
          try simp only [Act.put, List.setIfInBounds_toArray, List.set_cons_zero, List.set_cons_succ]
          refine wpAnyH_take (i := 16) (oi := { dst := some 70, op := Op.binOp BinOp.eql 9 (Operand.tmp 67) (Operand.tmp 69) 9, type := 4, pos := "law.go:116", after := #[{ on := 13, ground := Ground.data }, { on := 15, ground := Ground.data }, { on := 11, ground := Ground.guard }], guard := some (11, false) }) (v := undef) rfl (by kernel_rfl) (by kernel_rfl) (by kernel_rfl) (fun _ _ _ h => h) (Or.inr ⟨by rfl, rfl⟩) hHeld ?_
          try simp only [Act.put, List.setIfInBounds_toArray, List.set_cons_zero, List.set_cons_succ]
          refine wpAnyH_take (i := 17) (oi := { dst := some 71, op := Op.load 28 (Operand.tmp 6), type := 28, pos := "law.go:116", after := #[{ on := 11, ground := Ground.guard }], guard := some (11, false) }) (v := undef) rfl (by kernel_rfl) (by kernel_rfl) (by kernel_rfl) (fun _ _ _ h => h) (Or.inr ⟨by rfl, rfl⟩) hHeld ?_
          try simp only [Act.put, List.setIfInBounds_toArray, List.set_cons_zero, List.set_cons_succ]
          refine wpAnyH_take (i := 18) (oi := { dst := some 72, op := Op.load 28 (Operand.tmp 7), type := 28, pos := "law.go:116", after := #[{ on := 11, ground := Ground.guard }], guard := some (11, false) }) (v := undef) rfl (by kernel_rfl) (by kernel_rfl) (by kernel_rfl) (fun _ _ _ h => h) (Or.inr ⟨by rfl, rfl⟩) hHeld ?_
          try simp only [Act.put, List.setIfInBounds_toArray, List.set_cons_zero, List.set_cons_succ]
          refine wpAnyH_take (i := 19) (oi := { dst := some 73, op := Op.binOp BinOp.eql 28 (Operand.tmp 71) (Operand.tmp 72) 28, type := 4, pos := "law.go:116", after := #[{ on := 17, ground := Ground.data }, { on := 18, ground := Ground.data }, { on := 11, ground := Ground.guard }], guard := some (11, false) }) (v := undef) rfl (by kernel_rfl) (by kernel_rfl) (by kernel_rfl) (fun _ _ _ h => h) (Or.inr ⟨by rfl, rfl⟩) hHeld ?_
          try simp only [Act.put, List.setIfInBounds_toArray, List.set_cons_zero, List.set_cons_succ]
          refine wpAnyH_take (i := 20) (oi := { dst := some 74, op := Op.binOp BinOp.eql 4 (Operand.tmp 70) (Operand.tmp 73) 4, type := 4, pos := "law.go:116", after := #[{ on := 16, ground := Ground.data }, { on := 19, ground := Ground.data }, { on := 11, ground := Ground.guard }], guard := some (11, false) }) (v := undef) rfl (by kernel_rfl) (by kernel_rfl) (by kernel_rfl) (fun _ _ _ h => h) (Or.inr ⟨by rfl, rfl⟩) hHeld ?_
          try simp only [Act.put, List.setIfInBounds_toArray, List.set_cons_zero, List.set_cons_succ]
          refine wpAnyH_take (i := 21) (oi := { dst := some 75, op := Op.pick (Operand.tmp 65) (Operand.const (Value.bool true)) (Operand.tmp 74), type := 4, pos := "law.go:116", after := #[{ on := 11, ground := Ground.data }, { on := 20, ground := Ground.data }, { on := 4, ground := Ground.guard }], guard := some (4, true) }) (v := .bool true) rfl (by kernel_rfl) (by kernel_rfl) (by kernel_rfl) (fun _ _ _ h => h) (Or.inl ⟨by rfl, by intro W hSw; go_simp⟩) hHeld ?_
          try simp only [Act.put, List.setIfInBounds_toArray, List.set_cons_zero, List.set_cons_succ]
          refine wpAnyH_take (i := 22) (oi := { dst := some 76, op := Op.pick (Operand.tmp 58) (Operand.tmp 75) (Operand.const (Value.bool false)), type := 4, pos := "law.go:116", after := #[{ on := 4, ground := Ground.data }, { on := 21, ground := Ground.data }], guard := none }) (v := .bool true) rfl (by kernel_rfl) (by kernel_rfl) (by kernel_rfl) (fun _ _ _ h => h) (Or.inl ⟨by rfl, by intro W hSw; go_simp⟩) hHeld ?_
          try simp only [Act.put, List.setIfInBounds_toArray, List.set_cons_zero, List.set_cons_succ]
          refine wpAnyH_take (i := 23) (oi := { dst := some 8, op := Op.assign (Operand.tmp 76), type := 4, pos := "law.go:116", after := #[{ on := 22, ground := Ground.data }, { on := 11, ground := Ground.chain }, { on := 0, ground := Ground.phase }, { on := 1, ground := Ground.phase }, { on := 2, ground := Ground.phase }, { on := 3, ground := Ground.phase }, { on := 4, ground := Ground.phase }, { on := 5, ground := Ground.phase }, { on := 6, ground := Ground.phase }, { on := 7, ground := Ground.phase }, { on := 8, ground := Ground.phase }, { on := 9, ground := Ground.phase }, { on := 10, ground := Ground.phase }, { on := 11, ground := Ground.phase }, { on := 12, ground := Ground.phase }, { on := 13, ground := Ground.phase }, { on := 14, ground := Ground.phase }, { on := 15, ground := Ground.phase }, { on := 16, ground := Ground.phase }, { on := 17, ground := Ground.phase }, { on := 18, ground := Ground.phase }, { on := 19, ground := Ground.phase }, { on := 20, ground := Ground.phase }, { on := 21, ground := Ground.phase }, { on := 22, ground := Ground.phase }], guard := none }) (v := .bool true) rfl (by kernel_rfl) (by kernel_rfl) (by kernel_rfl) (fun _ _ _ h => h) (Or.inl ⟨by rfl, by intro W hSw; go_simp⟩) hHeld ?_
          try simp only [Act.put, List.setIfInBounds_toArray, List.set_cons_zero, List.set_cons_succ]
          refine wpAnyH_done (by kernel_rfl) ?_ _
          go_wp2_with fail
          go_ret
          exact ⟨rfl, hHeld.came.below⟩
      · clear Q34 hJ0
        refine wp_region_held_drew (S := (Laid4 w A B X Y a1 a2 a3 a4 n1 n2 n3 n4 c1 c2 c3 c4 L1 L2 L3 L4)) (by kernel_rfl) (HL5.out.keep (Below.refl _ _).drew) (fun hHeld => ?_)
        refine wpAnyH_ready (rs := [0]) (by kernel_rfl) (by simp) ?_
        refine (AllReadyH.cons (o := { dst := some 54, op := Op.call { callee := Callee.value (Operand.func 15), args := #[], argTypes := #[] }, type := 4, pos := "law.go:116", after := #[], guard := none }) rfl (fun K hK => ?_) AllReadyH.nil)
        go_simp
        refine (LY.out _).mono ?_
        rintro e wc0 ⟨rfl, hb0⟩
        go_wp2_with fail
        refine hK.out _ _ (hHeld.keep hb0) (fun hHeld => ?_)
        clear hK K
        try simp only [Act.put, List.setIfInBounds_toArray, List.set_cons_zero, List.set_cons_succ]
        refine wpAnyH_take (i := 1) (oi := { dst := some 55, op := Op.move (Operand.tmp 54), type := 4, pos := "law.go:116", after := #[{ on := 0, ground := Ground.data }, { on := 0, ground := Ground.chain }], guard := none }) (v := .bool true) rfl (by kernel_rfl) (by kernel_rfl) (by kernel_rfl) (fun _ _ _ h => h) (Or.inl ⟨by rfl, by intro W hSw; go_simp⟩) hHeld ?_
        try simp only [Act.put, List.setIfInBounds_toArray, List.set_cons_zero, List.set_cons_succ]
        refine wpAnyH_ready (rs := [2]) (by kernel_rfl) (by simp) ?_
        refine (AllReadyH.cons (o := { dst := some 56, op := Op.call { callee := Callee.value (Operand.func 10), args := #[], argTypes := #[] }, type := 4, pos := "law.go:116", after := #[{ on := 1, ground := Ground.chain }, { on := 1, ground := Ground.guard }], guard := some (1, true) }) rfl (fun K hK => ?_) AllReadyH.nil)
        go_simp
        refine (SI.out _ hHeld.came.below).mono ?_
        rintro e wc2 ⟨rfl, hb2⟩
        go_wp2_with fail
        refine hK.out _ _ (hHeld.keep hb2) (fun hHeld => ?_)
        clear hK K
        try simp only [Act.put, List.setIfInBounds_toArray, List.set_cons_zero, List.set_cons_succ]
        refine wpAnyH_take (i := 3) (oi := { dst := some 57, op := Op.pick (Operand.tmp 55) (Operand.tmp 56) (Operand.const (Value.bool false)), type := 4, pos := "law.go:116", after := #[{ on := 1, ground := Ground.data }, { on := 2, ground := Ground.data }], guard := none }) (v := .bool true) rfl (by kernel_rfl) (by kernel_rfl) (by kernel_rfl) (fun _ _ _ h => h) (Or.inl ⟨by rfl, by intro W hSw; go_simp⟩) hHeld ?_
        try simp only [Act.put, List.setIfInBounds_toArray, List.set_cons_zero, List.set_cons_succ]
        refine wpAnyH_take (i := 4) (oi := { dst := some 58, op := Op.move (Operand.tmp 57), type := 4, pos := "law.go:116", after := #[{ on := 3, ground := Ground.data }, { on := 2, ground := Ground.chain }], guard := none }) (v := .bool true) rfl (by kernel_rfl) (by kernel_rfl) (by kernel_rfl) (fun _ _ _ h => h) (Or.inl ⟨by rfl, by intro W hSw; go_simp⟩) hHeld ?_
        try simp only [Act.put, List.setIfInBounds_toArray, List.set_cons_zero, List.set_cons_succ]
        refine wpAnyH_take (i := 5) (oi := { dst := some 59, op := Op.move (Operand.tmp 14), type := 29, pos := "law.go:116", after := #[{ on := 4, ground := Ground.guard }], guard := some (4, true) }) (v := .int .i64 70) rfl (by kernel_rfl) (by kernel_rfl) (by kernel_rfl) (fun _ _ _ h => h) (Or.inl ⟨by rfl, by intro W hSw; go_simp⟩) hHeld ?_
        try simp only [Act.put, List.setIfInBounds_toArray, List.set_cons_zero, List.set_cons_succ]
        refine wpAnyH_take (i := 6) (oi := { dst := some 60, op := Op.binOp BinOp.neq 29 (Operand.tmp 59) (Operand.const (Value.int IntKind.i64 0)) 29, type := 4, pos := "law.go:116", after := #[{ on := 5, ground := Ground.data }, { on := 4, ground := Ground.guard }], guard := some (4, true) }) (v := .bool true) rfl (by kernel_rfl) (by kernel_rfl) (by kernel_rfl) (fun _ _ _ h => h) (Or.inl ⟨by rfl, by intro W hSw; go_simp⟩) hHeld ?_
        try simp only [Act.put, List.setIfInBounds_toArray, List.set_cons_zero, List.set_cons_succ]
        refine wpAnyH_take (i := 7) (oi := { dst := some 61, op := Op.move (Operand.tmp 60), type := 4, pos := "law.go:116", after := #[{ on := 6, ground := Ground.data }, { on := 4, ground := Ground.chain }, { on := 4, ground := Ground.guard }], guard := some (4, true) }) (v := .bool true) rfl (by kernel_rfl) (by kernel_rfl) (by kernel_rfl) (fun _ _ _ h => h) (Or.inl ⟨by rfl, by intro W hSw; go_simp⟩) hHeld ?_
        try simp only [Act.put, List.setIfInBounds_toArray, List.set_cons_zero, List.set_cons_succ]
        refine wpAnyH_take (i := 8) (oi := { dst := some 62, op := Op.move (Operand.tmp 16), type := 29, pos := "law.go:116", after := #[{ on := 7, ground := Ground.guard }], guard := some (7, false) }) (v := undef) rfl (by kernel_rfl) (by kernel_rfl) (by kernel_rfl) (fun _ _ _ h => h) (Or.inr ⟨by rfl, rfl⟩) hHeld ?_
        try simp only [Act.put, List.setIfInBounds_toArray, List.set_cons_zero, List.set_cons_succ]
        refine wpAnyH_take (i := 9) (oi := { dst := some 63, op := Op.binOp BinOp.neq 29 (Operand.tmp 62) (Operand.const (Value.int IntKind.i64 0)) 29, type := 4, pos := "law.go:116", after := #[{ on := 8, ground := Ground.data }, { on := 7, ground := Ground.guard }], guard := some (7, false) }) (v := undef) rfl (by kernel_rfl) (by kernel_rfl) (by kernel_rfl) (fun _ _ _ h => h) (Or.inr ⟨by rfl, rfl⟩) hHeld ?_
        try simp only [Act.put, List.setIfInBounds_toArray, List.set_cons_zero, List.set_cons_succ]
        refine wpAnyH_take (i := 10) (oi := { dst := some 64, op := Op.pick (Operand.tmp 61) (Operand.const (Value.bool true)) (Operand.tmp 63), type := 4, pos := "law.go:116", after := #[{ on := 7, ground := Ground.data }, { on := 9, ground := Ground.data }, { on := 4, ground := Ground.guard }], guard := some (4, true) }) (v := .bool true) rfl (by kernel_rfl) (by kernel_rfl) (by kernel_rfl) (fun _ _ _ h => h) (Or.inl ⟨by rfl, by intro W hSw; go_simp⟩) hHeld ?_
        try simp only [Act.put, List.setIfInBounds_toArray, List.set_cons_zero, List.set_cons_succ]
        refine wpAnyH_take (i := 11) (oi := { dst := some 65, op := Op.move (Operand.tmp 64), type := 4, pos := "law.go:116", after := #[{ on := 10, ground := Ground.data }, { on := 7, ground := Ground.chain }, { on := 4, ground := Ground.guard }], guard := some (4, true) }) (v := .bool true) rfl (by kernel_rfl) (by kernel_rfl) (by kernel_rfl) (fun _ _ _ h => h) (Or.inl ⟨by rfl, by intro W hSw; go_simp⟩) hHeld ?_
        try simp only [Act.put, List.setIfInBounds_toArray, List.set_cons_zero, List.set_cons_succ]
        refine wpAnyH_take (i := 12) (oi := { dst := some 66, op := Op.move (Operand.tmp 13), type := 35, pos := "law.go:116", after := #[{ on := 11, ground := Ground.guard }], guard := some (11, false) }) (v := undef) rfl (by kernel_rfl) (by kernel_rfl) (by kernel_rfl) (fun _ _ _ h => h) (Or.inr ⟨by rfl, rfl⟩) hHeld ?_
        try simp only [Act.put, List.setIfInBounds_toArray, List.set_cons_zero, List.set_cons_succ]
        refine wpAnyH_take (i := 13) (oi := { dst := some 67, op := Op.convert 35 9 (Operand.tmp 66), type := 9, pos := "law.go:116", after := #[{ on := 12, ground := Ground.data }, { on := 11, ground := Ground.guard }], guard := some (11, false) }) (v := undef) rfl (by kernel_rfl) (by kernel_rfl) (by kernel_rfl) (fun _ _ _ h => h) (Or.inr ⟨by rfl, rfl⟩) hHeld ?_
        try simp only [Act.put, List.setIfInBounds_toArray, List.set_cons_zero, List.set_cons_succ]
        refine wpAnyH_take (i := 14) (oi := { dst := some 68, op := Op.move (Operand.tmp 15), type := 35, pos := "law.go:116", after := #[{ on := 11, ground := Ground.guard }], guard := some (11, false) }) (v := undef) rfl (by kernel_rfl) (by kernel_rfl) (by kernel_rfl) (fun _ _ _ h => h) (Or.inr ⟨by rfl, rfl⟩) hHeld ?_
        try simp only [Act.put, List.setIfInBounds_toArray, List.set_cons_zero, List.set_cons_succ]
        refine wpAnyH_take (i := 15) (oi := { dst := some 69, op := Op.convert 35 9 (Operand.tmp 68), type := 9, pos := "law.go:116", after := #[{ on := 14, ground := Ground.data }, { on := 11, ground := Ground.guard }], guard := some (11, false) }) (v := undef) rfl (by kernel_rfl) (by kernel_rfl) (by kernel_rfl) (fun _ _ _ h => h) (Or.inr ⟨by rfl, rfl⟩) hHeld ?_
        try simp only [Act.put, List.setIfInBounds_toArray, List.set_cons_zero, List.set_cons_succ]
        refine wpAnyH_take (i := 16) (oi := { dst := some 70, op := Op.binOp BinOp.eql 9 (Operand.tmp 67) (Operand.tmp 69) 9, type := 4, pos := "law.go:116", after := #[{ on := 13, ground := Ground.data }, { on := 15, ground := Ground.data }, { on := 11, ground := Ground.guard }], guard := some (11, false) }) (v := undef) rfl (by kernel_rfl) (by kernel_rfl) (by kernel_rfl) (fun _ _ _ h => h) (Or.inr ⟨by rfl, rfl⟩) hHeld ?_
        try simp only [Act.put, List.setIfInBounds_toArray, List.set_cons_zero, List.set_cons_succ]
        refine wpAnyH_take (i := 17) (oi := { dst := some 71, op := Op.load 28 (Operand.tmp 6), type := 28, pos := "law.go:116", after := #[{ on := 11, ground := Ground.guard }], guard := some (11, false) }) (v := undef) rfl (by kernel_rfl) (by kernel_rfl) (by kernel_rfl) (fun _ _ _ h => h) (Or.inr ⟨by rfl, rfl⟩) hHeld ?_
        try simp only [Act.put, List.setIfInBounds_toArray, List.set_cons_zero, List.set_cons_succ]
        refine wpAnyH_take (i := 18) (oi := { dst := some 72, op := Op.load 28 (Operand.tmp 7), type := 28, pos := "law.go:116", after := #[{ on := 11, ground := Ground.guard }], guard := some (11, false) }) (v := undef) rfl (by kernel_rfl) (by kernel_rfl) (by kernel_rfl) (fun _ _ _ h => h) (Or.inr ⟨by rfl, rfl⟩) hHeld ?_
        try simp only [Act.put, List.setIfInBounds_toArray, List.set_cons_zero, List.set_cons_succ]
        refine wpAnyH_take (i := 19) (oi := { dst := some 73, op := Op.binOp BinOp.eql 28 (Operand.tmp 71) (Operand.tmp 72) 28, type := 4, pos := "law.go:116", after := #[{ on := 17, ground := Ground.data }, { on := 18, ground := Ground.data }, { on := 11, ground := Ground.guard }], guard := some (11, false) }) (v := undef) rfl (by kernel_rfl) (by kernel_rfl) (by kernel_rfl) (fun _ _ _ h => h) (Or.inr ⟨by rfl, rfl⟩) hHeld ?_
        try simp only [Act.put, List.setIfInBounds_toArray, List.set_cons_zero, List.set_cons_succ]
        refine wpAnyH_take (i := 20) (oi := { dst := some 74, op := Op.binOp BinOp.eql 4 (Operand.tmp 70) (Operand.tmp 73) 4, type := 4, pos := "law.go:116", after := #[{ on := 16, ground := Ground.data }, { on := 19, ground := Ground.data }, { on := 11, ground := Ground.guard }], guard := some (11, false) }) (v := undef) rfl (by kernel_rfl) (by kernel_rfl) (by kernel_rfl) (fun _ _ _ h => h) (Or.inr ⟨by rfl, rfl⟩) hHeld ?_
        try simp only [Act.put, List.setIfInBounds_toArray, List.set_cons_zero, List.set_cons_succ]
        refine wpAnyH_take (i := 21) (oi := { dst := some 75, op := Op.pick (Operand.tmp 65) (Operand.const (Value.bool true)) (Operand.tmp 74), type := 4, pos := "law.go:116", after := #[{ on := 11, ground := Ground.data }, { on := 20, ground := Ground.data }, { on := 4, ground := Ground.guard }], guard := some (4, true) }) (v := .bool true) rfl (by kernel_rfl) (by kernel_rfl) (by kernel_rfl) (fun _ _ _ h => h) (Or.inl ⟨by rfl, by intro W hSw; go_simp⟩) hHeld ?_
        try simp only [Act.put, List.setIfInBounds_toArray, List.set_cons_zero, List.set_cons_succ]
        refine wpAnyH_take (i := 22) (oi := { dst := some 76, op := Op.pick (Operand.tmp 58) (Operand.tmp 75) (Operand.const (Value.bool false)), type := 4, pos := "law.go:116", after := #[{ on := 4, ground := Ground.data }, { on := 21, ground := Ground.data }], guard := none }) (v := .bool true) rfl (by kernel_rfl) (by kernel_rfl) (by kernel_rfl) (fun _ _ _ h => h) (Or.inl ⟨by rfl, by intro W hSw; go_simp⟩) hHeld ?_
        try simp only [Act.put, List.setIfInBounds_toArray, List.set_cons_zero, List.set_cons_succ]
        refine wpAnyH_take (i := 23) (oi := { dst := some 8, op := Op.assign (Operand.tmp 76), type := 4, pos := "law.go:116", after := #[{ on := 22, ground := Ground.data }, { on := 11, ground := Ground.chain }, { on := 0, ground := Ground.phase }, { on := 1, ground := Ground.phase }, { on := 2, ground := Ground.phase }, { on := 3, ground := Ground.phase }, { on := 4, ground := Ground.phase }, { on := 5, ground := Ground.phase }, { on := 6, ground := Ground.phase }, { on := 7, ground := Ground.phase }, { on := 8, ground := Ground.phase }, { on := 9, ground := Ground.phase }, { on := 10, ground := Ground.phase }, { on := 11, ground := Ground.phase }, { on := 12, ground := Ground.phase }, { on := 13, ground := Ground.phase }, { on := 14, ground := Ground.phase }, { on := 15, ground := Ground.phase }, { on := 16, ground := Ground.phase }, { on := 17, ground := Ground.phase }, { on := 18, ground := Ground.phase }, { on := 19, ground := Ground.phase }, { on := 20, ground := Ground.phase }, { on := 21, ground := Ground.phase }, { on := 22, ground := Ground.phase }], guard := none }) (v := .bool true) rfl (by kernel_rfl) (by kernel_rfl) (by kernel_rfl) (fun _ _ _ h => h) (Or.inl ⟨by rfl, by intro W hSw; go_simp⟩) hHeld ?_
        try simp only [Act.put, List.setIfInBounds_toArray, List.set_cons_zero, List.set_cons_succ]
        refine wpAnyH_done (by kernel_rfl) ?_ _
        go_wp2_with fail
        go_ret
        exact ⟨rfl, hHeld.came.below⟩
    · clear Q12
      refine wp_region_held_drew (S := (Laid4 w A B X Y a1 a2 a3 a4 n1 n2 n3 n4 c1 c2 c3 c4 L1 L2 L3 L4)) (by kernel_rfl) (HL4.out.keep (Below.refl _ _).drew) (fun hHeld => ?_)
      refine wpAnyH_take (i := 0) (oi := { dst := some 37, op := Op.move (Operand.tmp 10), type := 29, pos := "law.go:113", after := #[], guard := none }) (v := .int .i64 0) rfl (by kernel_rfl) (by kernel_rfl) (by kernel_rfl) (fun _ _ _ h => h) (Or.inl ⟨by rfl, by intro W hSw; go_simp⟩) hHeld ?_
      try simp only [Act.put, List.setIfInBounds_toArray, List.set_cons_zero, List.set_cons_succ]
      refine wpAnyH_take (i := 1) (oi := { dst := some 38, op := Op.binOp BinOp.eql 29 (Operand.tmp 37) (Operand.const (Value.int IntKind.i64 0)) 29, type := 4, pos := "law.go:113", after := #[{ on := 0, ground := Ground.data }], guard := none }) (v := .bool true) rfl (by kernel_rfl) (by kernel_rfl) (by kernel_rfl) (fun _ _ _ h => h) (Or.inl ⟨by rfl, by intro W hSw; go_simp⟩) hHeld ?_
      try simp only [Act.put, List.setIfInBounds_toArray, List.set_cons_zero, List.set_cons_succ]
      refine wpAnyH_take (i := 2) (oi := { dst := some 39, op := Op.move (Operand.tmp 38), type := 4, pos := "law.go:113", after := #[{ on := 1, ground := Ground.data }], guard := none }) (v := .bool true) rfl (by kernel_rfl) (by kernel_rfl) (by kernel_rfl) (fun _ _ _ h => h) (Or.inl ⟨by rfl, by intro W hSw; go_simp⟩) hHeld ?_
      try simp only [Act.put, List.setIfInBounds_toArray, List.set_cons_zero, List.set_cons_succ]
      refine wpAnyH_take (i := 3) (oi := { dst := some 40, op := Op.move (Operand.tmp 12), type := 29, pos := "law.go:113", after := #[{ on := 2, ground := Ground.guard }], guard := some (2, true) }) (v := .int .i64 70) rfl (by kernel_rfl) (by kernel_rfl) (by kernel_rfl) (fun _ _ _ h => h) (Or.inl ⟨by rfl, by intro W hSw; go_simp⟩) hHeld ?_
      try simp only [Act.put, List.setIfInBounds_toArray, List.set_cons_zero, List.set_cons_succ]
      refine wpAnyH_take (i := 4) (oi := { dst := some 41, op := Op.binOp BinOp.eql 29 (Operand.tmp 40) (Operand.const (Value.int IntKind.i64 0)) 29, type := 4, pos := "law.go:113", after := #[{ on := 3, ground := Ground.data }, { on := 2, ground := Ground.guard }], guard := some (2, true) }) (v := .bool false) rfl (by kernel_rfl) (by kernel_rfl) (by kernel_rfl) (fun _ _ _ h => h) (Or.inl ⟨by rfl, by intro W hSw; go_simp⟩) hHeld ?_
      try simp only [Act.put, List.setIfInBounds_toArray, List.set_cons_zero, List.set_cons_succ]
      refine wpAnyH_take (i := 5) (oi := { dst := some 42, op := Op.pick (Operand.tmp 39) (Operand.tmp 41) (Operand.const (Value.bool false)), type := 4, pos := "law.go:113", after := #[{ on := 2, ground := Ground.data }, { on := 4, ground := Ground.data }], guard := none }) (v := .bool false) rfl (by kernel_rfl) (by kernel_rfl) (by kernel_rfl) (fun _ _ _ h => h) (Or.inl ⟨by rfl, by intro W hSw; go_simp⟩) hHeld ?_
      try simp only [Act.put, List.setIfInBounds_toArray, List.set_cons_zero, List.set_cons_succ]
      refine wpAnyH_take (i := 6) (oi := { dst := some 43, op := Op.move (Operand.tmp 42), type := 4, pos := "law.go:113", after := #[{ on := 5, ground := Ground.data }, { on := 2, ground := Ground.chain }], guard := none }) (v := .bool false) rfl (by kernel_rfl) (by kernel_rfl) (by kernel_rfl) (fun _ _ _ h => h) (Or.inl ⟨by rfl, by intro W hSw; go_simp⟩) hHeld ?_
      try simp only [Act.put, List.setIfInBounds_toArray, List.set_cons_zero, List.set_cons_succ]
      refine wpAnyH_take (i := 7) (oi := { dst := some 44, op := Op.move (Operand.tmp 9), type := 35, pos := "law.go:113", after := #[{ on := 6, ground := Ground.guard }], guard := some (6, true) }) (v := undef) rfl (by kernel_rfl) (by kernel_rfl) (by kernel_rfl) (fun _ _ _ h => h) (Or.inr ⟨by rfl, rfl⟩) hHeld ?_
      try simp only [Act.put, List.setIfInBounds_toArray, List.set_cons_zero, List.set_cons_succ]
      refine wpAnyH_take (i := 8) (oi := { dst := some 45, op := Op.convert 35 9 (Operand.tmp 44), type := 9, pos := "law.go:113", after := #[{ on := 7, ground := Ground.data }, { on := 6, ground := Ground.guard }], guard := some (6, true) }) (v := undef) rfl (by kernel_rfl) (by kernel_rfl) (by kernel_rfl) (fun _ _ _ h => h) (Or.inr ⟨by rfl, rfl⟩) hHeld ?_
      try simp only [Act.put, List.setIfInBounds_toArray, List.set_cons_zero, List.set_cons_succ]
      refine wpAnyH_take (i := 9) (oi := { dst := some 46, op := Op.move (Operand.tmp 11), type := 35, pos := "law.go:113", after := #[{ on := 6, ground := Ground.guard }], guard := some (6, true) }) (v := undef) rfl (by kernel_rfl) (by kernel_rfl) (by kernel_rfl) (fun _ _ _ h => h) (Or.inr ⟨by rfl, rfl⟩) hHeld ?_
      try simp only [Act.put, List.setIfInBounds_toArray, List.set_cons_zero, List.set_cons_succ]
      refine wpAnyH_take (i := 10) (oi := { dst := some 47, op := Op.convert 35 9 (Operand.tmp 46), type := 9, pos := "law.go:113", after := #[{ on := 9, ground := Ground.data }, { on := 6, ground := Ground.guard }], guard := some (6, true) }) (v := undef) rfl (by kernel_rfl) (by kernel_rfl) (by kernel_rfl) (fun _ _ _ h => h) (Or.inr ⟨by rfl, rfl⟩) hHeld ?_
      try simp only [Act.put, List.setIfInBounds_toArray, List.set_cons_zero, List.set_cons_succ]
      refine wpAnyH_take (i := 11) (oi := { dst := some 48, op := Op.binOp BinOp.eql 9 (Operand.tmp 45) (Operand.tmp 47) 9, type := 4, pos := "law.go:113", after := #[{ on := 8, ground := Ground.data }, { on := 10, ground := Ground.data }, { on := 6, ground := Ground.guard }], guard := some (6, true) }) (v := undef) rfl (by kernel_rfl) (by kernel_rfl) (by kernel_rfl) (fun _ _ _ h => h) (Or.inr ⟨by rfl, rfl⟩) hHeld ?_
      try simp only [Act.put, List.setIfInBounds_toArray, List.set_cons_zero, List.set_cons_succ]
      refine wpAnyH_take (i := 12) (oi := { dst := some 49, op := Op.load 26 (Operand.tmp 4), type := 26, pos := "law.go:113", after := #[{ on := 6, ground := Ground.guard }], guard := some (6, true) }) (v := undef) rfl (by kernel_rfl) (by kernel_rfl) (by kernel_rfl) (fun _ _ _ h => h) (Or.inr ⟨by rfl, rfl⟩) hHeld ?_
      try simp only [Act.put, List.setIfInBounds_toArray, List.set_cons_zero, List.set_cons_succ]
      refine wpAnyH_take (i := 13) (oi := { dst := some 50, op := Op.load 26 (Operand.tmp 5), type := 26, pos := "law.go:113", after := #[{ on := 6, ground := Ground.guard }], guard := some (6, true) }) (v := undef) rfl (by kernel_rfl) (by kernel_rfl) (by kernel_rfl) (fun _ _ _ h => h) (Or.inr ⟨by rfl, rfl⟩) hHeld ?_
      try simp only [Act.put, List.setIfInBounds_toArray, List.set_cons_zero, List.set_cons_succ]
      refine wpAnyH_take (i := 14) (oi := { dst := some 51, op := Op.binOp BinOp.eql 26 (Operand.tmp 49) (Operand.tmp 50) 26, type := 4, pos := "law.go:113", after := #[{ on := 12, ground := Ground.data }, { on := 13, ground := Ground.data }, { on := 6, ground := Ground.guard }], guard := some (6, true) }) (v := undef) rfl (by kernel_rfl) (by kernel_rfl) (by kernel_rfl) (fun _ _ _ h => h) (Or.inr ⟨by rfl, rfl⟩) hHeld ?_
      try simp only [Act.put, List.setIfInBounds_toArray, List.set_cons_zero, List.set_cons_succ]
      refine wpAnyH_take (i := 15) (oi := { dst := some 52, op := Op.binOp BinOp.neq 4 (Operand.tmp 48) (Operand.tmp 51) 4, type := 4, pos := "law.go:113", after := #[{ on := 11, ground := Ground.data }, { on := 14, ground := Ground.data }, { on := 6, ground := Ground.guard }], guard := some (6, true) }) (v := undef) rfl (by kernel_rfl) (by kernel_rfl) (by kernel_rfl) (fun _ _ _ h => h) (Or.inr ⟨by rfl, rfl⟩) hHeld ?_
      try simp only [Act.put, List.setIfInBounds_toArray, List.set_cons_zero, List.set_cons_succ]
      refine wpAnyH_take (i := 16) (oi := { dst := some 53, op := Op.pick (Operand.tmp 43) (Operand.tmp 52) (Operand.const (Value.bool false)), type := 4, pos := "law.go:113", after := #[{ on := 6, ground := Ground.data }, { on := 15, ground := Ground.data }], guard := none }) (v := .bool false) rfl (by kernel_rfl) (by kernel_rfl) (by kernel_rfl) (fun _ _ _ h => h) (Or.inl ⟨by rfl, by intro W hSw; go_simp⟩) hHeld ?_
      try simp only [Act.put, List.setIfInBounds_toArray, List.set_cons_zero, List.set_cons_succ]
      refine wpAnyH_done (by kernel_rfl) ?_ _
      skip
      go_wp2_with fail
      have HL5 : Hid (Laid4 w A B X Y a1 a2 a3 a4 n1 n2 n3 n4 c1 c2 c3 c4 L1 L2 L3 L4 w4.drew) := HL4.out.keep (Below.refl _ _).drew
      rcases hG0 with rfl | rfl
      · rcases hJ0 with rfl | rfl
        · obtain ⟨x34, q34⟩ := Q34 rfl rfl
          clear Q34
          refine wp_region_held_drew (S := (Laid4 w A B X Y a1 a2 a3 a4 n1 n2 n3 n4 c1 c2 c3 c4 L1 L2 L3 L4)) (by kernel_rfl) (HL5.out.keep (Below.refl _ _).drew) (fun hHeld => ?_)
          refine wpAnyH_ready (rs := [0]) (by kernel_rfl) (by simp) ?_
          refine (AllReadyH.cons (o := { dst := some 54, op := Op.call { callee := Callee.value (Operand.func 15), args := #[], argTypes := #[] }, type := 4, pos := "law.go:116", after := #[], guard := none }) rfl (fun K hK => ?_) AllReadyH.nil)
          go_simp
          refine (LY.out _).mono ?_
          rintro e wc0 ⟨rfl, hb0⟩
          go_wp2_with fail
          refine hK.out _ _ (hHeld.keep hb0) (fun hHeld => ?_)
          clear hK K
          try simp only [Act.put, List.setIfInBounds_toArray, List.set_cons_zero, List.set_cons_succ]
          refine wpAnyH_take (i := 1) (oi := { dst := some 55, op := Op.move (Operand.tmp 54), type := 4, pos := "law.go:116", after := #[{ on := 0, ground := Ground.data }, { on := 0, ground := Ground.chain }], guard := none }) (v := .bool true) rfl (by kernel_rfl) (by kernel_rfl) (by kernel_rfl) (fun _ _ _ h => h) (Or.inl ⟨by rfl, by intro W hSw; go_simp⟩) hHeld ?_
          try simp only [Act.put, List.setIfInBounds_toArray, List.set_cons_zero, List.set_cons_succ]
          refine wpAnyH_ready (rs := [2]) (by kernel_rfl) (by simp) ?_
          refine (AllReadyH.cons (o := { dst := some 56, op := Op.call { callee := Callee.value (Operand.func 10), args := #[], argTypes := #[] }, type := 4, pos := "law.go:116", after := #[{ on := 1, ground := Ground.chain }, { on := 1, ground := Ground.guard }], guard := some (1, true) }) rfl (fun K hK => ?_) AllReadyH.nil)
          go_simp
          refine (SI.out _ hHeld.came.below).mono ?_
          rintro e wc2 ⟨rfl, hb2⟩
          go_wp2_with fail
          refine hK.out _ _ (hHeld.keep hb2) (fun hHeld => ?_)
          clear hK K
          try simp only [Act.put, List.setIfInBounds_toArray, List.set_cons_zero, List.set_cons_succ]
          refine wpAnyH_take (i := 3) (oi := { dst := some 57, op := Op.pick (Operand.tmp 55) (Operand.tmp 56) (Operand.const (Value.bool false)), type := 4, pos := "law.go:116", after := #[{ on := 1, ground := Ground.data }, { on := 2, ground := Ground.data }], guard := none }) (v := .bool true) rfl (by kernel_rfl) (by kernel_rfl) (by kernel_rfl) (fun _ _ _ h => h) (Or.inl ⟨by rfl, by intro W hSw; go_simp⟩) hHeld ?_
          try simp only [Act.put, List.setIfInBounds_toArray, List.set_cons_zero, List.set_cons_succ]
          refine wpAnyH_take (i := 4) (oi := { dst := some 58, op := Op.move (Operand.tmp 57), type := 4, pos := "law.go:116", after := #[{ on := 3, ground := Ground.data }, { on := 2, ground := Ground.chain }], guard := none }) (v := .bool true) rfl (by kernel_rfl) (by kernel_rfl) (by kernel_rfl) (fun _ _ _ h => h) (Or.inl ⟨by rfl, by intro W hSw; go_simp⟩) hHeld ?_
          try simp only [Act.put, List.setIfInBounds_toArray, List.set_cons_zero, List.set_cons_succ]
          refine wpAnyH_take (i := 5) (oi := { dst := some 59, op := Op.move (Operand.tmp 14), type := 29, pos := "law.go:116", after := #[{ on := 4, ground := Ground.guard }], guard := some (4, true) }) (v := .int .i64 0) rfl (by kernel_rfl) (by kernel_rfl) (by kernel_rfl) (fun _ _ _ h => h) (Or.inl ⟨by rfl, by intro W hSw; go_simp⟩) hHeld ?_
          try simp only [Act.put, List.setIfInBounds_toArray, List.set_cons_zero, List.set_cons_succ]
          refine wpAnyH_take (i := 6) (oi := { dst := some 60, op := Op.binOp BinOp.neq 29 (Operand.tmp 59) (Operand.const (Value.int IntKind.i64 0)) 29, type := 4, pos := "law.go:116", after := #[{ on := 5, ground := Ground.data }, { on := 4, ground := Ground.guard }], guard := some (4, true) }) (v := .bool false) rfl (by kernel_rfl) (by kernel_rfl) (by kernel_rfl) (fun _ _ _ h => h) (Or.inl ⟨by rfl, by intro W hSw; go_simp⟩) hHeld ?_
          try simp only [Act.put, List.setIfInBounds_toArray, List.set_cons_zero, List.set_cons_succ]
          refine wpAnyH_take (i := 7) (oi := { dst := some 61, op := Op.move (Operand.tmp 60), type := 4, pos := "law.go:116", after := #[{ on := 6, ground := Ground.data }, { on := 4, ground := Ground.chain }, { on := 4, ground := Ground.guard }], guard := some (4, true) }) (v := .bool false) rfl (by kernel_rfl) (by kernel_rfl) (by kernel_rfl) (fun _ _ _ h => h) (Or.inl ⟨by rfl, by intro W hSw; go_simp⟩) hHeld ?_
          try simp only [Act.put, List.setIfInBounds_toArray, List.set_cons_zero, List.set_cons_succ]
          refine wpAnyH_take (i := 8) (oi := { dst := some 62, op := Op.move (Operand.tmp 16), type := 29, pos := "law.go:116", after := #[{ on := 7, ground := Ground.guard }], guard := some (7, false) }) (v := .int .i64 0) rfl (by kernel_rfl) (by kernel_rfl) (by kernel_rfl) (fun _ _ _ h => h) (Or.inl ⟨by rfl, by intro W hSw; go_simp⟩) hHeld ?_
          try simp only [Act.put, List.setIfInBounds_toArray, List.set_cons_zero, List.set_cons_succ]
          refine wpAnyH_take (i := 9) (oi := { dst := some 63, op := Op.binOp BinOp.neq 29 (Operand.tmp 62) (Operand.const (Value.int IntKind.i64 0)) 29, type := 4, pos := "law.go:116", after := #[{ on := 8, ground := Ground.data }, { on := 7, ground := Ground.guard }], guard := some (7, false) }) (v := .bool false) rfl (by kernel_rfl) (by kernel_rfl) (by kernel_rfl) (fun _ _ _ h => h) (Or.inl ⟨by rfl, by intro W hSw; go_simp⟩) hHeld ?_
          try simp only [Act.put, List.setIfInBounds_toArray, List.set_cons_zero, List.set_cons_succ]
          refine wpAnyH_take (i := 10) (oi := { dst := some 64, op := Op.pick (Operand.tmp 61) (Operand.const (Value.bool true)) (Operand.tmp 63), type := 4, pos := "law.go:116", after := #[{ on := 7, ground := Ground.data }, { on := 9, ground := Ground.data }, { on := 4, ground := Ground.guard }], guard := some (4, true) }) (v := .bool false) rfl (by kernel_rfl) (by kernel_rfl) (by kernel_rfl) (fun _ _ _ h => h) (Or.inl ⟨by rfl, by intro W hSw; go_simp⟩) hHeld ?_
          try simp only [Act.put, List.setIfInBounds_toArray, List.set_cons_zero, List.set_cons_succ]
          refine wpAnyH_take (i := 11) (oi := { dst := some 65, op := Op.move (Operand.tmp 64), type := 4, pos := "law.go:116", after := #[{ on := 10, ground := Ground.data }, { on := 7, ground := Ground.chain }, { on := 4, ground := Ground.guard }], guard := some (4, true) }) (v := .bool false) rfl (by kernel_rfl) (by kernel_rfl) (by kernel_rfl) (fun _ _ _ h => h) (Or.inl ⟨by rfl, by intro W hSw; go_simp⟩) hHeld ?_
          try simp only [Act.put, List.setIfInBounds_toArray, List.set_cons_zero, List.set_cons_succ]
          refine wpAnyH_take (i := 12) (oi := { dst := some 66, op := Op.move (Operand.tmp 13), type := 35, pos := "law.go:116", after := #[{ on := 11, ground := Ground.guard }], guard := some (11, false) }) (v := .slice a3 n3 c3) rfl (by kernel_rfl) (by kernel_rfl) (by kernel_rfl) (fun _ _ _ h => h) (Or.inl ⟨by rfl, by intro W hSw; go_simp⟩) hHeld ?_
          try simp only [Act.put, List.setIfInBounds_toArray, List.set_cons_zero, List.set_cons_succ]
          refine wpAnyH_take (i := 13) (oi := { dst := some 67, op := Op.convert 35 9 (Operand.tmp 66), type := 9, pos := "law.go:116", after := #[{ on := 12, ground := Ground.data }, { on := 11, ground := Ground.guard }], guard := some (11, false) }) (v := .string T3) rfl (by kernel_rfl) (by kernel_rfl) (by kernel_rfl) (fun _ _ _ h => h) (Or.inl ⟨by rfl, by intro W hSw; have := CV3.out W a3 c3 hSw.r3; go_simp⟩) hHeld ?_
          try simp only [Act.put, List.setIfInBounds_toArray, List.set_cons_zero, List.set_cons_succ]
          refine wpAnyH_take (i := 14) (oi := { dst := some 68, op := Op.move (Operand.tmp 15), type := 35, pos := "law.go:116", after := #[{ on := 11, ground := Ground.guard }], guard := some (11, false) }) (v := .slice a4 n4 c4) rfl (by kernel_rfl) (by kernel_rfl) (by kernel_rfl) (fun _ _ _ h => h) (Or.inl ⟨by rfl, by intro W hSw; go_simp⟩) hHeld ?_
          try simp only [Act.put, List.setIfInBounds_toArray, List.set_cons_zero, List.set_cons_succ]
          refine wpAnyH_take (i := 15) (oi := { dst := some 69, op := Op.convert 35 9 (Operand.tmp 68), type := 9, pos := "law.go:116", after := #[{ on := 14, ground := Ground.data }, { on := 11, ground := Ground.guard }], guard := some (11, false) }) (v := .string T4) rfl (by kernel_rfl) (by kernel_rfl) (by kernel_rfl) (fun _ _ _ h => h) (Or.inl ⟨by rfl, by intro W hSw; have := CV4.out W a4 c4 hSw.r4; go_simp⟩) hHeld ?_
          try simp only [Act.put, List.setIfInBounds_toArray, List.set_cons_zero, List.set_cons_succ]
          refine wpAnyH_take (i := 16) (oi := { dst := some 70, op := Op.binOp BinOp.eql 9 (Operand.tmp 67) (Operand.tmp 69) 9, type := 4, pos := "law.go:116", after := #[{ on := 13, ground := Ground.data }, { on := 15, ground := Ground.data }, { on := 11, ground := Ground.guard }], guard := some (11, false) }) (v := .bool x34) rfl (by kernel_rfl) (by kernel_rfl) (by kernel_rfl) (fun _ _ _ h => h) (Or.inl ⟨by rfl, by intro W hSw; have := q34.1; go_simp⟩) hHeld ?_
          try simp only [Act.put, List.setIfInBounds_toArray, List.set_cons_zero, List.set_cons_succ]
          refine wpAnyH_take (i := 17) (oi := { dst := some 71, op := Op.load 28 (Operand.tmp 6), type := 28, pos := "law.go:116", after := #[{ on := 11, ground := Ground.guard }], guard := some (11, false) }) (v := .agg X) rfl (by kernel_rfl) (by kernel_rfl) (by kernel_rfl) (fun _ _ _ h => h) (yieldsIf_row (by rfl) 28 (.tmp 6) rfl (w.heap.size + 2) rfl 28 X (0, 0) _ (fun _ h => h.came.x) Tryd.underlying28 rfl HSX.out) hHeld ?_
          try simp only [Act.put, List.setIfInBounds_toArray, List.set_cons_zero, List.set_cons_succ]
          refine wpAnyH_take (i := 18) (oi := { dst := some 72, op := Op.load 28 (Operand.tmp 7), type := 28, pos := "law.go:116", after := #[{ on := 11, ground := Ground.guard }], guard := some (11, false) }) (v := .agg Y) rfl (by kernel_rfl) (by kernel_rfl) (by kernel_rfl) (fun _ _ _ h => h) (yieldsIf_row (by rfl) 28 (.tmp 7) rfl (w.heap.size + 3) rfl 28 Y (0, 0) _ (fun _ h => h.came.y) Tryd.underlying28 rfl HSY.out) hHeld ?_
          try simp only [Act.put, List.setIfInBounds_toArray, List.set_cons_zero, List.set_cons_succ]
          refine wpAnyH_take (i := 19) (oi := { dst := some 73, op := Op.binOp BinOp.eql 28 (Operand.tmp 71) (Operand.tmp 72) 28, type := 4, pos := "law.go:116", after := #[{ on := 17, ground := Ground.data }, { on := 18, ground := Ground.data }, { on := 11, ground := Ground.guard }], guard := some (11, false) }) (v := .bool x34) rfl (by kernel_rfl) (by kernel_rfl) (by kernel_rfl) (fun _ _ _ h => h) (Or.inl ⟨by rfl, by intro W hSw; have := q34.2 W; go_simp⟩) hHeld ?_
          try simp only [Act.put, List.setIfInBounds_toArray, List.set_cons_zero, List.set_cons_succ]
          refine wpAnyH_take (i := 20) (oi := { dst := some 74, op := Op.binOp BinOp.eql 4 (Operand.tmp 70) (Operand.tmp 73) 4, type := 4, pos := "law.go:116", after := #[{ on := 16, ground := Ground.data }, { on := 19, ground := Ground.data }, { on := 11, ground := Ground.guard }], guard := some (11, false) }) (v := .bool true) rfl (by kernel_rfl) (by kernel_rfl) (by kernel_rfl) (fun _ _ _ h => h) (Or.inl ⟨by rfl, by intro W hSw; go_simp⟩) hHeld ?_
          try simp only [Act.put, List.setIfInBounds_toArray, List.set_cons_zero, List.set_cons_succ]
          refine wpAnyH_take (i := 21) (oi := { dst := some 75, op := Op.pick (Operand.tmp 65) (Operand.const (Value.bool true)) (Operand.tmp 74), type := 4, pos := "law.go:116", after := #[{ on := 11, ground := Ground.data }, { on := 20, ground := Ground.data }, { on := 4, ground := Ground.guard }], guard := some (4, true) }) (v := .bool true) rfl (by kernel_rfl) (by kernel_rfl) (by kernel_rfl) (fun _ _ _ h => h) (Or.inl ⟨by rfl, by intro W hSw; go_simp⟩) hHeld ?_
          try simp only [Act.put, List.setIfInBounds_toArray, List.set_cons_zero, List.set_cons_succ]
          refine wpAnyH_take (i := 22) (oi := { dst := some 76, op := Op.pick (Operand.tmp 58) (Operand.tmp 75) (Operand.const (Value.bool false)), type := 4, pos := "law.go:116", after := #[{ on := 4, ground := Ground.data }, { on := 21, ground := Ground.data }], guard := none }) (v := .bool true) rfl (by kernel_rfl) (by kernel_rfl) (by kernel_rfl) (fun _ _ _ h => h) (Or.inl ⟨by rfl, by intro W hSw; go_simp⟩) hHeld ?_
          try simp only [Act.put, List.setIfInBounds_toArray, List.set_cons_zero, List.set_cons_succ]
          refine wpAnyH_take (i := 23) (oi := { dst := some 8, op := Op.assign (Operand.tmp 76), type := 4, pos := "law.go:116", after := #[{ on := 22, ground := Ground.data }, { on := 11, ground := Ground.chain }, { on := 0, ground := Ground.phase }, { on := 1, ground := Ground.phase }, { on := 2, ground := Ground.phase }, { on := 3, ground := Ground.phase }, { on := 4, ground := Ground.phase }, { on := 5, ground := Ground.phase }, { on := 6, ground := Ground.phase }, { on := 7, ground := Ground.phase }, { on := 8, ground := Ground.phase }, { on := 9, ground := Ground.phase }, { on := 10, ground := Ground.phase }, { on := 11, ground := Ground.phase }, { on := 12, ground := Ground.phase }, { on := 13, ground := Ground.phase }, { on := 14, ground := Ground.phase }, { on := 15, ground := Ground.phase }, { on := 16, ground := Ground.phase }, { on := 17, ground := Ground.phase }, { on := 18, ground := Ground.phase }, { on := 19, ground := Ground.phase }, { on := 20, ground := Ground.phase }, { on := 21, ground := Ground.phase }, { on := 22, ground := Ground.phase }], guard := none }) (v := .bool true) rfl (by kernel_rfl) (by kernel_rfl) (by kernel_rfl) (fun _ _ _ h => h) (Or.inl ⟨by rfl, by intro W hSw; go_simp⟩) hHeld ?_
          try simp only [Act.put, List.setIfInBounds_toArray, List.set_cons_zero, List.set_cons_succ]
          refine wpAnyH_done (by kernel_rfl) ?_ _
          go_wp2_with fail
          go_ret
          exact ⟨rfl, hHeld.came.below⟩
        · clear Q34
          refine wp_region_held_drew (S := (Laid4 w A B X Y a1 a2 a3 a4 n1 n2 n3 n4 c1 c2 c3 c4 L1 L2 L3 L4)) (by kernel_rfl) (HL5.out.keep (Below.refl _ _).drew) (fun hHeld => ?_)
          refine wpAnyH_ready (rs := [0]) (by kernel_rfl) (by simp) ?_
          refine (AllReadyH.cons (o := { dst := some 54, op := Op.call { callee := Callee.value (Operand.func 15), args := #[], argTypes := #[] }, type := 4, pos := "law.go:116", after := #[], guard := none }) rfl (fun K hK => ?_) AllReadyH.nil)
          go_simp
          refine (LY.out _).mono ?_
          rintro e wc0 ⟨rfl, hb0⟩
          go_wp2_with fail
          refine hK.out _ _ (hHeld.keep hb0) (fun hHeld => ?_)
          clear hK K
          try simp only [Act.put, List.setIfInBounds_toArray, List.set_cons_zero, List.set_cons_succ]
          refine wpAnyH_take (i := 1) (oi := { dst := some 55, op := Op.move (Operand.tmp 54), type := 4, pos := "law.go:116", after := #[{ on := 0, ground := Ground.data }, { on := 0, ground := Ground.chain }], guard := none }) (v := .bool true) rfl (by kernel_rfl) (by kernel_rfl) (by kernel_rfl) (fun _ _ _ h => h) (Or.inl ⟨by rfl, by intro W hSw; go_simp⟩) hHeld ?_
          try simp only [Act.put, List.setIfInBounds_toArray, List.set_cons_zero, List.set_cons_succ]
          refine wpAnyH_ready (rs := [2]) (by kernel_rfl) (by simp) ?_
          refine (AllReadyH.cons (o := { dst := some 56, op := Op.call { callee := Callee.value (Operand.func 10), args := #[], argTypes := #[] }, type := 4, pos := "law.go:116", after := #[{ on := 1, ground := Ground.chain }, { on := 1, ground := Ground.guard }], guard := some (1, true) }) rfl (fun K hK => ?_) AllReadyH.nil)
          go_simp
          refine (SI.out _ hHeld.came.below).mono ?_
          rintro e wc2 ⟨rfl, hb2⟩
          go_wp2_with fail
          refine hK.out _ _ (hHeld.keep hb2) (fun hHeld => ?_)
          clear hK K
          try simp only [Act.put, List.setIfInBounds_toArray, List.set_cons_zero, List.set_cons_succ]
          refine wpAnyH_take (i := 3) (oi := { dst := some 57, op := Op.pick (Operand.tmp 55) (Operand.tmp 56) (Operand.const (Value.bool false)), type := 4, pos := "law.go:116", after := #[{ on := 1, ground := Ground.data }, { on := 2, ground := Ground.data }], guard := none }) (v := .bool true) rfl (by kernel_rfl) (by kernel_rfl) (by kernel_rfl) (fun _ _ _ h => h) (Or.inl ⟨by rfl, by intro W hSw; go_simp⟩) hHeld ?_
          try simp only [Act.put, List.setIfInBounds_toArray, List.set_cons_zero, List.set_cons_succ]
          refine wpAnyH_take (i := 4) (oi := { dst := some 58, op := Op.move (Operand.tmp 57), type := 4, pos := "law.go:116", after := #[{ on := 3, ground := Ground.data }, { on := 2, ground := Ground.chain }], guard := none }) (v := .bool true) rfl (by kernel_rfl) (by kernel_rfl) (by kernel_rfl) (fun _ _ _ h => h) (Or.inl ⟨by rfl, by intro W hSw; go_simp⟩) hHeld ?_
          try simp only [Act.put, List.setIfInBounds_toArray, List.set_cons_zero, List.set_cons_succ]
          refine wpAnyH_take (i := 5) (oi := { dst := some 59, op := Op.move (Operand.tmp 14), type := 29, pos := "law.go:116", after := #[{ on := 4, ground := Ground.guard }], guard := some (4, true) }) (v := .int .i64 0) rfl (by kernel_rfl) (by kernel_rfl) (by kernel_rfl) (fun _ _ _ h => h) (Or.inl ⟨by rfl, by intro W hSw; go_simp⟩) hHeld ?_
          try simp only [Act.put, List.setIfInBounds_toArray, List.set_cons_zero, List.set_cons_succ]
          refine wpAnyH_take (i := 6) (oi := { dst := some 60, op := Op.binOp BinOp.neq 29 (Operand.tmp 59) (Operand.const (Value.int IntKind.i64 0)) 29, type := 4, pos := "law.go:116", after := #[{ on := 5, ground := Ground.data }, { on := 4, ground := Ground.guard }], guard := some (4, true) }) (v := .bool false) rfl (by kernel_rfl) (by kernel_rfl) (by kernel_rfl) (fun _ _ _ h => h) (Or.inl ⟨by rfl, by intro W hSw; go_simp⟩) hHeld ?_
          try simp only [Act.put, List.setIfInBounds_toArray, List.set_cons_zero, List.set_cons_succ]
          refine wpAnyH_take (i := 7) (oi := { dst := some 61, op := Op.move (Operand.tmp 60), type := 4, pos := "law.go:116", after := #[{ on := 6, ground := Ground.data }, { on := 4, ground := Ground.chain }, { on := 4, ground := Ground.guard }], guard := some (4, true) }) (v := .bool false) rfl (by kernel_rfl) (by kernel_rfl) (by kernel_rfl) (fun _ _ _ h => h) (Or.inl ⟨by rfl, by intro W hSw; go_simp⟩) hHeld ?_
          try simp only [Act.put, List.setIfInBounds_toArray, List.set_cons_zero, List.set_cons_succ]
          refine wpAnyH_take (i := 8) (oi := { dst := some 62, op := Op.move (Operand.tmp 16), type := 29, pos := "law.go:116", after := #[{ on := 7, ground := Ground.guard }], guard := some (7, false) }) (v := .int .i64 70) rfl (by kernel_rfl) (by kernel_rfl) (by kernel_rfl) (fun _ _ _ h => h) (Or.inl ⟨by rfl, by intro W hSw; go_simp⟩) hHeld ?_
          try simp only [Act.put, List.setIfInBounds_toArray, List.set_cons_zero, List.set_cons_succ]
          refine wpAnyH_take (i := 9) (oi := { dst := some 63, op := Op.binOp BinOp.neq 29 (Operand.tmp 62) (Operand.const (Value.int IntKind.i64 0)) 29, type := 4, pos := "law.go:116", after := #[{ on := 8, ground := Ground.data }, { on := 7, ground := Ground.guard }], guard := some (7, false) }) (v := .bool true) rfl (by kernel_rfl) (by kernel_rfl) (by kernel_rfl) (fun _ _ _ h => h) (Or.inl ⟨by rfl, by intro W hSw; go_simp⟩) hHeld ?_
          try simp only [Act.put, List.setIfInBounds_toArray, List.set_cons_zero, List.set_cons_succ]
          refine wpAnyH_take (i := 10) (oi := { dst := some 64, op := Op.pick (Operand.tmp 61) (Operand.const (Value.bool true)) (Operand.tmp 63), type := 4, pos := "law.go:116", after := #[{ on := 7, ground := Ground.data }, { on := 9, ground := Ground.data }, { on := 4, ground := Ground.guard }], guard := some (4, true) }) (v := .bool true) rfl (by kernel_rfl) (by kernel_rfl) (by kernel_rfl) (fun _ _ _ h => h) (Or.inl ⟨by rfl, by intro W hSw; go_simp⟩) hHeld ?_
          try simp only [Act.put, List.setIfInBounds_toArray, List.set_cons_zero, List.set_cons_succ]
          refine wpAnyH_take (i := 11) (oi := { dst := some 65, op := Op.move (Operand.tmp 64), type := 4, pos := "law.go:116", after := #[{ on := 10, ground := Ground.data }, { on := 7, ground := Ground.chain }, { on := 4, ground := Ground.guard }], guard := some (4, true) }) (v := .bool true) rfl (by kernel_rfl) (by kernel_rfl) (by kernel_rfl) (fun _ _ _ h => h) (Or.inl ⟨by rfl, by intro W hSw; go_simp⟩) hHeld ?_
          try simp only [Act.put, List.setIfInBounds_toArray, List.set_cons_zero, List.set_cons_succ]
          refine wpAnyH_take (i := 12) (oi := { dst := some 66, op := Op.move (Operand.tmp 13), type := 35, pos := "law.go:116", after := #[{ on := 11, ground := Ground.guard }], guard := some (11, false) }) (v := undef) rfl (by kernel_rfl) (by kernel_rfl) (by kernel_rfl) (fun _ _ _ h => h) (Or.inr ⟨by rfl, rfl⟩) hHeld ?_
          try simp only [Act.put, List.setIfInBounds_toArray, List.set_cons_zero, List.set_cons_succ]
          refine wpAnyH_take (i := 13) (oi := { dst := some 67, op := Op.convert 35 9 (Operand.tmp 66), type := 9, pos := "law.go:116", after := #[{ on := 12, ground := Ground.data }, { on := 11, ground := Ground.guard }], guard := some (11, false) }) (v := undef) rfl (by kernel_rfl) (by kernel_rfl) (by kernel_rfl) (fun _ _ _ h => h) (Or.inr ⟨by rfl, rfl⟩) hHeld ?_
          try simp only [Act.put, List.setIfInBounds_toArray, List.set_cons_zero, List.set_cons_succ]
          refine wpAnyH_take (i := 14) (oi := { dst := some 68, op := Op.move (Operand.tmp 15), type := 35, pos := "law.go:116", after := #[{ on := 11, ground := Ground.guard }], guard := some (11, false) }) (v := undef) rfl (by kernel_rfl) (by kernel_rfl) (by kernel_rfl) (fun _ _ _ h => h) (Or.inr ⟨by rfl, rfl⟩) hHeld ?_
          try simp only [Act.put, List.setIfInBounds_toArray, List.set_cons_zero, List.set_cons_succ]
          refine wpAnyH_take (i := 15) (oi := { dst := some 69, op := Op.convert 35 9 (Operand.tmp 68), type := 9, pos := "law.go:116", after := #[{ on := 14, ground := Ground.data }, { on := 11, ground := Ground.guard }], guard := some (11, false) }) (v := undef) rfl (by kernel_rfl) (by kernel_rfl) (by kernel_rfl) (fun _ _ _ h => h) (Or.inr ⟨by rfl, rfl⟩) hHeld ?_
          try simp only [Act.put, List.setIfInBounds_toArray, List.set_cons_zero, List.set_cons_succ]
          refine wpAnyH_take (i := 16) (oi := { dst := some 70, op := Op.binOp BinOp.eql 9 (Operand.tmp 67) (Operand.tmp 69) 9, type := 4, pos := "law.go:116", after := #[{ on := 13, ground := Ground.data }, { on := 15, ground := Ground.data }, { on := 11, ground := Ground.guard }], guard := some (11, false) }) (v := undef) rfl (by kernel_rfl) (by kernel_rfl) (by kernel_rfl) (fun _ _ _ h => h) (Or.inr ⟨by rfl, rfl⟩) hHeld ?_
          try simp only [Act.put, List.setIfInBounds_toArray, List.set_cons_zero, List.set_cons_succ]
          refine wpAnyH_take (i := 17) (oi := { dst := some 71, op := Op.load 28 (Operand.tmp 6), type := 28, pos := "law.go:116", after := #[{ on := 11, ground := Ground.guard }], guard := some (11, false) }) (v := undef) rfl (by kernel_rfl) (by kernel_rfl) (by kernel_rfl) (fun _ _ _ h => h) (Or.inr ⟨by rfl, rfl⟩) hHeld ?_
          try simp only [Act.put, List.setIfInBounds_toArray, List.set_cons_zero, List.set_cons_succ]
          refine wpAnyH_take (i := 18) (oi := { dst := some 72, op := Op.load 28 (Operand.tmp 7), type := 28, pos := "law.go:116", after := #[{ on := 11, ground := Ground.guard }], guard := some (11, false) }) (v := undef) rfl (by kernel_rfl) (by kernel_rfl) (by kernel_rfl) (fun _ _ _ h => h) (Or.inr ⟨by rfl, rfl⟩) hHeld ?_
          try simp only [Act.put, List.setIfInBounds_toArray, List.set_cons_zero, List.set_cons_succ]
          refine wpAnyH_take (i := 19) (oi := { dst := some 73, op := Op.binOp BinOp.eql 28 (Operand.tmp 71) (Operand.tmp 72) 28, type := 4, pos := "law.go:116", after := #[{ on := 17, ground := Ground.data }, { on := 18, ground := Ground.data }, { on := 11, ground := Ground.guard }], guard := some (11, false) }) (v := undef) rfl (by kernel_rfl) (by kernel_rfl) (by kernel_rfl) (fun _ _ _ h => h) (Or.inr ⟨by rfl, rfl⟩) hHeld ?_
          try simp only [Act.put, List.setIfInBounds_toArray, List.set_cons_zero, List.set_cons_succ]
          refine wpAnyH_take (i := 20) (oi := { dst := some 74, op := Op.binOp BinOp.eql 4 (Operand.tmp 70) (Operand.tmp 73) 4, type := 4, pos := "law.go:116", after := #[{ on := 16, ground := Ground.data }, { on := 19, ground := Ground.data }, { on := 11, ground := Ground.guard }], guard := some (11, false) }) (v := undef) rfl (by kernel_rfl) (by kernel_rfl) (by kernel_rfl) (fun _ _ _ h => h) (Or.inr ⟨by rfl, rfl⟩) hHeld ?_
          try simp only [Act.put, List.setIfInBounds_toArray, List.set_cons_zero, List.set_cons_succ]
          refine wpAnyH_take (i := 21) (oi := { dst := some 75, op := Op.pick (Operand.tmp 65) (Operand.const (Value.bool true)) (Operand.tmp 74), type := 4, pos := "law.go:116", after := #[{ on := 11, ground := Ground.data }, { on := 20, ground := Ground.data }, { on := 4, ground := Ground.guard }], guard := some (4, true) }) (v := .bool true) rfl (by kernel_rfl) (by kernel_rfl) (by kernel_rfl) (fun _ _ _ h => h) (Or.inl ⟨by rfl, by intro W hSw; go_simp⟩) hHeld ?_
          try simp only [Act.put, List.setIfInBounds_toArray, List.set_cons_zero, List.set_cons_succ]
          refine wpAnyH_take (i := 22) (oi := { dst := some 76, op := Op.pick (Operand.tmp 58) (Operand.tmp 75) (Operand.const (Value.bool false)), type := 4, pos := "law.go:116", after := #[{ on := 4, ground := Ground.data }, { on := 21, ground := Ground.data }], guard := none }) (v := .bool true) rfl (by kernel_rfl) (by kernel_rfl) (by kernel_rfl) (fun _ _ _ h => h) (Or.inl ⟨by rfl, by intro W hSw; go_simp⟩) hHeld ?_
          try simp only [Act.put, List.setIfInBounds_toArray, List.set_cons_zero, List.set_cons_succ]
          refine wpAnyH_take (i := 23) (oi := { dst := some 8, op := Op.assign (Operand.tmp 76), type := 4, pos := "law.go:116", after := #[{ on := 22, ground := Ground.data }, { on := 11, ground := Ground.chain }, { on := 0, ground := Ground.phase }, { on := 1, ground := Ground.phase }, { on := 2, ground := Ground.phase }, { on := 3, ground := Ground.phase }, { on := 4, ground := Ground.phase }, { on := 5, ground := Ground.phase }, { on := 6, ground := Ground.phase }, { on := 7, ground := Ground.phase }, { on := 8, ground := Ground.phase }, { on := 9, ground := Ground.phase }, { on := 10, ground := Ground.phase }, { on := 11, ground := Ground.phase }, { on := 12, ground := Ground.phase }, { on := 13, ground := Ground.phase }, { on := 14, ground := Ground.phase }, { on := 15, ground := Ground.phase }, { on := 16, ground := Ground.phase }, { on := 17, ground := Ground.phase }, { on := 18, ground := Ground.phase }, { on := 19, ground := Ground.phase }, { on := 20, ground := Ground.phase }, { on := 21, ground := Ground.phase }, { on := 22, ground := Ground.phase }], guard := none }) (v := .bool true) rfl (by kernel_rfl) (by kernel_rfl) (by kernel_rfl) (fun _ _ _ h => h) (Or.inl ⟨by rfl, by intro W hSw; go_simp⟩) hHeld ?_
          try simp only [Act.put, List.setIfInBounds_toArray, List.set_cons_zero, List.set_cons_succ]
          refine wpAnyH_done (by kernel_rfl) ?_ _
          go_wp2_with fail
          go_ret
          exact ⟨rfl, hHeld.came.below⟩
      · clear Q34 hJ0
        refine wp_region_held_drew (S := (Laid4 w A B X Y a1 a2 a3 a4 n1 n2 n3 n4 c1 c2 c3 c4 L1 L2 L3 L4)) (by kernel_rfl) (HL5.out.keep (Below.refl _ _).drew) (fun hHeld => ?_)
        refine wpAnyH_ready (rs := [0]) (by kernel_rfl) (by simp) ?_
        refine (AllReadyH.cons (o := { dst := some 54, op := Op.call { callee := Callee.value (Operand.func 15), args := #[], argTypes := #[] }, type := 4, pos := "law.go:116", after := #[], guard := none }) rfl (fun K hK => ?_) AllReadyH.nil)
        go_simp
        refine (LY.out _).mono ?_
        rintro e wc0 ⟨rfl, hb0⟩
        go_wp2_with fail
        refine hK.out _ _ (hHeld.keep hb0) (fun hHeld => ?_)
        clear hK K
        try simp only [Act.put, List.setIfInBounds_toArray, List.set_cons_zero, List.set_cons_succ]
        refine wpAnyH_take (i := 1) (oi := { dst := some 55, op := Op.move (Operand.tmp 54), type := 4, pos := "law.go:116", after := #[{ on := 0, ground := Ground.data }, { on := 0, ground := Ground.chain }], guard := none }) (v := .bool true) rfl (by kernel_rfl) (by kernel_rfl) (by kernel_rfl) (fun _ _ _ h => h) (Or.inl ⟨by rfl, by intro W hSw; go_simp⟩) hHeld ?_
        try simp only [Act.put, List.setIfInBounds_toArray, List.set_cons_zero, List.set_cons_succ]
        refine wpAnyH_ready (rs := [2]) (by kernel_rfl) (by simp) ?_
        refine (AllReadyH.cons (o := { dst := some 56, op := Op.call { callee := Callee.value (Operand.func 10), args := #[], argTypes := #[] }, type := 4, pos := "law.go:116", after := #[{ on := 1, ground := Ground.chain }, { on := 1, ground := Ground.guard }], guard := some (1, true) }) rfl (fun K hK => ?_) AllReadyH.nil)
        go_simp
        refine (SI.out _ hHeld.came.below).mono ?_
        rintro e wc2 ⟨rfl, hb2⟩
        go_wp2_with fail
        refine hK.out _ _ (hHeld.keep hb2) (fun hHeld => ?_)
        clear hK K
        try simp only [Act.put, List.setIfInBounds_toArray, List.set_cons_zero, List.set_cons_succ]
        refine wpAnyH_take (i := 3) (oi := { dst := some 57, op := Op.pick (Operand.tmp 55) (Operand.tmp 56) (Operand.const (Value.bool false)), type := 4, pos := "law.go:116", after := #[{ on := 1, ground := Ground.data }, { on := 2, ground := Ground.data }], guard := none }) (v := .bool true) rfl (by kernel_rfl) (by kernel_rfl) (by kernel_rfl) (fun _ _ _ h => h) (Or.inl ⟨by rfl, by intro W hSw; go_simp⟩) hHeld ?_
        try simp only [Act.put, List.setIfInBounds_toArray, List.set_cons_zero, List.set_cons_succ]
        refine wpAnyH_take (i := 4) (oi := { dst := some 58, op := Op.move (Operand.tmp 57), type := 4, pos := "law.go:116", after := #[{ on := 3, ground := Ground.data }, { on := 2, ground := Ground.chain }], guard := none }) (v := .bool true) rfl (by kernel_rfl) (by kernel_rfl) (by kernel_rfl) (fun _ _ _ h => h) (Or.inl ⟨by rfl, by intro W hSw; go_simp⟩) hHeld ?_
        try simp only [Act.put, List.setIfInBounds_toArray, List.set_cons_zero, List.set_cons_succ]
        refine wpAnyH_take (i := 5) (oi := { dst := some 59, op := Op.move (Operand.tmp 14), type := 29, pos := "law.go:116", after := #[{ on := 4, ground := Ground.guard }], guard := some (4, true) }) (v := .int .i64 70) rfl (by kernel_rfl) (by kernel_rfl) (by kernel_rfl) (fun _ _ _ h => h) (Or.inl ⟨by rfl, by intro W hSw; go_simp⟩) hHeld ?_
        try simp only [Act.put, List.setIfInBounds_toArray, List.set_cons_zero, List.set_cons_succ]
        refine wpAnyH_take (i := 6) (oi := { dst := some 60, op := Op.binOp BinOp.neq 29 (Operand.tmp 59) (Operand.const (Value.int IntKind.i64 0)) 29, type := 4, pos := "law.go:116", after := #[{ on := 5, ground := Ground.data }, { on := 4, ground := Ground.guard }], guard := some (4, true) }) (v := .bool true) rfl (by kernel_rfl) (by kernel_rfl) (by kernel_rfl) (fun _ _ _ h => h) (Or.inl ⟨by rfl, by intro W hSw; go_simp⟩) hHeld ?_
        try simp only [Act.put, List.setIfInBounds_toArray, List.set_cons_zero, List.set_cons_succ]
        refine wpAnyH_take (i := 7) (oi := { dst := some 61, op := Op.move (Operand.tmp 60), type := 4, pos := "law.go:116", after := #[{ on := 6, ground := Ground.data }, { on := 4, ground := Ground.chain }, { on := 4, ground := Ground.guard }], guard := some (4, true) }) (v := .bool true) rfl (by kernel_rfl) (by kernel_rfl) (by kernel_rfl) (fun _ _ _ h => h) (Or.inl ⟨by rfl, by intro W hSw; go_simp⟩) hHeld ?_
        try simp only [Act.put, List.setIfInBounds_toArray, List.set_cons_zero, List.set_cons_succ]
        refine wpAnyH_take (i := 8) (oi := { dst := some 62, op := Op.move (Operand.tmp 16), type := 29, pos := "law.go:116", after := #[{ on := 7, ground := Ground.guard }], guard := some (7, false) }) (v := undef) rfl (by kernel_rfl) (by kernel_rfl) (by kernel_rfl) (fun _ _ _ h => h) (Or.inr ⟨by rfl, rfl⟩) hHeld ?_
        try simp only [Act.put, List.setIfInBounds_toArray, List.set_cons_zero, List.set_cons_succ]
        refine wpAnyH_take (i := 9) (oi := { dst := some 63, op := Op.binOp BinOp.neq 29 (Operand.tmp 62) (Operand.const (Value.int IntKind.i64 0)) 29, type := 4, pos := "law.go:116", after := #[{ on := 8, ground := Ground.data }, { on := 7, ground := Ground.guard }], guard := some (7, false) }) (v := undef) rfl (by kernel_rfl) (by kernel_rfl) (by kernel_rfl) (fun _ _ _ h => h) (Or.inr ⟨by rfl, rfl⟩) hHeld ?_
        try simp only [Act.put, List.setIfInBounds_toArray, List.set_cons_zero, List.set_cons_succ]
        refine wpAnyH_take (i := 10) (oi := { dst := some 64, op := Op.pick (Operand.tmp 61) (Operand.const (Value.bool true)) (Operand.tmp 63), type := 4, pos := "law.go:116", after := #[{ on := 7, ground := Ground.data }, { on := 9, ground := Ground.data }, { on := 4, ground := Ground.guard }], guard := some (4, true) }) (v := .bool true) rfl (by kernel_rfl) (by kernel_rfl) (by kernel_rfl) (fun _ _ _ h => h) (Or.inl ⟨by rfl, by intro W hSw; go_simp⟩) hHeld ?_
        try simp only [Act.put, List.setIfInBounds_toArray, List.set_cons_zero, List.set_cons_succ]
        refine wpAnyH_take (i := 11) (oi := { dst := some 65, op := Op.move (Operand.tmp 64), type := 4, pos := "law.go:116", after := #[{ on := 10, ground := Ground.data }, { on := 7, ground := Ground.chain }, { on := 4, ground := Ground.guard }], guard := some (4, true) }) (v := .bool true) rfl (by kernel_rfl) (by kernel_rfl) (by kernel_rfl) (fun _ _ _ h => h) (Or.inl ⟨by rfl, by intro W hSw; go_simp⟩) hHeld ?_
        try simp only [Act.put, List.setIfInBounds_toArray, List.set_cons_zero, List.set_cons_succ]
        refine wpAnyH_take (i := 12) (oi := { dst := some 66, op := Op.move (Operand.tmp 13), type := 35, pos := "law.go:116", after := #[{ on := 11, ground := Ground.guard }], guard := some (11, false) }) (v := undef) rfl (by kernel_rfl) (by kernel_rfl) (by kernel_rfl) (fun _ _ _ h => h) (Or.inr ⟨by rfl, rfl⟩) hHeld ?_
        try simp only [Act.put, List.setIfInBounds_toArray, List.set_cons_zero, List.set_cons_succ]
        refine wpAnyH_take (i := 13) (oi := { dst := some 67, op := Op.convert 35 9 (Operand.tmp 66), type := 9, pos := "law.go:116", after := #[{ on := 12, ground := Ground.data }, { on := 11, ground := Ground.guard }], guard := some (11, false) }) (v := undef) rfl (by kernel_rfl) (by kernel_rfl) (by kernel_rfl) (fun _ _ _ h => h) (Or.inr ⟨by rfl, rfl⟩) hHeld ?_
        try simp only [Act.put, List.setIfInBounds_toArray, List.set_cons_zero, List.set_cons_succ]
        refine wpAnyH_take (i := 14) (oi := { dst := some 68, op := Op.move (Operand.tmp 15), type := 35, pos := "law.go:116", after := #[{ on := 11, ground := Ground.guard }], guard := some (11, false) }) (v := undef) rfl (by kernel_rfl) (by kernel_rfl) (by kernel_rfl) (fun _ _ _ h => h) (Or.inr ⟨by rfl, rfl⟩) hHeld ?_
        try simp only [Act.put, List.setIfInBounds_toArray, List.set_cons_zero, List.set_cons_succ]
        refine wpAnyH_take (i := 15) (oi := { dst := some 69, op := Op.convert 35 9 (Operand.tmp 68), type := 9, pos := "law.go:116", after := #[{ on := 14, ground := Ground.data }, { on := 11, ground := Ground.guard }], guard := some (11, false) }) (v := undef) rfl (by kernel_rfl) (by kernel_rfl) (by kernel_rfl) (fun _ _ _ h => h) (Or.inr ⟨by rfl, rfl⟩) hHeld ?_
        try simp only [Act.put, List.setIfInBounds_toArray, List.set_cons_zero, List.set_cons_succ]
        refine wpAnyH_take (i := 16) (oi := { dst := some 70, op := Op.binOp BinOp.eql 9 (Operand.tmp 67) (Operand.tmp 69) 9, type := 4, pos := "law.go:116", after := #[{ on := 13, ground := Ground.data }, { on := 15, ground := Ground.data }, { on := 11, ground := Ground.guard }], guard := some (11, false) }) (v := undef) rfl (by kernel_rfl) (by kernel_rfl) (by kernel_rfl) (fun _ _ _ h => h) (Or.inr ⟨by rfl, rfl⟩) hHeld ?_
        try simp only [Act.put, List.setIfInBounds_toArray, List.set_cons_zero, List.set_cons_succ]
        refine wpAnyH_take (i := 17) (oi := { dst := some 71, op := Op.load 28 (Operand.tmp 6), type := 28, pos := "law.go:116", after := #[{ on := 11, ground := Ground.guard }], guard := some (11, false) }) (v := undef) rfl (by kernel_rfl) (by kernel_rfl) (by kernel_rfl) (fun _ _ _ h => h) (Or.inr ⟨by rfl, rfl⟩) hHeld ?_
        try simp only [Act.put, List.setIfInBounds_toArray, List.set_cons_zero, List.set_cons_succ]
        refine wpAnyH_take (i := 18) (oi := { dst := some 72, op := Op.load 28 (Operand.tmp 7), type := 28, pos := "law.go:116", after := #[{ on := 11, ground := Ground.guard }], guard := some (11, false) }) (v := undef) rfl (by kernel_rfl) (by kernel_rfl) (by kernel_rfl) (fun _ _ _ h => h) (Or.inr ⟨by rfl, rfl⟩) hHeld ?_
        try simp only [Act.put, List.setIfInBounds_toArray, List.set_cons_zero, List.set_cons_succ]
        refine wpAnyH_take (i := 19) (oi := { dst := some 73, op := Op.binOp BinOp.eql 28 (Operand.tmp 71) (Operand.tmp 72) 28, type := 4, pos := "law.go:116", after := #[{ on := 17, ground := Ground.data }, { on := 18, ground := Ground.data }, { on := 11, ground := Ground.guard }], guard := some (11, false) }) (v := undef) rfl (by kernel_rfl) (by kernel_rfl) (by kernel_rfl) (fun _ _ _ h => h) (Or.inr ⟨by rfl, rfl⟩) hHeld ?_
        try simp only [Act.put, List.setIfInBounds_toArray, List.set_cons_zero, List.set_cons_succ]
        refine wpAnyH_take (i := 20) (oi := { dst := some 74, op := Op.binOp BinOp.eql 4 (Operand.tmp 70) (Operand.tmp 73) 4, type := 4, pos := "law.go:116", after := #[{ on := 16, ground := Ground.data }, { on := 19, ground := Ground.data }, { on := 11, ground := Ground.guard }], guard := some (11, false) }) (v := undef) rfl (by kernel_rfl) (by kernel_rfl) (by kernel_rfl) (fun _ _ _ h => h) (Or.inr ⟨by rfl, rfl⟩) hHeld ?_
        try simp only [Act.put, List.setIfInBounds_toArray, List.set_cons_zero, List.set_cons_succ]
        refine wpAnyH_take (i := 21) (oi := { dst := some 75, op := Op.pick (Operand.tmp 65) (Operand.const (Value.bool true)) (Operand.tmp 74), type := 4, pos := "law.go:116", after := #[{ on := 11, ground := Ground.data }, { on := 20, ground := Ground.data }, { on := 4, ground := Ground.guard }], guard := some (4, true) }) (v := .bool true) rfl (by kernel_rfl) (by kernel_rfl) (by kernel_rfl) (fun _ _ _ h => h) (Or.inl ⟨by rfl, by intro W hSw; go_simp⟩) hHeld ?_
        try simp only [Act.put, List.setIfInBounds_toArray, List.set_cons_zero, List.set_cons_succ]
        refine wpAnyH_take (i := 22) (oi := { dst := some 76, op := Op.pick (Operand.tmp 58) (Operand.tmp 75) (Operand.const (Value.bool false)), type := 4, pos := "law.go:116", after := #[{ on := 4, ground := Ground.data }, { on := 21, ground := Ground.data }], guard := none }) (v := .bool true) rfl (by kernel_rfl) (by kernel_rfl) (by kernel_rfl) (fun _ _ _ h => h) (Or.inl ⟨by rfl, by intro W hSw; go_simp⟩) hHeld ?_
        try simp only [Act.put, List.setIfInBounds_toArray, List.set_cons_zero, List.set_cons_succ]
        refine wpAnyH_take (i := 23) (oi := { dst := some 8, op := Op.assign (Operand.tmp 76), type := 4, pos := "law.go:116", after := #[{ on := 22, ground := Ground.data }, { on := 11, ground := Ground.chain }, { on := 0, ground := Ground.phase }, { on := 1, ground := Ground.phase }, { on := 2, ground := Ground.phase }, { on := 3, ground := Ground.phase }, { on := 4, ground := Ground.phase }, { on := 5, ground := Ground.phase }, { on := 6, ground := Ground.phase }, { on := 7, ground := Ground.phase }, { on := 8, ground := Ground.phase }, { on := 9, ground := Ground.phase }, { on := 10, ground := Ground.phase }, { on := 11, ground := Ground.phase }, { on := 12, ground := Ground.phase }, { on := 13, ground := Ground.phase }, { on := 14, ground := Ground.phase }, { on := 15, ground := Ground.phase }, { on := 16, ground := Ground.phase }, { on := 17, ground := Ground.phase }, { on := 18, ground := Ground.phase }, { on := 19, ground := Ground.phase }, { on := 20, ground := Ground.phase }, { on := 21, ground := Ground.phase }, { on := 22, ground := Ground.phase }], guard := none }) (v := .bool true) rfl (by kernel_rfl) (by kernel_rfl) (by kernel_rfl) (fun _ _ _ h => h) (Or.inl ⟨by rfl, by intro W hSw; go_simp⟩) hHeld ?_
        try simp only [Act.put, List.setIfInBounds_toArray, List.set_cons_zero, List.set_cons_succ]
        refine wpAnyH_done (by kernel_rfl) ?_ _
        go_wp2_with fail
        go_ret
        exact ⟨rfl, hHeld.came.below⟩
  · clear Q12 hF0
    refine wp_region_held_drew (S := (Laid4 w A B X Y a1 a2 a3 a4 n1 n2 n3 n4 c1 c2 c3 c4 L1 L2 L3 L4)) (by kernel_rfl) (HL4.out.keep (Below.refl _ _).drew) (fun hHeld => ?_)
    refine wpAnyH_take (i := 0) (oi := { dst := some 37, op := Op.move (Operand.tmp 10), type := 29, pos := "law.go:113", after := #[], guard := none }) (v := .int .i64 70) rfl (by kernel_rfl) (by kernel_rfl) (by kernel_rfl) (fun _ _ _ h => h) (Or.inl ⟨by rfl, by intro W hSw; go_simp⟩) hHeld ?_
    try simp only [Act.put, List.setIfInBounds_toArray, List.set_cons_zero, List.set_cons_succ]
    refine wpAnyH_take (i := 1) (oi := { dst := some 38, op := Op.binOp BinOp.eql 29 (Operand.tmp 37) (Operand.const (Value.int IntKind.i64 0)) 29, type := 4, pos := "law.go:113", after := #[{ on := 0, ground := Ground.data }], guard := none }) (v := .bool false) rfl (by kernel_rfl) (by kernel_rfl) (by kernel_rfl) (fun _ _ _ h => h) (Or.inl ⟨by rfl, by intro W hSw; go_simp⟩) hHeld ?_
    try simp only [Act.put, List.setIfInBounds_toArray, List.set_cons_zero, List.set_cons_succ]
    refine wpAnyH_take (i := 2) (oi := { dst := some 39, op := Op.move (Operand.tmp 38), type := 4, pos := "law.go:113", after := #[{ on := 1, ground := Ground.data }], guard := none }) (v := .bool false) rfl (by kernel_rfl) (by kernel_rfl) (by kernel_rfl) (fun _ _ _ h => h) (Or.inl ⟨by rfl, by intro W hSw; go_simp⟩) hHeld ?_
    try simp only [Act.put, List.setIfInBounds_toArray, List.set_cons_zero, List.set_cons_succ]
    refine wpAnyH_take (i := 3) (oi := { dst := some 40, op := Op.move (Operand.tmp 12), type := 29, pos := "law.go:113", after := #[{ on := 2, ground := Ground.guard }], guard := some (2, true) }) (v := undef) rfl (by kernel_rfl) (by kernel_rfl) (by kernel_rfl) (fun _ _ _ h => h) (Or.inr ⟨by rfl, rfl⟩) hHeld ?_
    try simp only [Act.put, List.setIfInBounds_toArray, List.set_cons_zero, List.set_cons_succ]
    refine wpAnyH_take (i := 4) (oi := { dst := some 41, op := Op.binOp BinOp.eql 29 (Operand.tmp 40) (Operand.const (Value.int IntKind.i64 0)) 29, type := 4, pos := "law.go:113", after := #[{ on := 3, ground := Ground.data }, { on := 2, ground := Ground.guard }], guard := some (2, true) }) (v := undef) rfl (by kernel_rfl) (by kernel_rfl) (by kernel_rfl) (fun _ _ _ h => h) (Or.inr ⟨by rfl, rfl⟩) hHeld ?_
    try simp only [Act.put, List.setIfInBounds_toArray, List.set_cons_zero, List.set_cons_succ]
    refine wpAnyH_take (i := 5) (oi := { dst := some 42, op := Op.pick (Operand.tmp 39) (Operand.tmp 41) (Operand.const (Value.bool false)), type := 4, pos := "law.go:113", after := #[{ on := 2, ground := Ground.data }, { on := 4, ground := Ground.data }], guard := none }) (v := .bool false) rfl (by kernel_rfl) (by kernel_rfl) (by kernel_rfl) (fun _ _ _ h => h) (Or.inl ⟨by rfl, by intro W hSw; go_simp⟩) hHeld ?_
    try simp only [Act.put, List.setIfInBounds_toArray, List.set_cons_zero, List.set_cons_succ]
    refine wpAnyH_take (i := 6) (oi := { dst := some 43, op := Op.move (Operand.tmp 42), type := 4, pos := "law.go:113", after := #[{ on := 5, ground := Ground.data }, { on := 2, ground := Ground.chain }], guard := none }) (v := .bool false) rfl (by kernel_rfl) (by kernel_rfl) (by kernel_rfl) (fun _ _ _ h => h) (Or.inl ⟨by rfl, by intro W hSw; go_simp⟩) hHeld ?_
    try simp only [Act.put, List.setIfInBounds_toArray, List.set_cons_zero, List.set_cons_succ]
    refine wpAnyH_take (i := 7) (oi := { dst := some 44, op := Op.move (Operand.tmp 9), type := 35, pos := "law.go:113", after := #[{ on := 6, ground := Ground.guard }], guard := some (6, true) }) (v := undef) rfl (by kernel_rfl) (by kernel_rfl) (by kernel_rfl) (fun _ _ _ h => h) (Or.inr ⟨by rfl, rfl⟩) hHeld ?_
    try simp only [Act.put, List.setIfInBounds_toArray, List.set_cons_zero, List.set_cons_succ]
    refine wpAnyH_take (i := 8) (oi := { dst := some 45, op := Op.convert 35 9 (Operand.tmp 44), type := 9, pos := "law.go:113", after := #[{ on := 7, ground := Ground.data }, { on := 6, ground := Ground.guard }], guard := some (6, true) }) (v := undef) rfl (by kernel_rfl) (by kernel_rfl) (by kernel_rfl) (fun _ _ _ h => h) (Or.inr ⟨by rfl, rfl⟩) hHeld ?_
    try simp only [Act.put, List.setIfInBounds_toArray, List.set_cons_zero, List.set_cons_succ]
    refine wpAnyH_take (i := 9) (oi := { dst := some 46, op := Op.move (Operand.tmp 11), type := 35, pos := "law.go:113", after := #[{ on := 6, ground := Ground.guard }], guard := some (6, true) }) (v := undef) rfl (by kernel_rfl) (by kernel_rfl) (by kernel_rfl) (fun _ _ _ h => h) (Or.inr ⟨by rfl, rfl⟩) hHeld ?_
    try simp only [Act.put, List.setIfInBounds_toArray, List.set_cons_zero, List.set_cons_succ]
    refine wpAnyH_take (i := 10) (oi := { dst := some 47, op := Op.convert 35 9 (Operand.tmp 46), type := 9, pos := "law.go:113", after := #[{ on := 9, ground := Ground.data }, { on := 6, ground := Ground.guard }], guard := some (6, true) }) (v := undef) rfl (by kernel_rfl) (by kernel_rfl) (by kernel_rfl) (fun _ _ _ h => h) (Or.inr ⟨by rfl, rfl⟩) hHeld ?_
    try simp only [Act.put, List.setIfInBounds_toArray, List.set_cons_zero, List.set_cons_succ]
    refine wpAnyH_take (i := 11) (oi := { dst := some 48, op := Op.binOp BinOp.eql 9 (Operand.tmp 45) (Operand.tmp 47) 9, type := 4, pos := "law.go:113", after := #[{ on := 8, ground := Ground.data }, { on := 10, ground := Ground.data }, { on := 6, ground := Ground.guard }], guard := some (6, true) }) (v := undef) rfl (by kernel_rfl) (by kernel_rfl) (by kernel_rfl) (fun _ _ _ h => h) (Or.inr ⟨by rfl, rfl⟩) hHeld ?_
    try simp only [Act.put, List.setIfInBounds_toArray, List.set_cons_zero, List.set_cons_succ]
    refine wpAnyH_take (i := 12) (oi := { dst := some 49, op := Op.load 26 (Operand.tmp 4), type := 26, pos := "law.go:113", after := #[{ on := 6, ground := Ground.guard }], guard := some (6, true) }) (v := undef) rfl (by kernel_rfl) (by kernel_rfl) (by kernel_rfl) (fun _ _ _ h => h) (Or.inr ⟨by rfl, rfl⟩) hHeld ?_
    try simp only [Act.put, List.setIfInBounds_toArray, List.set_cons_zero, List.set_cons_succ]
    refine wpAnyH_take (i := 13) (oi := { dst := some 50, op := Op.load 26 (Operand.tmp 5), type := 26, pos := "law.go:113", after := #[{ on := 6, ground := Ground.guard }], guard := some (6, true) }) (v := undef) rfl (by kernel_rfl) (by kernel_rfl) (by kernel_rfl) (fun _ _ _ h => h) (Or.inr ⟨by rfl, rfl⟩) hHeld ?_
    try simp only [Act.put, List.setIfInBounds_toArray, List.set_cons_zero, List.set_cons_succ]
    refine wpAnyH_take (i := 14) (oi := { dst := some 51, op := Op.binOp BinOp.eql 26 (Operand.tmp 49) (Operand.tmp 50) 26, type := 4, pos := "law.go:113", after := #[{ on := 12, ground := Ground.data }, { on := 13, ground := Ground.data }, { on := 6, ground := Ground.guard }], guard := some (6, true) }) (v := undef) rfl (by kernel_rfl) (by kernel_rfl) (by kernel_rfl) (fun _ _ _ h => h) (Or.inr ⟨by rfl, rfl⟩) hHeld ?_
    try simp only [Act.put, List.setIfInBounds_toArray, List.set_cons_zero, List.set_cons_succ]
    refine wpAnyH_take (i := 15) (oi := { dst := some 52, op := Op.binOp BinOp.neq 4 (Operand.tmp 48) (Operand.tmp 51) 4, type := 4, pos := "law.go:113", after := #[{ on := 11, ground := Ground.data }, { on := 14, ground := Ground.data }, { on := 6, ground := Ground.guard }], guard := some (6, true) }) (v := undef) rfl (by kernel_rfl) (by kernel_rfl) (by kernel_rfl) (fun _ _ _ h => h) (Or.inr ⟨by rfl, rfl⟩) hHeld ?_
    try simp only [Act.put, List.setIfInBounds_toArray, List.set_cons_zero, List.set_cons_succ]
    refine wpAnyH_take (i := 16) (oi := { dst := some 53, op := Op.pick (Operand.tmp 43) (Operand.tmp 52) (Operand.const (Value.bool false)), type := 4, pos := "law.go:113", after := #[{ on := 6, ground := Ground.data }, { on := 15, ground := Ground.data }], guard := none }) (v := .bool false) rfl (by kernel_rfl) (by kernel_rfl) (by kernel_rfl) (fun _ _ _ h => h) (Or.inl ⟨by rfl, by intro W hSw; go_simp⟩) hHeld ?_
    try simp only [Act.put, List.setIfInBounds_toArray, List.set_cons_zero, List.set_cons_succ]
    refine wpAnyH_done (by kernel_rfl) ?_ _
    skip
    go_wp2_with fail
    have HL5 : Hid (Laid4 w A B X Y a1 a2 a3 a4 n1 n2 n3 n4 c1 c2 c3 c4 L1 L2 L3 L4 w4.drew) := HL4.out.keep (Below.refl _ _).drew
    rcases hG0 with rfl | rfl
    · rcases hJ0 with rfl | rfl
      · obtain ⟨x34, q34⟩ := Q34 rfl rfl
        clear Q34
        refine wp_region_held_drew (S := (Laid4 w A B X Y a1 a2 a3 a4 n1 n2 n3 n4 c1 c2 c3 c4 L1 L2 L3 L4)) (by kernel_rfl) (HL5.out.keep (Below.refl _ _).drew) (fun hHeld => ?_)
        refine wpAnyH_ready (rs := [0]) (by kernel_rfl) (by simp) ?_
        refine (AllReadyH.cons (o := { dst := some 54, op := Op.call { callee := Callee.value (Operand.func 15), args := #[], argTypes := #[] }, type := 4, pos := "law.go:116", after := #[], guard := none }) rfl (fun K hK => ?_) AllReadyH.nil)
        go_simp
        refine (LY.out _).mono ?_
        rintro e wc0 ⟨rfl, hb0⟩
        go_wp2_with fail
        refine hK.out _ _ (hHeld.keep hb0) (fun hHeld => ?_)
        clear hK K
        try simp only [Act.put, List.setIfInBounds_toArray, List.set_cons_zero, List.set_cons_succ]
        refine wpAnyH_take (i := 1) (oi := { dst := some 55, op := Op.move (Operand.tmp 54), type := 4, pos := "law.go:116", after := #[{ on := 0, ground := Ground.data }, { on := 0, ground := Ground.chain }], guard := none }) (v := .bool true) rfl (by kernel_rfl) (by kernel_rfl) (by kernel_rfl) (fun _ _ _ h => h) (Or.inl ⟨by rfl, by intro W hSw; go_simp⟩) hHeld ?_
        try simp only [Act.put, List.setIfInBounds_toArray, List.set_cons_zero, List.set_cons_succ]
        refine wpAnyH_ready (rs := [2]) (by kernel_rfl) (by simp) ?_
        refine (AllReadyH.cons (o := { dst := some 56, op := Op.call { callee := Callee.value (Operand.func 10), args := #[], argTypes := #[] }, type := 4, pos := "law.go:116", after := #[{ on := 1, ground := Ground.chain }, { on := 1, ground := Ground.guard }], guard := some (1, true) }) rfl (fun K hK => ?_) AllReadyH.nil)
        go_simp
        refine (SI.out _ hHeld.came.below).mono ?_
        rintro e wc2 ⟨rfl, hb2⟩
        go_wp2_with fail
        refine hK.out _ _ (hHeld.keep hb2) (fun hHeld => ?_)
        clear hK K
        try simp only [Act.put, List.setIfInBounds_toArray, List.set_cons_zero, List.set_cons_succ]
        refine wpAnyH_take (i := 3) (oi := { dst := some 57, op := Op.pick (Operand.tmp 55) (Operand.tmp 56) (Operand.const (Value.bool false)), type := 4, pos := "law.go:116", after := #[{ on := 1, ground := Ground.data }, { on := 2, ground := Ground.data }], guard := none }) (v := .bool true) rfl (by kernel_rfl) (by kernel_rfl) (by kernel_rfl) (fun _ _ _ h => h) (Or.inl ⟨by rfl, by intro W hSw; go_simp⟩) hHeld ?_
        try simp only [Act.put, List.setIfInBounds_toArray, List.set_cons_zero, List.set_cons_succ]
        refine wpAnyH_take (i := 4) (oi := { dst := some 58, op := Op.move (Operand.tmp 57), type := 4, pos := "law.go:116", after := #[{ on := 3, ground := Ground.data }, { on := 2, ground := Ground.chain }], guard := none }) (v := .bool true) rfl (by kernel_rfl) (by kernel_rfl) (by kernel_rfl) (fun _ _ _ h => h) (Or.inl ⟨by rfl, by intro W hSw; go_simp⟩) hHeld ?_
        try simp only [Act.put, List.setIfInBounds_toArray, List.set_cons_zero, List.set_cons_succ]
        refine wpAnyH_take (i := 5) (oi := { dst := some 59, op := Op.move (Operand.tmp 14), type := 29, pos := "law.go:116", after := #[{ on := 4, ground := Ground.guard }], guard := some (4, true) }) (v := .int .i64 0) rfl (by kernel_rfl) (by kernel_rfl) (by kernel_rfl) (fun _ _ _ h => h) (Or.inl ⟨by rfl, by intro W hSw; go_simp⟩) hHeld ?_
        try simp only [Act.put, List.setIfInBounds_toArray, List.set_cons_zero, List.set_cons_succ]
        refine wpAnyH_take (i := 6) (oi := { dst := some 60, op := Op.binOp BinOp.neq 29 (Operand.tmp 59) (Operand.const (Value.int IntKind.i64 0)) 29, type := 4, pos := "law.go:116", after := #[{ on := 5, ground := Ground.data }, { on := 4, ground := Ground.guard }], guard := some (4, true) }) (v := .bool false) rfl (by kernel_rfl) (by kernel_rfl) (by kernel_rfl) (fun _ _ _ h => h) (Or.inl ⟨by rfl, by intro W hSw; go_simp⟩) hHeld ?_
        try simp only [Act.put, List.setIfInBounds_toArray, List.set_cons_zero, List.set_cons_succ]
        refine wpAnyH_take (i := 7) (oi := { dst := some 61, op := Op.move (Operand.tmp 60), type := 4, pos := "law.go:116", after := #[{ on := 6, ground := Ground.data }, { on := 4, ground := Ground.chain }, { on := 4, ground := Ground.guard }], guard := some (4, true) }) (v := .bool false) rfl (by kernel_rfl) (by kernel_rfl) (by kernel_rfl) (fun _ _ _ h => h) (Or.inl ⟨by rfl, by intro W hSw; go_simp⟩) hHeld ?_
        try simp only [Act.put, List.setIfInBounds_toArray, List.set_cons_zero, List.set_cons_succ]
        refine wpAnyH_take (i := 8) (oi := { dst := some 62, op := Op.move (Operand.tmp 16), type := 29, pos := "law.go:116", after := #[{ on := 7, ground := Ground.guard }], guard := some (7, false) }) (v := .int .i64 0) rfl (by kernel_rfl) (by kernel_rfl) (by kernel_rfl) (fun _ _ _ h => h) (Or.inl ⟨by rfl, by intro W hSw; go_simp⟩) hHeld ?_
        try simp only [Act.put, List.setIfInBounds_toArray, List.set_cons_zero, List.set_cons_succ]
        refine wpAnyH_take (i := 9) (oi := { dst := some 63, op := Op.binOp BinOp.neq 29 (Operand.tmp 62) (Operand.const (Value.int IntKind.i64 0)) 29, type := 4, pos := "law.go:116", after := #[{ on := 8, ground := Ground.data }, { on := 7, ground := Ground.guard }], guard := some (7, false) }) (v := .bool false) rfl (by kernel_rfl) (by kernel_rfl) (by kernel_rfl) (fun _ _ _ h => h) (Or.inl ⟨by rfl, by intro W hSw; go_simp⟩) hHeld ?_
        try simp only [Act.put, List.setIfInBounds_toArray, List.set_cons_zero, List.set_cons_succ]
        refine wpAnyH_take (i := 10) (oi := { dst := some 64, op := Op.pick (Operand.tmp 61) (Operand.const (Value.bool true)) (Operand.tmp 63), type := 4, pos := "law.go:116", after := #[{ on := 7, ground := Ground.data }, { on := 9, ground := Ground.data }, { on := 4, ground := Ground.guard }], guard := some (4, true) }) (v := .bool false) rfl (by kernel_rfl) (by kernel_rfl) (by kernel_rfl) (fun _ _ _ h => h) (Or.inl ⟨by rfl, by intro W hSw; go_simp⟩) hHeld ?_
        try simp only [Act.put, List.setIfInBounds_toArray, List.set_cons_zero, List.set_cons_succ]
        refine wpAnyH_take (i := 11) (oi := { dst := some 65, op := Op.move (Operand.tmp 64), type := 4, pos := "law.go:116", after := #[{ on := 10, ground := Ground.data }, { on := 7, ground := Ground.chain }, { on := 4, ground := Ground.guard }], guard := some (4, true) }) (v := .bool false) rfl (by kernel_rfl) (by kernel_rfl) (by kernel_rfl) (fun _ _ _ h => h) (Or.inl ⟨by rfl, by intro W hSw; go_simp⟩) hHeld ?_
        try simp only [Act.put, List.setIfInBounds_toArray, List.set_cons_zero, List.set_cons_succ]
        refine wpAnyH_take (i := 12) (oi := { dst := some 66, op := Op.move (Operand.tmp 13), type := 35, pos := "law.go:116", after := #[{ on := 11, ground := Ground.guard }], guard := some (11, false) }) (v := .slice a3 n3 c3) rfl (by kernel_rfl) (by kernel_rfl) (by kernel_rfl) (fun _ _ _ h => h) (Or.inl ⟨by rfl, by intro W hSw; go_simp⟩) hHeld ?_
        try simp only [Act.put, List.setIfInBounds_toArray, List.set_cons_zero, List.set_cons_succ]
        refine wpAnyH_take (i := 13) (oi := { dst := some 67, op := Op.convert 35 9 (Operand.tmp 66), type := 9, pos := "law.go:116", after := #[{ on := 12, ground := Ground.data }, { on := 11, ground := Ground.guard }], guard := some (11, false) }) (v := .string T3) rfl (by kernel_rfl) (by kernel_rfl) (by kernel_rfl) (fun _ _ _ h => h) (Or.inl ⟨by rfl, by intro W hSw; have := CV3.out W a3 c3 hSw.r3; go_simp⟩) hHeld ?_
        try simp only [Act.put, List.setIfInBounds_toArray, List.set_cons_zero, List.set_cons_succ]
        refine wpAnyH_take (i := 14) (oi := { dst := some 68, op := Op.move (Operand.tmp 15), type := 35, pos := "law.go:116", after := #[{ on := 11, ground := Ground.guard }], guard := some (11, false) }) (v := .slice a4 n4 c4) rfl (by kernel_rfl) (by kernel_rfl) (by kernel_rfl) (fun _ _ _ h => h) (Or.inl ⟨by rfl, by intro W hSw; go_simp⟩) hHeld ?_
        try simp only [Act.put, List.setIfInBounds_toArray, List.set_cons_zero, List.set_cons_succ]
        refine wpAnyH_take (i := 15) (oi := { dst := some 69, op := Op.convert 35 9 (Operand.tmp 68), type := 9, pos := "law.go:116", after := #[{ on := 14, ground := Ground.data }, { on := 11, ground := Ground.guard }], guard := some (11, false) }) (v := .string T4) rfl (by kernel_rfl) (by kernel_rfl) (by kernel_rfl) (fun _ _ _ h => h) (Or.inl ⟨by rfl, by intro W hSw; have := CV4.out W a4 c4 hSw.r4; go_simp⟩) hHeld ?_
        try simp only [Act.put, List.setIfInBounds_toArray, List.set_cons_zero, List.set_cons_succ]
        refine wpAnyH_take (i := 16) (oi := { dst := some 70, op := Op.binOp BinOp.eql 9 (Operand.tmp 67) (Operand.tmp 69) 9, type := 4, pos := "law.go:116", after := #[{ on := 13, ground := Ground.data }, { on := 15, ground := Ground.data }, { on := 11, ground := Ground.guard }], guard := some (11, false) }) (v := .bool x34) rfl (by kernel_rfl) (by kernel_rfl) (by kernel_rfl) (fun _ _ _ h => h) (Or.inl ⟨by rfl, by intro W hSw; have := q34.1; go_simp⟩) hHeld ?_
        try simp only [Act.put, List.setIfInBounds_toArray, List.set_cons_zero, List.set_cons_succ]
        refine wpAnyH_take (i := 17) (oi := { dst := some 71, op := Op.load 28 (Operand.tmp 6), type := 28, pos := "law.go:116", after := #[{ on := 11, ground := Ground.guard }], guard := some (11, false) }) (v := .agg X) rfl (by kernel_rfl) (by kernel_rfl) (by kernel_rfl) (fun _ _ _ h => h) (yieldsIf_row (by rfl) 28 (.tmp 6) rfl (w.heap.size + 2) rfl 28 X (0, 0) _ (fun _ h => h.came.x) Tryd.underlying28 rfl HSX.out) hHeld ?_
        try simp only [Act.put, List.setIfInBounds_toArray, List.set_cons_zero, List.set_cons_succ]
        refine wpAnyH_take (i := 18) (oi := { dst := some 72, op := Op.load 28 (Operand.tmp 7), type := 28, pos := "law.go:116", after := #[{ on := 11, ground := Ground.guard }], guard := some (11, false) }) (v := .agg Y) rfl (by kernel_rfl) (by kernel_rfl) (by kernel_rfl) (fun _ _ _ h => h) (yieldsIf_row (by rfl) 28 (.tmp 7) rfl (w.heap.size + 3) rfl 28 Y (0, 0) _ (fun _ h => h.came.y) Tryd.underlying28 rfl HSY.out) hHeld ?_
        try simp only [Act.put, List.setIfInBounds_toArray, List.set_cons_zero, List.set_cons_succ]
        refine wpAnyH_take (i := 19) (oi := { dst := some 73, op := Op.binOp BinOp.eql 28 (Operand.tmp 71) (Operand.tmp 72) 28, type := 4, pos := "law.go:116", after := #[{ on := 17, ground := Ground.data }, { on := 18, ground := Ground.data }, { on := 11, ground := Ground.guard }], guard := some (11, false) }) (v := .bool x34) rfl (by kernel_rfl) (by kernel_rfl) (by kernel_rfl) (fun _ _ _ h => h) (Or.inl ⟨by rfl, by intro W hSw; have := q34.2 W; go_simp⟩) hHeld ?_
        try simp only [Act.put, List.setIfInBounds_toArray, List.set_cons_zero, List.set_cons_succ]
        refine wpAnyH_take (i := 20) (oi := { dst := some 74, op := Op.binOp BinOp.eql 4 (Operand.tmp 70) (Operand.tmp 73) 4, type := 4, pos := "law.go:116", after := #[{ on := 16, ground := Ground.data }, { on := 19, ground := Ground.data }, { on := 11, ground := Ground.guard }], guard := some (11, false) }) (v := .bool true) rfl (by kernel_rfl) (by kernel_rfl) (by kernel_rfl) (fun _ _ _ h => h) (Or.inl ⟨by rfl, by intro W hSw; go_simp⟩) hHeld ?_
        try simp only [Act.put, List.setIfInBounds_toArray, List.set_cons_zero, List.set_cons_succ]
        refine wpAnyH_take (i := 21) (oi := { dst := some 75, op := Op.pick (Operand.tmp 65) (Operand.const (Value.bool true)) (Operand.tmp 74), type := 4, pos := "law.go:116", after := #[{ on := 11, ground := Ground.data }, { on := 20, ground := Ground.data }, { on := 4, ground := Ground.guard }], guard := some (4, true) }) (v := .bool true) rfl (by kernel_rfl) (by kernel_rfl) (by kernel_rfl) (fun _ _ _ h => h) (Or.inl ⟨by rfl, by intro W hSw; go_simp⟩) hHeld ?_
        try simp only [Act.put, List.setIfInBounds_toArray, List.set_cons_zero, List.set_cons_succ]
        refine wpAnyH_take (i := 22) (oi := { dst := some 76, op := Op.pick (Operand.tmp 58) (Operand.tmp 75) (Operand.const (Value.bool false)), type := 4, pos := "law.go:116", after := #[{ on := 4, ground := Ground.data }, { on := 21, ground := Ground.data }], guard := none }) (v := .bool true) rfl (by kernel_rfl) (by kernel_rfl) (by kernel_rfl) (fun _ _ _ h => h) (Or.inl ⟨by rfl, by intro W hSw; go_simp⟩) hHeld ?_
        try simp only [Act.put, List.setIfInBounds_toArray, List.set_cons_zero, List.set_cons_succ]
        refine wpAnyH_take (i := 23) (oi := { dst := some 8, op := Op.assign (Operand.tmp 76), type := 4, pos := "law.go:116", after := #[{ on := 22, ground := Ground.data }, { on := 11, ground := Ground.chain }, { on := 0, ground := Ground.phase }, { on := 1, ground := Ground.phase }, { on := 2, ground := Ground.phase }, { on := 3, ground := Ground.phase }, { on := 4, ground := Ground.phase }, { on := 5, ground := Ground.phase }, { on := 6, ground := Ground.phase }, { on := 7, ground := Ground.phase }, { on := 8, ground := Ground.phase }, { on := 9, ground := Ground.phase }, { on := 10, ground := Ground.phase }, { on := 11, ground := Ground.phase }, { on := 12, ground := Ground.phase }, { on := 13, ground := Ground.phase }, { on := 14, ground := Ground.phase }, { on := 15, ground := Ground.phase }, { on := 16, ground := Ground.phase }, { on := 17, ground := Ground.phase }, { on := 18, ground := Ground.phase }, { on := 19, ground := Ground.phase }, { on := 20, ground := Ground.phase }, { on := 21, ground := Ground.phase }, { on := 22, ground := Ground.phase }], guard := none }) (v := .bool true) rfl (by kernel_rfl) (by kernel_rfl) (by kernel_rfl) (fun _ _ _ h => h) (Or.inl ⟨by rfl, by intro W hSw; go_simp⟩) hHeld ?_
        try simp only [Act.put, List.setIfInBounds_toArray, List.set_cons_zero, List.set_cons_succ]
        refine wpAnyH_done (by kernel_rfl) ?_ _
        go_wp2_with fail
        go_ret
        exact ⟨rfl, hHeld.came.below⟩
      · clear Q34
        refine wp_region_held_drew (S := (Laid4 w A B X Y a1 a2 a3 a4 n1 n2 n3 n4 c1 c2 c3 c4 L1 L2 L3 L4)) (by kernel_rfl) (HL5.out.keep (Below.refl _ _).drew) (fun hHeld => ?_)
        refine wpAnyH_ready (rs := [0]) (by kernel_rfl) (by simp) ?_
        refine (AllReadyH.cons (o := { dst := some 54, op := Op.call { callee := Callee.value (Operand.func 15), args := #[], argTypes := #[] }, type := 4, pos := "law.go:116", after := #[], guard := none }) rfl (fun K hK => ?_) AllReadyH.nil)
        go_simp
        refine (LY.out _).mono ?_
        rintro e wc0 ⟨rfl, hb0⟩
        go_wp2_with fail
        refine hK.out _ _ (hHeld.keep hb0) (fun hHeld => ?_)
        clear hK K
        try simp only [Act.put, List.setIfInBounds_toArray, List.set_cons_zero, List.set_cons_succ]
        refine wpAnyH_take (i := 1) (oi := { dst := some 55, op := Op.move (Operand.tmp 54), type := 4, pos := "law.go:116", after := #[{ on := 0, ground := Ground.data }, { on := 0, ground := Ground.chain }], guard := none }) (v := .bool true) rfl (by kernel_rfl) (by kernel_rfl) (by kernel_rfl) (fun _ _ _ h => h) (Or.inl ⟨by rfl, by intro W hSw; go_simp⟩) hHeld ?_
        try simp only [Act.put, List.setIfInBounds_toArray, List.set_cons_zero, List.set_cons_succ]
        refine wpAnyH_ready (rs := [2]) (by kernel_rfl) (by simp) ?_
        refine (AllReadyH.cons (o := { dst := some 56, op := Op.call { callee := Callee.value (Operand.func 10), args := #[], argTypes := #[] }, type := 4, pos := "law.go:116", after := #[{ on := 1, ground := Ground.chain }, { on := 1, ground := Ground.guard }], guard := some (1, true) }) rfl (fun K hK => ?_) AllReadyH.nil)
        go_simp
        refine (SI.out _ hHeld.came.below).mono ?_
        rintro e wc2 ⟨rfl, hb2⟩
        go_wp2_with fail
        refine hK.out _ _ (hHeld.keep hb2) (fun hHeld => ?_)
        clear hK K
        try simp only [Act.put, List.setIfInBounds_toArray, List.set_cons_zero, List.set_cons_succ]
        refine wpAnyH_take (i := 3) (oi := { dst := some 57, op := Op.pick (Operand.tmp 55) (Operand.tmp 56) (Operand.const (Value.bool false)), type := 4, pos := "law.go:116", after := #[{ on := 1, ground := Ground.data }, { on := 2, ground := Ground.data }], guard := none }) (v := .bool true) rfl (by kernel_rfl) (by kernel_rfl) (by kernel_rfl) (fun _ _ _ h => h) (Or.inl ⟨by rfl, by intro W hSw; go_simp⟩) hHeld ?_
        try simp only [Act.put, List.setIfInBounds_toArray, List.set_cons_zero, List.set_cons_succ]
        refine wpAnyH_take (i := 4) (oi := { dst := some 58, op := Op.move (Operand.tmp 57), type := 4, pos := "law.go:116", after := #[{ on := 3, ground := Ground.data }, { on := 2, ground := Ground.chain }], guard := none }) (v := .bool true) rfl (by kernel_rfl) (by kernel_rfl) (by kernel_rfl) (fun _ _ _ h => h) (Or.inl ⟨by rfl, by intro W hSw; go_simp⟩) hHeld ?_
        try simp only [Act.put, List.setIfInBounds_toArray, List.set_cons_zero, List.set_cons_succ]
        refine wpAnyH_take (i := 5) (oi := { dst := some 59, op := Op.move (Operand.tmp 14), type := 29, pos := "law.go:116", after := #[{ on := 4, ground := Ground.guard }], guard := some (4, true) }) (v := .int .i64 0) rfl (by kernel_rfl) (by kernel_rfl) (by kernel_rfl) (fun _ _ _ h => h) (Or.inl ⟨by rfl, by intro W hSw; go_simp⟩) hHeld ?_
        try simp only [Act.put, List.setIfInBounds_toArray, List.set_cons_zero, List.set_cons_succ]
        refine wpAnyH_take (i := 6) (oi := { dst := some 60, op := Op.binOp BinOp.neq 29 (Operand.tmp 59) (Operand.const (Value.int IntKind.i64 0)) 29, type := 4, pos := "law.go:116", after := #[{ on := 5, ground := Ground.data }, { on := 4, ground := Ground.guard }], guard := some (4, true) }) (v := .bool false) rfl (by kernel_rfl) (by kernel_rfl) (by kernel_rfl) (fun _ _ _ h => h) (Or.inl ⟨by rfl, by intro W hSw; go_simp⟩) hHeld ?_
        try simp only [Act.put, List.setIfInBounds_toArray, List.set_cons_zero, List.set_cons_succ]
        refine wpAnyH_take (i := 7) (oi := { dst := some 61, op := Op.move (Operand.tmp 60), type := 4, pos := "law.go:116", after := #[{ on := 6, ground := Ground.data }, { on := 4, ground := Ground.chain }, { on := 4, ground := Ground.guard }], guard := some (4, true) }) (v := .bool false) rfl (by kernel_rfl) (by kernel_rfl) (by kernel_rfl) (fun _ _ _ h => h) (Or.inl ⟨by rfl, by intro W hSw; go_simp⟩) hHeld ?_
        try simp only [Act.put, List.setIfInBounds_toArray, List.set_cons_zero, List.set_cons_succ]
        refine wpAnyH_take (i := 8) (oi := { dst := some 62, op := Op.move (Operand.tmp 16), type := 29, pos := "law.go:116", after := #[{ on := 7, ground := Ground.guard }], guard := some (7, false) }) (v := .int .i64 70) rfl (by kernel_rfl) (by kernel_rfl) (by kernel_rfl) (fun _ _ _ h => h) (Or.inl ⟨by rfl, by intro W hSw; go_simp⟩) hHeld ?_
        try simp only [Act.put, List.setIfInBounds_toArray, List.set_cons_zero, List.set_cons_succ]
        refine wpAnyH_take (i := 9) (oi := { dst := some 63, op := Op.binOp BinOp.neq 29 (Operand.tmp 62) (Operand.const (Value.int IntKind.i64 0)) 29, type := 4, pos := "law.go:116", after := #[{ on := 8, ground := Ground.data }, { on := 7, ground := Ground.guard }], guard := some (7, false) }) (v := .bool true) rfl (by kernel_rfl) (by kernel_rfl) (by kernel_rfl) (fun _ _ _ h => h) (Or.inl ⟨by rfl, by intro W hSw; go_simp⟩) hHeld ?_
        try simp only [Act.put, List.setIfInBounds_toArray, List.set_cons_zero, List.set_cons_succ]
        refine wpAnyH_take (i := 10) (oi := { dst := some 64, op := Op.pick (Operand.tmp 61) (Operand.const (Value.bool true)) (Operand.tmp 63), type := 4, pos := "law.go:116", after := #[{ on := 7, ground := Ground.data }, { on := 9, ground := Ground.data }, { on := 4, ground := Ground.guard }], guard := some (4, true) }) (v := .bool true) rfl (by kernel_rfl) (by kernel_rfl) (by kernel_rfl) (fun _ _ _ h => h) (Or.inl ⟨by rfl, by intro W hSw; go_simp⟩) hHeld ?_
        try simp only [Act.put, List.setIfInBounds_toArray, List.set_cons_zero, List.set_cons_succ]
        refine wpAnyH_take (i := 11) (oi := { dst := some 65, op := Op.move (Operand.tmp 64), type := 4, pos := "law.go:116", after := #[{ on := 10, ground := Ground.data }, { on := 7, ground := Ground.chain }, { on := 4, ground := Ground.guard }], guard := some (4, true) }) (v := .bool true) rfl (by kernel_rfl) (by kernel_rfl) (by kernel_rfl) (fun _ _ _ h => h) (Or.inl ⟨by rfl, by intro W hSw; go_simp⟩) hHeld ?_
        try simp only [Act.put, List.setIfInBounds_toArray, List.set_cons_zero, List.set_cons_succ]
        refine wpAnyH_take (i := 12) (oi := { dst := some 66, op := Op.move (Operand.tmp 13), type := 35, pos := "law.go:116", after := #[{ on := 11, ground := Ground.guard }], guard := some (11, false) }) (v := undef) rfl (by kernel_rfl) (by kernel_rfl) (by kernel_rfl) (fun _ _ _ h => h) (Or.inr ⟨by rfl, rfl⟩) hHeld ?_
        try simp only [Act.put, List.setIfInBounds_toArray, List.set_cons_zero, List.set_cons_succ]
        refine wpAnyH_take (i := 13) (oi := { dst := some 67, op := Op.convert 35 9 (Operand.tmp 66), type := 9, pos := "law.go:116", after := #[{ on := 12, ground := Ground.data }, { on := 11, ground := Ground.guard }], guard := some (11, false) }) (v := undef) rfl (by kernel_rfl) (by kernel_rfl) (by kernel_rfl) (fun _ _ _ h => h) (Or.inr ⟨by rfl, rfl⟩) hHeld ?_
        try simp only [Act.put, List.setIfInBounds_toArray, List.set_cons_zero, List.set_cons_succ]
        refine wpAnyH_take (i := 14) (oi := { dst := some 68, op := Op.move (Operand.tmp 15), type := 35, pos := "law.go:116", after := #[{ on := 11, ground := Ground.guard }], guard := some (11, false) }) (v := undef) rfl (by kernel_rfl) (by kernel_rfl) (by kernel_rfl) (fun _ _ _ h => h) (Or.inr ⟨by rfl, rfl⟩) hHeld ?_
        try simp only [Act.put, List.setIfInBounds_toArray, List.set_cons_zero, List.set_cons_succ]
        refine wpAnyH_take (i := 15) (oi := { dst := some 69, op := Op.convert 35 9 (Operand.tmp 68), type := 9, pos := "law.go:116", after := #[{ on := 14, ground := Ground.data }, { on := 11, ground := Ground.guard }], guard := some (11, false) }) (v := undef) rfl (by kernel_rfl) (by kernel_rfl) (by kernel_rfl) (fun _ _ _ h => h) (Or.inr ⟨by rfl, rfl⟩) hHeld ?_
        try simp only [Act.put, List.setIfInBounds_toArray, List.set_cons_zero, List.set_cons_succ]
        refine wpAnyH_take (i := 16) (oi := { dst := some 70, op := Op.binOp BinOp.eql 9 (Operand.tmp 67) (Operand.tmp 69) 9, type := 4, pos := "law.go:116", after := #[{ on := 13, ground := Ground.data }, { on := 15, ground := Ground.data }, { on := 11, ground := Ground.guard }], guard := some (11, false) }) (v := undef) rfl (by kernel_rfl) (by kernel_rfl) (by kernel_rfl) (fun _ _ _ h => h) (Or.inr ⟨by rfl, rfl⟩) hHeld ?_
        try simp only [Act.put, List.setIfInBounds_toArray, List.set_cons_zero, List.set_cons_succ]
        refine wpAnyH_take (i := 17) (oi := { dst := some 71, op := Op.load 28 (Operand.tmp 6), type := 28, pos := "law.go:116", after := #[{ on := 11, ground := Ground.guard }], guard := some (11, false) }) (v := undef) rfl (by kernel_rfl) (by kernel_rfl) (by kernel_rfl) (fun _ _ _ h => h) (Or.inr ⟨by rfl, rfl⟩) hHeld ?_
        try simp only [Act.put, List.setIfInBounds_toArray, List.set_cons_zero, List.set_cons_succ]
        refine wpAnyH_take (i := 18) (oi := { dst := some 72, op := Op.load 28 (Operand.tmp 7), type := 28, pos := "law.go:116", after := #[{ on := 11, ground := Ground.guard }], guard := some (11, false) }) (v := undef) rfl (by kernel_rfl) (by kernel_rfl) (by kernel_rfl) (fun _ _ _ h => h) (Or.inr ⟨by rfl, rfl⟩) hHeld ?_
        try simp only [Act.put, List.setIfInBounds_toArray, List.set_cons_zero, List.set_cons_succ]
        refine wpAnyH_take (i := 19) (oi := { dst := some 73, op := Op.binOp BinOp.eql 28 (Operand.tmp 71) (Operand.tmp 72) 28, type := 4, pos := "law.go:116", after := #[{ on := 17, ground := Ground.data }, { on := 18, ground := Ground.data }, { on := 11, ground := Ground.guard }], guard := some (11, false) }) (v := undef) rfl (by kernel_rfl) (by kernel_rfl) (by kernel_rfl) (fun _ _ _ h => h) (Or.inr ⟨by rfl, rfl⟩) hHeld ?_
        try simp only [Act.put, List.setIfInBounds_toArray, List.set_cons_zero, List.set_cons_succ]
        refine wpAnyH_take (i := 20) (oi := { dst := some 74, op := Op.binOp BinOp.eql 4 (Operand.tmp 70) (Operand.tmp 73) 4, type := 4, pos := "law.go:116", after := #[{ on := 16, ground := Ground.data }, { on := 19, ground := Ground.data }, { on := 11, ground := Ground.guard }], guard := some (11, false) }) (v := undef) rfl (by kernel_rfl) (by kernel_rfl) (by kernel_rfl) (fun _ _ _ h => h) (Or.inr ⟨by rfl, rfl⟩) hHeld ?_
        try simp only [Act.put, List.setIfInBounds_toArray, List.set_cons_zero, List.set_cons_succ]
        refine wpAnyH_take (i := 21) (oi := { dst := some 75, op := Op.pick (Operand.tmp 65) (Operand.const (Value.bool true)) (Operand.tmp 74), type := 4, pos := "law.go:116", after := #[{ on := 11, ground := Ground.data }, { on := 20, ground := Ground.data }, { on := 4, ground := Ground.guard }], guard := some (4, true) }) (v := .bool true) rfl (by kernel_rfl) (by kernel_rfl) (by kernel_rfl) (fun _ _ _ h => h) (Or.inl ⟨by rfl, by intro W hSw; go_simp⟩) hHeld ?_
        try simp only [Act.put, List.setIfInBounds_toArray, List.set_cons_zero, List.set_cons_succ]
        refine wpAnyH_take (i := 22) (oi := { dst := some 76, op := Op.pick (Operand.tmp 58) (Operand.tmp 75) (Operand.const (Value.bool false)), type := 4, pos := "law.go:116", after := #[{ on := 4, ground := Ground.data }, { on := 21, ground := Ground.data }], guard := none }) (v := .bool true) rfl (by kernel_rfl) (by kernel_rfl) (by kernel_rfl) (fun _ _ _ h => h) (Or.inl ⟨by rfl, by intro W hSw; go_simp⟩) hHeld ?_
        try simp only [Act.put, List.setIfInBounds_toArray, List.set_cons_zero, List.set_cons_succ]
        refine wpAnyH_take (i := 23) (oi := { dst := some 8, op := Op.assign (Operand.tmp 76), type := 4, pos := "law.go:116", after := #[{ on := 22, ground := Ground.data }, { on := 11, ground := Ground.chain }, { on := 0, ground := Ground.phase }, { on := 1, ground := Ground.phase }, { on := 2, ground := Ground.phase }, { on := 3, ground := Ground.phase }, { on := 4, ground := Ground.phase }, { on := 5, ground := Ground.phase }, { on := 6, ground := Ground.phase }, { on := 7, ground := Ground.phase }, { on := 8, ground := Ground.phase }, { on := 9, ground := Ground.phase }, { on := 10, ground := Ground.phase }, { on := 11, ground := Ground.phase }, { on := 12, ground := Ground.phase }, { on := 13, ground := Ground.phase }, { on := 14, ground := Ground.phase }, { on := 15, ground := Ground.phase }, { on := 16, ground := Ground.phase }, { on := 17, ground := Ground.phase }, { on := 18, ground := Ground.phase }, { on := 19, ground := Ground.phase }, { on := 20, ground := Ground.phase }, { on := 21, ground := Ground.phase }, { on := 22, ground := Ground.phase }], guard := none }) (v := .bool true) rfl (by kernel_rfl) (by kernel_rfl) (by kernel_rfl) (fun _ _ _ h => h) (Or.inl ⟨by rfl, by intro W hSw; go_simp⟩) hHeld ?_
        try simp only [Act.put, List.setIfInBounds_toArray, List.set_cons_zero, List.set_cons_succ]
        refine wpAnyH_done (by kernel_rfl) ?_ _
        go_wp2_with fail
        go_ret
        exact ⟨rfl, hHeld.came.below⟩
    · clear Q34 hJ0
      refine wp_region_held_drew (S := (Laid4 w A B X Y a1 a2 a3 a4 n1 n2 n3 n4 c1 c2 c3 c4 L1 L2 L3 L4)) (by kernel_rfl) (HL5.out.keep (Below.refl _ _).drew) (fun hHeld => ?_)
      refine wpAnyH_ready (rs := [0]) (by kernel_rfl) (by simp) ?_
      refine (AllReadyH.cons (o := { dst := some 54, op := Op.call { callee := Callee.value (Operand.func 15), args := #[], argTypes := #[] }, type := 4, pos := "law.go:116", after := #[], guard := none }) rfl (fun K hK => ?_) AllReadyH.nil)
      go_simp
      refine (LY.out _).mono ?_
      rintro e wc0 ⟨rfl, hb0⟩
      go_wp2_with fail
      refine hK.out _ _ (hHeld.keep hb0) (fun hHeld => ?_)
      clear hK K
      try simp only [Act.put, List.setIfInBounds_toArray, List.set_cons_zero, List.set_cons_succ]
      refine wpAnyH_take (i := 1) (oi := { dst := some 55, op := Op.move (Operand.tmp 54), type := 4, pos := "law.go:116", after := #[{ on := 0, ground := Ground.data }, { on := 0, ground := Ground.chain }], guard := none }) (v := .bool true) rfl (by kernel_rfl) (by kernel_rfl) (by kernel_rfl) (fun _ _ _ h => h) (Or.inl ⟨by rfl, by intro W hSw; go_simp⟩) hHeld ?_
      try simp only [Act.put, List.setIfInBounds_toArray, List.set_cons_zero, List.set_cons_succ]
      refine wpAnyH_ready (rs := [2]) (by kernel_rfl) (by simp) ?_
      refine (AllReadyH.cons (o := { dst := some 56, op := Op.call { callee := Callee.value (Operand.func 10), args := #[], argTypes := #[] }, type := 4, pos := "law.go:116", after := #[{ on := 1, ground := Ground.chain }, { on := 1, ground := Ground.guard }], guard := some (1, true) }) rfl (fun K hK => ?_) AllReadyH.nil)
      go_simp
      refine (SI.out _ hHeld.came.below).mono ?_
      rintro e wc2 ⟨rfl, hb2⟩
      go_wp2_with fail
      refine hK.out _ _ (hHeld.keep hb2) (fun hHeld => ?_)
      clear hK K
      try simp only [Act.put, List.setIfInBounds_toArray, List.set_cons_zero, List.set_cons_succ]
      refine wpAnyH_take (i := 3) (oi := { dst := some 57, op := Op.pick (Operand.tmp 55) (Operand.tmp 56) (Operand.const (Value.bool false)), type := 4, pos := "law.go:116", after := #[{ on := 1, ground := Ground.data }, { on := 2, ground := Ground.data }], guard := none }) (v := .bool true) rfl (by kernel_rfl) (by kernel_rfl) (by kernel_rfl) (fun _ _ _ h => h) (Or.inl ⟨by rfl, by intro W hSw; go_simp⟩) hHeld ?_
      try simp only [Act.put, List.setIfInBounds_toArray, List.set_cons_zero, List.set_cons_succ]
      refine wpAnyH_take (i := 4) (oi := { dst := some 58, op := Op.move (Operand.tmp 57), type := 4, pos := "law.go:116", after := #[{ on := 3, ground := Ground.data }, { on := 2, ground := Ground.chain }], guard := none }) (v := .bool true) rfl (by kernel_rfl) (by kernel_rfl) (by kernel_rfl) (fun _ _ _ h => h) (Or.inl ⟨by rfl, by intro W hSw; go_simp⟩) hHeld ?_
      try simp only [Act.put, List.setIfInBounds_toArray, List.set_cons_zero, List.set_cons_succ]
      refine wpAnyH_take (i := 5) (oi := { dst := some 59, op := Op.move (Operand.tmp 14), type := 29, pos := "law.go:116", after := #[{ on := 4, ground := Ground.guard }], guard := some (4, true) }) (v := .int .i64 70) rfl (by kernel_rfl) (by kernel_rfl) (by kernel_rfl) (fun _ _ _ h => h) (Or.inl ⟨by rfl, by intro W hSw; go_simp⟩) hHeld ?_
      try simp only [Act.put, List.setIfInBounds_toArray, List.set_cons_zero, List.set_cons_succ]
      refine wpAnyH_take (i := 6) (oi := { dst := some 60, op := Op.binOp BinOp.neq 29 (Operand.tmp 59) (Operand.const (Value.int IntKind.i64 0)) 29, type := 4, pos := "law.go:116", after := #[{ on := 5, ground := Ground.data }, { on := 4, ground := Ground.guard }], guard := some (4, true) }) (v := .bool true) rfl (by kernel_rfl) (by kernel_rfl) (by kernel_rfl) (fun _ _ _ h => h) (Or.inl ⟨by rfl, by intro W hSw; go_simp⟩) hHeld ?_
      try simp only [Act.put, List.setIfInBounds_toArray, List.set_cons_zero, List.set_cons_succ]
      refine wpAnyH_take (i := 7) (oi := { dst := some 61, op := Op.move (Operand.tmp 60), type := 4, pos := "law.go:116", after := #[{ on := 6, ground := Ground.data }, { on := 4, ground := Ground.chain }, { on := 4, ground := Ground.guard }], guard := some (4, true) }) (v := .bool true) rfl (by kernel_rfl) (by kernel_rfl) (by kernel_rfl) (fun _ _ _ h => h) (Or.inl ⟨by rfl, by intro W hSw; go_simp⟩) hHeld ?_
      try simp only [Act.put, List.setIfInBounds_toArray, List.set_cons_zero, List.set_cons_succ]
      refine wpAnyH_take (i := 8) (oi := { dst := some 62, op := Op.move (Operand.tmp 16), type := 29, pos := "law.go:116", after := #[{ on := 7, ground := Ground.guard }], guard := some (7, false) }) (v := undef) rfl (by kernel_rfl) (by kernel_rfl) (by kernel_rfl) (fun _ _ _ h => h) (Or.inr ⟨by rfl, rfl⟩) hHeld ?_
      try simp only [Act.put, List.setIfInBounds_toArray, List.set_cons_zero, List.set_cons_succ]
      refine wpAnyH_take (i := 9) (oi := { dst := some 63, op := Op.binOp BinOp.neq 29 (Operand.tmp 62) (Operand.const (Value.int IntKind.i64 0)) 29, type := 4, pos := "law.go:116", after := #[{ on := 8, ground := Ground.data }, { on := 7, ground := Ground.guard }], guard := some (7, false) }) (v := undef) rfl (by kernel_rfl) (by kernel_rfl) (by kernel_rfl) (fun _ _ _ h => h) (Or.inr ⟨by rfl, rfl⟩) hHeld ?_
      try simp only [Act.put, List.setIfInBounds_toArray, List.set_cons_zero, List.set_cons_succ]
      refine wpAnyH_take (i := 10) (oi := { dst := some 64, op := Op.pick (Operand.tmp 61) (Operand.const (Value.bool true)) (Operand.tmp 63), type := 4, pos := "law.go:116", after := #[{ on := 7, ground := Ground.data }, { on := 9, ground := Ground.data }, { on := 4, ground := Ground.guard }], guard := some (4, true) }) (v := .bool true) rfl (by kernel_rfl) (by kernel_rfl) (by kernel_rfl) (fun _ _ _ h => h) (Or.inl ⟨by rfl, by intro W hSw; go_simp⟩) hHeld ?_
      try simp only [Act.put, List.setIfInBounds_toArray, List.set_cons_zero, List.set_cons_succ]
      refine wpAnyH_take (i := 11) (oi := { dst := some 65, op := Op.move (Operand.tmp 64), type := 4, pos := "law.go:116", after := #[{ on := 10, ground := Ground.data }, { on := 7, ground := Ground.chain }, { on := 4, ground := Ground.guard }], guard := some (4, true) }) (v := .bool true) rfl (by kernel_rfl) (by kernel_rfl) (by kernel_rfl) (fun _ _ _ h => h) (Or.inl ⟨by rfl, by intro W hSw; go_simp⟩) hHeld ?_
      try simp only [Act.put, List.setIfInBounds_toArray, List.set_cons_zero, List.set_cons_succ]
      refine wpAnyH_take (i := 12) (oi := { dst := some 66, op := Op.move (Operand.tmp 13), type := 35, pos := "law.go:116", after := #[{ on := 11, ground := Ground.guard }], guard := some (11, false) }) (v := undef) rfl (by kernel_rfl) (by kernel_rfl) (by kernel_rfl) (fun _ _ _ h => h) (Or.inr ⟨by rfl, rfl⟩) hHeld ?_
      try simp only [Act.put, List.setIfInBounds_toArray, List.set_cons_zero, List.set_cons_succ]
      refine wpAnyH_take (i := 13) (oi := { dst := some 67, op := Op.convert 35 9 (Operand.tmp 66), type := 9, pos := "law.go:116", after := #[{ on := 12, ground := Ground.data }, { on := 11, ground := Ground.guard }], guard := some (11, false) }) (v := undef) rfl (by kernel_rfl) (by kernel_rfl) (by kernel_rfl) (fun _ _ _ h => h) (Or.inr ⟨by rfl, rfl⟩) hHeld ?_
      try simp only [Act.put, List.setIfInBounds_toArray, List.set_cons_zero, List.set_cons_succ]
      refine wpAnyH_take (i := 14) (oi := { dst := some 68, op := Op.move (Operand.tmp 15), type := 35, pos := "law.go:116", after := #[{ on := 11, ground := Ground.guard }], guard := some (11, false) }) (v := undef) rfl (by kernel_rfl) (by kernel_rfl) (by kernel_rfl) (fun _ _ _ h => h) (Or.inr ⟨by rfl, rfl⟩) hHeld ?_
      try simp only [Act.put, List.setIfInBounds_toArray, List.set_cons_zero, List.set_cons_succ]
      refine wpAnyH_take (i := 15) (oi := { dst := some 69, op := Op.convert 35 9 (Operand.tmp 68), type := 9, pos := "law.go:116", after := #[{ on := 14, ground := Ground.data }, { on := 11, ground := Ground.guard }], guard := some (11, false) }) (v := undef) rfl (by kernel_rfl) (by kernel_rfl) (by kernel_rfl) (fun _ _ _ h => h) (Or.inr ⟨by rfl, rfl⟩) hHeld ?_
      try simp only [Act.put, List.setIfInBounds_toArray, List.set_cons_zero, List.set_cons_succ]
      refine wpAnyH_take (i := 16) (oi := { dst := some 70, op := Op.binOp BinOp.eql 9 (Operand.tmp 67) (Operand.tmp 69) 9, type := 4, pos := "law.go:116", after := #[{ on := 13, ground := Ground.data }, { on := 15, ground := Ground.data }, { on := 11, ground := Ground.guard }], guard := some (11, false) }) (v := undef) rfl (by kernel_rfl) (by kernel_rfl) (by kernel_rfl) (fun _ _ _ h => h) (Or.inr ⟨by rfl, rfl⟩) hHeld ?_
      try simp only [Act.put, List.setIfInBounds_toArray, List.set_cons_zero, List.set_cons_succ]
      refine wpAnyH_take (i := 17) (oi := { dst := some 71, op := Op.load 28 (Operand.tmp 6), type := 28, pos := "law.go:116", after := #[{ on := 11, ground := Ground.guard }], guard := some (11, false) }) (v := undef) rfl (by kernel_rfl) (by kernel_rfl) (by kernel_rfl) (fun _ _ _ h => h) (Or.inr ⟨by rfl, rfl⟩) hHeld ?_
      try simp only [Act.put, List.setIfInBounds_toArray, List.set_cons_zero, List.set_cons_succ]
      refine wpAnyH_take (i := 18) (oi := { dst := some 72, op := Op.load 28 (Operand.tmp 7), type := 28, pos := "law.go:116", after := #[{ on := 11, ground := Ground.guard }], guard := some (11, false) }) (v := undef) rfl (by kernel_rfl) (by kernel_rfl) (by kernel_rfl) (fun _ _ _ h => h) (Or.inr ⟨by rfl, rfl⟩) hHeld ?_
      try simp only [Act.put, List.setIfInBounds_toArray, List.set_cons_zero, List.set_cons_succ]
      refine wpAnyH_take (i := 19) (oi := { dst := some 73, op := Op.binOp BinOp.eql 28 (Operand.tmp 71) (Operand.tmp 72) 28, type := 4, pos := "law.go:116", after := #[{ on := 17, ground := Ground.data }, { on := 18, ground := Ground.data }, { on := 11, ground := Ground.guard }], guard := some (11, false) }) (v := undef) rfl (by kernel_rfl) (by kernel_rfl) (by kernel_rfl) (fun _ _ _ h => h) (Or.inr ⟨by rfl, rfl⟩) hHeld ?_
      try simp only [Act.put, List.setIfInBounds_toArray, List.set_cons_zero, List.set_cons_succ]
      refine wpAnyH_take (i := 20) (oi := { dst := some 74, op := Op.binOp BinOp.eql 4 (Operand.tmp 70) (Operand.tmp 73) 4, type := 4, pos := "law.go:116", after := #[{ on := 16, ground := Ground.data }, { on := 19, ground := Ground.data }, { on := 11, ground := Ground.guard }], guard := some (11, false) }) (v := undef) rfl (by kernel_rfl) (by kernel_rfl) (by kernel_rfl) (fun _ _ _ h => h) (Or.inr ⟨by rfl, rfl⟩) hHeld ?_
      try simp only [Act.put, List.setIfInBounds_toArray, List.set_cons_zero, List.set_cons_succ]
      refine wpAnyH_take (i := 21) (oi := { dst := some 75, op := Op.pick (Operand.tmp 65) (Operand.const (Value.bool true)) (Operand.tmp 74), type := 4, pos := "law.go:116", after := #[{ on := 11, ground := Ground.data }, { on := 20, ground := Ground.data }, { on := 4, ground := Ground.guard }], guard := some (4, true) }) (v := .bool true) rfl (by kernel_rfl) (by kernel_rfl) (by kernel_rfl) (fun _ _ _ h => h) (Or.inl ⟨by rfl, by intro W hSw; go_simp⟩) hHeld ?_
      try simp only [Act.put, List.setIfInBounds_toArray, List.set_cons_zero, List.set_cons_succ]
      refine wpAnyH_take (i := 22) (oi := { dst := some 76, op := Op.pick (Operand.tmp 58) (Operand.tmp 75) (Operand.const (Value.bool false)), type := 4, pos := "law.go:116", after := #[{ on := 4, ground := Ground.data }, { on := 21, ground := Ground.data }], guard := none }) (v := .bool true) rfl (by kernel_rfl) (by kernel_rfl) (by kernel_rfl) (fun _ _ _ h => h) (Or.inl ⟨by rfl, by intro W hSw; go_simp⟩) hHeld ?_
      try simp only [Act.put, List.setIfInBounds_toArray, List.set_cons_zero, List.set_cons_succ]
      refine wpAnyH_take (i := 23) (oi := { dst := some 8, op := Op.assign (Operand.tmp 76), type := 4, pos := "law.go:116", after := #[{ on := 22, ground := Ground.data }, { on := 11, ground := Ground.chain }, { on := 0, ground := Ground.phase }, { on := 1, ground := Ground.phase }, { on := 2, ground := Ground.phase }, { on := 3, ground := Ground.phase }, { on := 4, ground := Ground.phase }, { on := 5, ground := Ground.phase }, { on := 6, ground := Ground.phase }, { on := 7, ground := Ground.phase }, { on := 8, ground := Ground.phase }, { on := 9, ground := Ground.phase }, { on := 10, ground := Ground.phase }, { on := 11, ground := Ground.phase }, { on := 12, ground := Ground.phase }, { on := 13, ground := Ground.phase }, { on := 14, ground := Ground.phase }, { on := 15, ground := Ground.phase }, { on := 16, ground := Ground.phase }, { on := 17, ground := Ground.phase }, { on := 18, ground := Ground.phase }, { on := 19, ground := Ground.phase }, { on := 20, ground := Ground.phase }, { on := 21, ground := Ground.phase }, { on := 22, ground := Ground.phase }], guard := none }) (v := .bool true) rfl (by kernel_rfl) (by kernel_rfl) (by kernel_rfl) (fun _ _ _ h => h) (Or.inl ⟨by rfl, by intro W hSw; go_simp⟩) hHeld ?_
      try simp only [Act.put, List.setIfInBounds_toArray, List.set_cons_zero, List.set_cons_succ]
      refine wpAnyH_done (by kernel_rfl) ?_ _
      go_wp2_with fail
      go_ret
      exact ⟨rfl, hHeld.came.below⟩
theorem headApart_in (ck : HeadC) (z0 z1 : HdT) (z2 z3 : SgT) (w : World) (w0 : InH z0) (w1 : InH z1) (w2 : InS z2) (w3 : InS z3) (hT : TabH w) :
    Calls Tryd.prog 7 #[headV z0, headV z1, signV z2, signV z3] w fun e w' => e = .returned (.bool true) ∧ Below w.heap.size w w' :=
  headApart_of ck z0 z1 z2 z3 w _ _ _ _ (hidk rfl) (hidk rfl) (hidk rfl) (hidk rfl) w0 w1 w2 w3 hT
end Go.Proofs.YtdnhnjimhbbabaaDoor

/- A table of constants that is laid as the program's text lays it can be read; a digest that came in is 32 bytes. -/
namespace Go.Proofs.YtdnhnjimhbbabaaDoor
open Go.RowKit Sums
set_option maxRecDepth 100000
theorem table_reads {H : Type} {enc : TypeId × Value → H} {W : World} {sp : Nat → Bool} {held : Bool} {n : String} {g fuel base : Nat} {cs : Array Value} {p : List MemPlace} (hg : Tryd.prog.globalNamed n = some g) (hv : W.var? Tryd.prog n = some cs)
    (hd : DataW.trod enc Tryd.prog W base sp held fuel 121 cs.toList = some (.agg (kT.map fun z => .lit (.int .u32 z)), p)) : Table g W := by
  obtain ⟨xs, m, rfl, hx, hl, hxl, hall⟩ := DataW.trod_array Tryd.underlying121 hd
  have h1 : Tryd.prog.cellsOf 106 = 1 := by kernel_rfl
  have h64 : Tryd.prog.cellsOf 121 = 64 := by kernel_rfl
  rw [h64] at hl
  rw [h1] at hall
  simp only [Nat.mul_one] at hall
  simp only [Prod.mk.injEq, DataW.agg.injEq] at hx
  have cell : ∀ k, k < 64 → W.cell? ⟨g, k, none⟩ = some (.int .u32 (kT.getD k 0)) := by
    intro k hk
    have hkT : k < kT.length := hk
    have hk' := hall k hk
    rw [List.getElem?_eq_getElem (by omega)] at hk'
    obtain ⟨z, hz, he, _⟩ := DataW.trod_int Tryd.underlying106 hk'
    have e : (cs.toList.drop k).take 1 = [cs.toList[k]'(by omega)] := by
      rw [List.drop_eq_getElem_cons (by omega)]; rfl
    rw [e] at hz
    simp only [List.cons.injEq, and_true] at hz
    have hk2 : (kT.map fun z => (DataW.lit (.int .u32 z) : DataW H))[k]? = (xs.map (·.1))[k]? := by rw [hx.1]
    rw [List.getElem?_map, List.getElem?_map, List.getElem?_eq_getElem (show k < xs.length by omega), List.getElem?_eq_getElem hkT] at hk2
    simp only [Option.map_some, Option.some.injEq] at hk2
    rw [he] at hk2
    have hzk : kT[k]'hkT = z := (Lit.int.inj (DataW.lit.inj hk2)).2
    rw [World.var?_cell hg hv k]
    have : cs[k]? = some (cs.toList[k]'(by omega)) := by
      rw [← Array.getElem?_toList, List.getElem?_eq_getElem (by omega)]
    rw [this, hz, ← hzk]
    simp [List.getD, List.getElem?_eq_getElem hkT]
  refine ⟨World.block_lt_of_cell? _ _ (cell 0 (by decide)), cell⟩
end Go.Proofs.YtdnhnjimhbbabaaDoor

/- What HeadTurned says of any input, over what the calls of package head answer. -/
namespace Go.Proofs.YtdnhnjimhbbabaaDoor
open Go.RowKit Sums Nums
set_option linter.unusedVariables false
set_option linter.unusedSimpArgs false
set_option maxRecDepth 100000
/-- A row stored in the midst of a variable. -/
theorem wpList_set_mid {P : Program} {ops : Array Oper} {rest : List Oper} {o : Oper} {a : Act} {w : World} {Q : Exit → Act → World → Prop} (hgd : o.guard = none) (ty : TypeId) (x y : Operand) (ho : o.op = .store ty x y)
    (g k : Nat) (D : Array Value) (hx : a.eval x = .pointer (some ⟨g, k, none⟩)) (hy : a.eval y = .agg D) (t' : TypeId) (Z : Array Value) (hg : w.heap[g]? = some (.cells Z t' (0, 0))) (hk : k + D.size ≤ Z.size) (hi : (P.info? ty).map (·.size) = some D.size) (h1 : D.all (·.oneCell') = true)
    (h : ∀ w', Hid (Wrote g (Z.toList.take k ++ D.toList ++ Z.toList.drop (k + D.size)).toArray t' w w') → wpList P ops Q rest (a.put o.dst undef) w') : wpList P ops Q (o :: rest) a w := by
  refine wpList_plain hgd fun K hK => ?_
  have hkk := hK _ _ (h _ (wrote_row hg))
  have h1' : ∀ v ∈ D.toList, v.oneCell' = true := by
    intro v hv
    rw [Array.all_eq_true'] at h1
    exact h1 v (by simpa using hv)
  have hst := run_storeCells_at P g k t' D.toList 0 Z w hg (by simpa using hk) h1'
  cases hq : P.info? ty with
  | none => simp [hq] at hi
  | some i =>
    have hs : i.size = D.size := by simpa [hq] using hi
    unfold Oper.wp execOp
    simp only [ho, hx, hy, Instr.storeAt, Instr.sureAddr, Sem.run_bind, Sem.run_pure, Result.andThen_ok]
    simp only [Nat.add_zero, Nat.zero_add] at hst
    simp [storeVar, sizeOf, typeInfo, hq, Value.cells, hs, hst]
    simp only [List.append_assoc] at hkk ⊢
    exact hkk
/-- A key and two heads that came in. -/
def CameT (w W : World) (M C X : Array Value) : Prop := Below w.heap.size w W ∧ W.heap[w.heap.size]? = some (.cells M 23 (0, 0)) ∧ W.heap[w.heap.size + 1]? = some (.cells C 26 (0, 0)) ∧ W.heap[w.heap.size + 2]? = some (.cells X 26 (0, 0))
theorem CameT.keep {w W W' : World} {M C X : Array Value} (h : CameT w W M C X) (hb : Below W.heap.size W W') : CameT w W' M C X :=
  ⟨h.1.trans (hb.mono h.1.size), (hb.block _ (heap_lt h.2.1)).trans h.2.1, (hb.block _ (heap_lt h.2.2.1)).trans h.2.2.1, (hb.block _ (heap_lt h.2.2.2)).trans h.2.2.2⟩
end Go.Proofs.YtdnhnjimhbbabaaDoor

/- What a reader's own calls answer: what is left of a row, field by field. -/
namespace Go.Proofs.YtdnhnjimhbbabaaDoor
open Go.RowKit Sums Nums
set_option linter.unusedVariables false
set_option linter.unusedSimpArgs false
set_option maxRecDepth 100000
theorem grownBy_set0 (W : World) (b : Nat) (v : Value) : W.grownBy (W.setCell ⟨b, 0, none⟩ v) (some b) :=
  ⟨rfl, rfl, rfl, by simp [World.setCell], fun k _ hk => Below.heap_setCell W ⟨b, 0, none⟩ v k (fun e => hk (by rw [e]))⟩
/-- The fields that are left of a row, by a reader's variable g; they lie in a block from lo on, below g. -/
def Rd (W : World) (lo g : Nat) (fs : List (Int × ByteArray)) : Prop :=
  ∃ a cap, W.heap[g]? = some (.cells #[.slice a fs.length cap] 65 (0, 0)) ∧ lo ≤ g ∧ fs.length ≤ cap ∧ cap ≤ 9223372036854775807 ∧ (∀ f ∈ fs, f.2.size ≤ maxLen) ∧
    (fs = [] ∨ ∃ b off, a = some ⟨b, off, none⟩ ∧ lo ≤ b ∧ b < g ∧ ∀ (i : Nat) (h : i < fs.length), W.cell? ⟨b, off + i * 2, none⟩ = some (.int .i64 fs[i].1) ∧ W.cell? ⟨b, off + i * 2 + 1, none⟩ = some (.string fs[i].2))
theorem Rd.keep {W W' : World} {lo g : Nat} {fs : List (Int × ByteArray)} (h : Rd W lo g fs) (hb : ∀ k, lo ≤ k → k ≤ g → W'.heap[k]? = W.heap[k]?) : Rd W' lo g fs := by
  obtain ⟨a, cap, h1, h2, h3, h4, h5, h6⟩ := h
  refine ⟨a, cap, (hb g h2 (Nat.le_refl _)).trans h1, h2, h3, h4, h5, ?_⟩
  rcases h6 with h6 | ⟨b, off, e, hl, hg, hc⟩
  · exact .inl h6
  · have hk := hb b hl (by omega)
    exact .inr ⟨b, off, e, hl, hg, fun i hi => ⟨(World.cell?_of_block (a := ⟨b, off + i * 2, none⟩) hk).trans (hc i hi).1, (World.cell?_of_block (a := ⟨b, off + i * 2 + 1, none⟩) hk).trans (hc i hi).2⟩⟩
theorem Rd.lt {W : World} {lo g : Nat} {fs : List (Int × ByteArray)} (h : Rd W lo g fs) : g < W.heap.size := by
  obtain ⟨a, cap, h1, _⟩ := h
  exact heap_lt h1
theorem Rd.below {W W' : World} {lo g : Nat} {fs : List (Int × ByteArray)} (h : Rd W lo g fs) (hb : Below W.heap.size W W') : Rd W' lo g fs :=
  h.keep fun k _ hk => hb.block k (Nat.lt_of_le_of_lt hk h.lt)
theorem Rd.wrote {W W' : World} {lo g k : Nat} {D : Array Value} {t : TypeId} {fs : List (Int × ByteArray)} (h : Rd W lo g fs) (hw : Wrote k D t W W') (hk : k < lo ∨ g < k) : Rd W' lo g fs :=
  h.keep fun i hi hg => hw.other i (by omega)
def tkD (tag : Int) (fs : List (Int × ByteArray)) : ByteArray := match fs with
  | f :: _ => if f.1 = tag then f.2 else ⟨#[]⟩
  | [] => ⟨#[]⟩
def tkB (tag : Int) (fs : List (Int × ByteArray)) : Bool := match fs with
  | f :: _ => decide (f.1 = tag)
  | [] => false
def tkR (tag : Int) (fs : List (Int × ByteArray)) : List (Int × ByteArray) := match fs with
  | f :: r => if f.1 = tag then r else f :: r
  | [] => []
theorem ended_any (W : World) (lo g : Nat) (fs : List (Int × ByteArray)) (h : Rd W lo g fs) (x : Bool) (hx : x = decide (fs.length = 0)) :
    Calls Tryd.prog 46 #[.pointer (some ⟨g, 0, none⟩)] W fun e w' => e = .returned (.bool x) ∧ w' = W := by
  obtain ⟨a, cap, h1, h2, h3, h4, h5, h6⟩ := h
  have hc : W.cell? ⟨g, 0, none⟩ = some (.slice a fs.length cap) := by rw [cell_of_row W g 0 _ _ (0, 0) h1]; rfl
  have hm : fs.length ≤ 9223372036854775807 := by omega
  subst hx
  cases fs with
  | nil =>
    clear h1 h2 h3 h5 h6
    simp only [List.length_nil] at hc
    go_enter Tryd.func46, Tryd.ntmps46
    go_wp2
    go_ret
    exact ⟨rfl, rfl⟩
  | cons f r =>
    clear h1 h2 h3 h5 h6
    simp only [List.length_cons] at hc hm
    go_enter Tryd.func46, Tryd.ntmps46
    go_wp2
    go_ret
    exact ⟨by simp; omega, rfl⟩
set_option maxHeartbeats 2000000 in
theorem data_any (W : World) (lo g : Nat) (fs : List (Int × ByteArray)) (tag : Int) (h : Rd W lo g fs) :
    Calls Tryd.prog 64 #[.pointer (some ⟨g, 0, none⟩), .int .i64 tag] W fun e w' => e = .returned (.tuple #[.string (tkD tag fs), .bool (tkB tag fs)]) ∧ W.grownBy w' (some g) ∧ Rd w' lo g (tkR tag fs) := by
  obtain ⟨x, hx⟩ : ∃ x, x = decide (fs.length = 0) := ⟨_, rfl⟩
  have E1 : Hid (Calls Tryd.prog 46 #[.pointer (some ⟨g, 0, none⟩)] W fun e w' => e = .returned (.bool x) ∧ w' = W) := ended_any W lo g fs h x hx
  have HR := hidk h
  obtain ⟨a, cap, h1, h2, h3, h4, h5, h6⟩ := h
  have hc : W.cell? ⟨g, 0, none⟩ = some (.slice a fs.length cap) := by rw [cell_of_row W g 0 _ _ (0, 0) h1]; rfl
  have hm : fs.length ≤ 9223372036854775807 := by omega
  cases fs with
  | nil =>
    obtain rfl : x = true := by rw [hx]; rfl
    clear h1 h2 h3 h5 h6 hx hc hm
    go_enter Tryd.func64, Tryd.ntmps64
    go_wp2_with fail
    refine E1.out.mono ?_
    rintro e w1 ⟨rfl, rfl⟩
    go_wp2
    go_ret2
    exact ⟨rfl, World.grownBy.refl _ _, HR.out⟩
  | cons f r =>
    obtain rfl : x = false := by rw [hx]; simp
    rcases h6 with h6 | ⟨b, off, rfl, hl, hg, hcs⟩
    · cases h6
    have c0 := (hcs 0 (by simp)).1
    have c1 := (hcs 0 (by simp)).2
    simp only [Nat.zero_mul, Nat.add_zero, List.getElem_cons_zero] at c0 c1
    simp only [List.length_cons] at hc hm h3
    have hfz : W.frozen? ⟨g, 0, none⟩ = false := frozen_of_row W g 0 _ _ h1
    by_cases ht : f.1 = tag
    · have HE : Hid (tkD tag (f :: r) = f.2 ∧ tkB tag (f :: r) = true ∧ tkR tag (f :: r) = r) := ⟨if_pos ht, by show decide _ = true; simpa using ht, if_pos ht⟩
      rw [HE.out.1, HE.out.2.1, HE.out.2.2]
      obtain ⟨d, hd⟩ : ∃ d, d = f.2 := ⟨_, rfl⟩
      rw [ht] at c0
      rw [← hd] at c1 ⊢
      clear HE ht hd
      by_cases hcap : cap = 1
      · obtain rfl : r = [] := List.eq_nil_of_length_eq_zero (by omega)
        subst hcap
        have HG := hidk (grownBy_set0 W g (.slice (some ⟨b, off, none⟩) 0 0))
        have HN : Hid (Rd (W.setCell ⟨g, 0, none⟩ (.slice (some ⟨b, off, none⟩) 0 0)) lo g []) :=
          ⟨some ⟨b, off, none⟩, 0, Go.heap_setCell_same W g 0 _ _ _ h1, h2, Nat.le_refl _, by omega, fun y hy => by simp at hy, .inl rfl⟩
        simp only [List.length_nil, Nat.zero_add] at hc
        clear h1 h2 h5 hx HR hcs h3 hm
        go_enter Tryd.func64, Tryd.ntmps64
        go_wp2_with fail
        refine E1.out.mono ?_
        rintro e w1 ⟨rfl, rfl⟩
        go_wp2
        go_ret2
        exact ⟨rfl, HG.out, HN.out⟩
      · have HG := hidk (grownBy_set0 W g (.slice (some ⟨b, off + 2, none⟩) r.length (cap - 1)))
        have HN : Hid (Rd (W.setCell ⟨g, 0, none⟩ (.slice (some ⟨b, off + 2, none⟩) r.length (cap - 1))) lo g r) := by
          refine ⟨some ⟨b, off + 2, none⟩, cap - 1, ?_, h2, by omega, by omega, fun y hy => h5 y (List.mem_cons_of_mem _ hy), .inr ⟨b, off + 2, rfl, hl, hg, fun i hi => ?_⟩⟩
          · exact Go.heap_setCell_same W g 0 _ _ _ h1
          · have hk := Below.heap_setCell W ⟨g, 0, none⟩ (.slice (some ⟨b, off + 2, none⟩) r.length (cap - 1)) b (by show b ≠ g; omega)
            have hh := hcs (i + 1) (by simpa using hi)
            rw [show off + (i + 1) * 2 = off + 2 + i * 2 by omega] at hh
            exact ⟨(World.cell?_of_block (a := ⟨b, off + 2 + i * 2, none⟩) hk).trans hh.1, (World.cell?_of_block (a := ⟨b, off + 2 + i * 2 + 1, none⟩) hk).trans hh.2⟩
        have hcap' : ¬ cap - 1 = 0 := by omega
        clear h1 h2 h5 hx HR hcs
        go_enter Tryd.func64, Tryd.ntmps64
        go_wp2_with fail
        refine E1.out.mono ?_
        rintro e w1 ⟨rfl, rfl⟩
        go_wp2
        go_ret2
        exact ⟨rfl, HG.out, HN.out⟩
    · have HE : Hid (tkD tag (f :: r) = ⟨#[]⟩ ∧ tkB tag (f :: r) = false ∧ tkR tag (f :: r) = f :: r) := ⟨if_neg ht, by show decide _ = false; simpa using ht, if_neg ht⟩
      rw [HE.out.1, HE.out.2.1, HE.out.2.2]
      obtain ⟨t, hd⟩ : ∃ d, d = f.1 := ⟨_, rfl⟩
      rw [← hd] at c0 ht
      clear h1 h2 h5 hx hcs HE hd c1
      go_enter Tryd.func64, Tryd.ntmps64
      go_wp2_with fail
      refine E1.out.mono ?_
      rintro e w1 ⟨rfl, rfl⟩
      go_wp2
      go_ret2
      exact ⟨rfl, World.grownBy.refl _ _, HR.out⟩
end Go.Proofs.YtdnhnjimhbbabaaDoor

/- What the small calls of package head answer: within, Check, mayBe, numberField, digestField. -/
namespace Go.Proofs.YtdnhnjimhbbabaaDoor
open Go.RowKit Sums Nums
set_option linter.unusedVariables false
set_option linter.unusedSimpArgs false
set_option maxRecDepth 100000
theorem hWithin_any (n a b : Int) (w : World) : Calls Tryd.prog 50 #[.int .i64 n, .int .i64 a, .int .i64 b] w fun e w' => e = .returned (.bool (decide (a ≤ n) && decide (n ≤ b))) ∧ w' = w := by
  by_cases h1 : a ≤ n
  · have d1 : decide (a ≤ n) = true := by rw [decide_eq_true_eq]; exact h1
    obtain ⟨x, hx⟩ : ∃ x, decide (n ≤ b) = x := ⟨_, rfl⟩
    rw [d1, hx]
    clear h1
    go_enter Tryd.func50, Tryd.ntmps50
    go_wp2
    go_ret
    exact ⟨rfl, rfl⟩
  · have d1 : decide (a ≤ n) = false := by rw [decide_eq_false_iff_not]; exact h1
    rw [d1]
    clear h1
    go_enter Tryd.func50, Tryd.ntmps50
    go_wp2
    go_ret
    exact ⟨rfl, rfl⟩
set_option maxHeartbeats 2000000 in
theorem hCheck_any (h : HdT) (hd : h.d.length = 32) (w : World) (C : Array Value) (HC : Hid (C = (hcells h).toArray)) :
    Calls Tryd.prog 38 #[.agg C] w fun e w' => e = .returned (.int .i64 (putE h)) ∧ Below w.heap.size w w' := by
  have HR := hrow_new w h hd C HC 26
  have HB : Hid (Below w.heap.size w (w.alloc (.cells C 26))) := (Below.refl _ _).alloc (Nat.le_refl _) _
  have c0 := HR.r
  have c1 := HR.e
  have c2 := HR.s
  have c4 := HR.t
  simp only [Nat.zero_add] at c1 c2 c4
  have hnot : ∀ (x : Bool) (w : World), (Op.unary .not (.bool x)).run Tryd.prog w = .ok (.bool (!x)) w := fun _ _ => rfl
  have WI : Hid (∀ (n a b : Int) (W : World), Calls Tryd.prog 50 #[.int .i64 n, .int .i64 a, .int .i64 b] W fun e w' => e = .returned (.bool (decide (a ≤ n) && decide (n ≤ b))) ∧ w' = W) := hWithin_any
  obtain ⟨b1, hb1⟩ : ∃ b, (decide (1 ≤ h.r) && decide (h.r ≤ 5)) = b := ⟨_, rfl⟩
  obtain ⟨b2, hb2⟩ : ∃ b, (decide (1 ≤ h.e) && decide (h.e ≤ 900000000)) = b := ⟨_, rfl⟩
  obtain ⟨b3, hb3⟩ : ∃ b, (decide (0 ≤ h.s) && decide (h.s ≤ 100000)) = b := ⟨_, rfl⟩
  obtain ⟨b4, hb4⟩ : ∃ b, (decide (0 ≤ h.t) && decide (h.t ≤ 900000000)) = b := ⟨_, rfl⟩
  have W1 := hidk (WI.out h.r 1 5)
  have W2 := hidk (WI.out h.e 1 900000000)
  have W3 := hidk (WI.out h.s 0 100000)
  have W4 := hidk (WI.out h.t 0 900000000)
  rw [hb1] at W1
  rw [hb2] at W2
  rw [hb3] at W3
  rw [hb4] at W4
  have hE : putE h = if (b1 && (b2 && (b3 && b4))) = true then 0 else 70 := by
    rw [← hb1, ← hb2, ← hb3, ← hb4]
    unfold putE rightH
    simp only [Bool.and_assoc]
  rw [hE]
  obtain ⟨r, hr⟩ : ∃ r, r = h.r := ⟨_, rfl⟩
  obtain ⟨e, he⟩ : ∃ r, r = h.e := ⟨_, rfl⟩
  obtain ⟨s, hs⟩ : ∃ r, r = h.s := ⟨_, rfl⟩
  obtain ⟨t, ht⟩ : ∃ r, r = h.t := ⟨_, rfl⟩
  rw [← hr] at c0 W1
  rw [← he] at c1 W2
  rw [← hs] at c2 W3
  rw [← ht] at c4 W4
  clear hE hb1 hb2 hb3 hb4 WI HR hr he hs ht HC
  cases b1
  · go_enter Tryd.func38, Tryd.ntmps38
    go_wp2_with fail
    refine (W1.out _).mono ?_
    rintro e w1 ⟨rfl, rfl⟩
    go_wp2
    go_ret
    exact ⟨rfl, HB.out⟩
  cases b2
  · go_enter Tryd.func38, Tryd.ntmps38
    go_wp2_with fail
    refine (W1.out _).mono ?_
    rintro e w1 ⟨rfl, rfl⟩
    go_wp2_with fail
    refine (W2.out _).mono ?_
    rintro e w1 ⟨rfl, rfl⟩
    go_wp2
    go_ret
    exact ⟨rfl, HB.out⟩
  cases b3
  · go_enter Tryd.func38, Tryd.ntmps38
    go_wp2_with fail
    refine (W1.out _).mono ?_
    rintro e w1 ⟨rfl, rfl⟩
    go_wp2_with fail
    refine (W2.out _).mono ?_
    rintro e w1 ⟨rfl, rfl⟩
    go_wp2_with fail
    refine (W3.out _).mono ?_
    rintro e w1 ⟨rfl, rfl⟩
    go_wp2
    go_ret
    exact ⟨rfl, HB.out⟩
  cases b4
  · go_enter Tryd.func38, Tryd.ntmps38
    go_wp2_with fail
    refine (W1.out _).mono ?_
    rintro e w1 ⟨rfl, rfl⟩
    go_wp2_with fail
    refine (W2.out _).mono ?_
    rintro e w1 ⟨rfl, rfl⟩
    go_wp2_with fail
    refine (W3.out _).mono ?_
    rintro e w1 ⟨rfl, rfl⟩
    go_wp2_with fail
    refine (W4.out _).mono ?_
    rintro e w1 ⟨rfl, rfl⟩
    go_wp2
    go_ret
    exact ⟨rfl, HB.out⟩
  · go_enter Tryd.func38, Tryd.ntmps38
    go_wp2_with fail
    refine (W1.out _).mono ?_
    rintro e w1 ⟨rfl, rfl⟩
    go_wp2_with fail
    refine (W2.out _).mono ?_
    rintro e w1 ⟨rfl, rfl⟩
    go_wp2_with fail
    refine (W3.out _).mono ?_
    rintro e w1 ⟨rfl, rfl⟩
    go_wp2_with fail
    refine (W4.out _).mono ?_
    rintro e w1 ⟨rfl, rfl⟩
    go_wp2
    go_ret
    exact ⟨rfl, HB.out⟩
theorem putE_ok (h : HdT) : putE h = 0 ∧ rightH h = true ∨ putE h = 70 ∧ rightH h = false := by
  unfold putE
  cases rightH h
  · exact .inr ⟨rfl, rfl⟩
  · exact .inl ⟨rfl, rfl⟩
set_option maxHeartbeats 2000000 in
theorem hMay_any (s : SgT) (hd : s.h.d.length = 32) (w : World) (C : Array Value) (HC : Hid (C = (scells s).toArray)) :
    Calls Tryd.prog 23 #[.agg C] w fun e w' => e = .returned (.bool (mayS s)) ∧ Below w.heap.size w w' := by
  have HR := hidk (srow_new w s hd C HC 28)
  have HB : Hid (Below w.heap.size w (w.alloc (.cells C 28))) := (Below.refl _ _).alloc (Nat.le_refl _) _
  obtain ⟨HCs, HHC, HSH, H36⟩ := head_row s.h hd
  have HRH : Hid ((w.alloc (.cells C 28)).rangeAt w.heap.size 0 HCs.toList) := by rw [HHC.out]; exact HR.out.h
  obtain ⟨n, Hn⟩ : ∃ n, Hid (n = s.n) := ⟨s.n, hidk rfl⟩
  obtain ⟨b2, hb2⟩ : ∃ b, (decide (1 ≤ n) && decide (n ≤ 3)) = b := ⟨_, rfl⟩
  obtain ⟨E, hE0⟩ : ∃ E, E = putE s.h := ⟨_, rfl⟩
  have R1 : Hid (∀ W, Calls Tryd.prog 38 #[.agg HCs] W fun e w' => e = .returned (.int .i64 E) ∧ Below W.heap.size W w') := fun W => by rw [hE0]; exact hCheck_any s.h hd W HCs HHC
  have W2 : Hid (∀ W, Calls Tryd.prog 50 #[.int .i64 n, .int .i64 1, .int .i64 3] W fun e w' => e = .returned (.bool b2) ∧ w' = W) := fun W => by rw [← hb2]; exact hWithin_any n 1 3 W
  have hM : mayS s = (rightH s.h && b2) := by
    rw [← hb2, Hn.out]
    unfold mayS
    rw [Bool.and_assoc]
  rw [hM]
  have hp := putE_ok s.h
  rw [← hE0] at hp
  clear hM hb2 HC hE0
  rcases hp with ⟨rfl, hr⟩ | ⟨rfl, hr⟩
  · rw [hr]
    clear hr
    go_enter Tryd.func23, Tryd.ntmps23
    go_wp2_with (first
      | (show wpList _ _ _ ({ dst := some 4, op := _, type := _, pos := _, after := _, guard := _ } :: _) _ _; refine wpList_mid rfl 26 (.tmp 3) rfl w.heap.size 0 rfl HCs _ HRH.out Tryd.underlying26 rfl HSH.out ?_; try simp only [Act.put, List.setIfInBounds_toArray, List.set_cons_zero, List.set_cons_succ])
      | fail)
    refine (R1.out _).mono ?_
    rintro e w1 ⟨rfl, hb⟩
    have HB1 := hidk (HB.out.trans (hb.mono HB.out.size))
    have hc := (HR.out.keep hb).n
    rw [← Hn.out, Nat.zero_add] at hc
    clear hb
    go_wp2_with fail
    refine (W2.out _).mono ?_
    rintro e w2 ⟨rfl, rfl⟩
    go_wp2
    go_ret
    exact ⟨rfl, HB1.out⟩
  · rw [hr]
    clear hr
    go_enter Tryd.func23, Tryd.ntmps23
    go_wp2_with (first
      | (show wpList _ _ _ ({ dst := some 4, op := _, type := _, pos := _, after := _, guard := _ } :: _) _ _; refine wpList_mid rfl 26 (.tmp 3) rfl w.heap.size 0 rfl HCs _ HRH.out Tryd.underlying26 rfl HSH.out ?_; try simp only [Act.put, List.setIfInBounds_toArray, List.set_cons_zero, List.set_cons_succ])
      | fail)
    refine (R1.out _).mono ?_
    rintro e w1 ⟨rfl, hb⟩
    have HB1 := hidk (HB.out.trans (hb.mono HB.out.size))
    clear hb
    go_wp2
    go_ret
    exact ⟨rfl, HB1.out⟩
set_option maxHeartbeats 2000000 in
theorem hNum_any (t n : Int) (w : World) : Calls Tryd.prog 35 #[.int .i64 t, .int .i64 n] w fun e w' => e = .returned (.agg #[.int .i64 t, .string (nOf n)]) ∧ Below w.heap.size w w' := by
  obtain ⟨x, Hx⟩ : ∃ x : ByteArray, Hid (x = nOf n) := ⟨nOf n, hidk rfl⟩
  obtain ⟨E, HE⟩ : ∃ E, Hid (E = neOf n) := ⟨_, hidk rfl⟩
  have N1 : Hid (∀ W, Calls Tryd.prog 59 #[.int .i64 n] W fun e w' => e = .returned (.tuple #[.string x, .int .i64 E]) ∧ Below W.heap.size W w') := fun W => by rw [Hx.out, HE.out]; exact number_any n W
  rw [← Hx.out]
  clear Hx HE
  go_enter Tryd.func35, Tryd.ntmps35
  go_wp2_with fail
  refine (N1.out _).mono ?_
  rintro e w1 ⟨rfl, hb1⟩
  have hlt : w.heap.size < w1.heap.size := by have := hb1.size; simp at this; omega
  have hg : w1.heap[w.heap.size]? = some (.cells #[.int .i64 0, .string ⟨#[]⟩] 59 (0, 0)) := (hb1.block _ (by simp)).trans (heap_alloc_new w _)
  have c0 : w1.cell? ⟨w.heap.size, 0, none⟩ = some (.int .i64 0) := by rw [cell_of_row w1 _ 0 _ 59 (0, 0) hg]; rfl
  have c1 : w1.cell? ⟨w.heap.size, 1, none⟩ = some (.string ⟨#[]⟩) := by rw [cell_of_row w1 _ 1 _ 59 (0, 0) hg]; rfl
  have HB : Hid (Below w.heap.size w w1) := ((Below.refl _ _).alloc (Nat.le_refl _) _).trans (hb1.mono (by simp))
  have f0 : w1.frozen? ⟨w.heap.size, 0, none⟩ = false := frozen_of_row w1 _ 0 _ _ hg
  have f1 : w1.frozen? ⟨w.heap.size, 1, none⟩ = false := frozen_of_row w1 _ 1 _ _ hg
  clear hb1
  have HG2 := hidk (Go.heap_setCell_same _ _ 1 _ _ (.string x) (Go.heap_setCell_same w1 _ 0 _ _ (.int .i64 t) hg))
  clear hg
  go_wp2
  refine bodyPost_ret (v := .agg #[.int .i64 t, .string x]) ?_ rfl ⟨rfl, (HB.out.setCell (Nat.le_refl _) _).setCell (Nat.le_refl _) _⟩
  exact results_cell_row (p := 4) (ty := 59) rfl _ _ w.heap.size 59 #[.int .i64 t, .string x] (0, 0) _ rfl HG2.out Tryd.underlying59 rfl (by kernel_rfl)
set_option maxHeartbeats 2000000 in
theorem hDig_any (t : Int) (d : List UInt8) (hd : d.length = 32) (w : World) (D : Array Value) (HD : Hid (D = (cellsOf d).toArray)) : Calls Tryd.prog 36 #[.int .i64 t, .agg D] w fun e w' => e = .returned (.agg #[.int .i64 t, .string (bA d)]) ∧ Below w.heap.size w w' := by
  obtain ⟨x, Hx⟩ : ∃ x : ByteArray, Hid (x = bA d) := ⟨bA d, hidk rfl⟩
  have HCV : Hid (∀ (W : World) (g : Nat), W.heap[g]? = some (.cells D 24 (0, 0)) → Sem.run Tryd.prog (convert 35 9 (.slice (some ⟨g, 0, none⟩) 32 32)) W = .ok (.string x) W) := fun W g h => by
    rw [Hx.out]
    refine conv_at W g 0 d hd fun j v hj => ?_
    rw [Nat.zero_add, cell_of_row W g j _ _ (0, 0) h, HD.out]
    simpa using hj
  have HSL := hidk slice_at
  rw [← Hx.out]
  clear Hx HD
  have hn0 : (w.alloc (.cells D 24)).heap[w.heap.size]? = some (.cells D 24 (0, 0)) := heap_alloc_new w _
  have hcv := HCV.out ((w.alloc (.cells D 24)).alloc (.cells #[.int .i64 0, .string ⟨#[]⟩] 59)) w.heap.size (heap_keep hn0)
  have hsl := HSL.out ((w.alloc (.cells D 24)).alloc (.cells #[.int .i64 0, .string ⟨#[]⟩] 59)) w.heap.size 0
  have hg := heap_alloc_new (w.alloc (.cells D 24)) (.cells #[.int .i64 0, .string ⟨#[]⟩] 59)
  rw [alloc_size] at hg
  have hg2 := heap_alloc_new (w.alloc (.cells D 24)) (.cells #[.int .i64 t, .string x] 59)
  rw [alloc_size] at hg2
  have HG2 := hidk hg2
  have HB : Hid (Below w.heap.size w ((w.alloc (.cells D 24)).alloc (.cells #[.int .i64 t, .string x] 59))) := ((Below.refl _ _).alloc (Nat.le_refl _) _).alloc (by simp) _
  clear HCV HSL hn0 hg hg2
  go_enter Tryd.func36, Tryd.ntmps36
  go_wp2
  refine bodyPost_ret (v := .agg #[.int .i64 t, .string x]) ?_ rfl ⟨rfl, HB.out⟩
  exact results_cell_row (p := 4) (ty := 59) rfl _ _ (w.heap.size + 1) 59 #[.int .i64 t, .string x] (0, 0) _ rfl HG2.out Tryd.underlying59 rfl (by kernel_rfl)
end Go.Proofs.YtdnhnjimhbbabaaDoor

/- What a reader takes: numbers, digests; what fills a place by it. -/
namespace Go.Proofs.YtdnhnjimhbbabaaDoor
open Go.RowKit Sums Nums
set_option linter.unusedVariables false
set_option linter.unusedSimpArgs false
set_option maxRecDepth 100000
theorem Rd.small {W : World} {lo g : Nat} {fs : List (Int × ByteArray)} (h : Rd W lo g fs) (tag : Int) : (tkD tag fs).size ≤ maxLen := by
  obtain ⟨a, cap, h1, h2, h3, h4, h5, h6⟩ := h
  cases fs with
  | nil => show (⟨#[]⟩ : ByteArray).size ≤ maxLen; unfold maxLen; decide
  | cons f r =>
    unfold tkD
    split
    · rename_i hh
      split
      · have := List.cons.inj hh
        rw [← this.1]
        exact h5 f (List.mem_cons_self ..)
      · show (⟨#[]⟩ : ByteArray).size ≤ maxLen; unfold maxLen; decide
    · show (⟨#[]⟩ : ByteArray).size ≤ maxLen; unfold maxLen; decide
theorem grown_trans {a b c : World} {r : Option Nat} (h : a.grownBy b r) (k : b.grownBy c r) : a.grownBy c r :=
  ⟨k.os.trans h.os, k.tape.trans h.tape, k.output.trans h.output, Nat.le_trans h.size k.size, fun i hi hr => (k.block i (Nat.lt_of_lt_of_le hi h.size) hr).trans (h.block i hi hr)⟩
theorem grown_below {a b : World} {r : Option Nat} (h : Below a.heap.size a b) : a.grownBy b r := ⟨h.os, h.tape, h.output, h.size, fun k hk _ => h.block k hk⟩
/-- A write above what was there. -/
theorem grown_wrote {a b c : World} {r : Option Nat} {g : Nat} {D : Array Value} {t : TypeId} (h : a.grownBy b r) (hw : Wrote g D t b c) (hg : a.heap.size ≤ g) : a.grownBy c r := by
  have hb : Below a.heap.size b c := hw.below a.heap.size b (Below.refl _ _) hg
  exact ⟨hb.os.trans h.os, hb.tape.trans h.tape, hb.output.trans h.output, Nat.le_trans h.size hb.size, fun i hi hr => (hb.block i hi).trans (h.block i hi hr)⟩
def nV (tag : Int) (fs : List (Int × ByteArray)) : Int := vOf (tkD tag fs).data.toList
def nB (tag : Int) (fs : List (Int × ByteArray)) : Bool := tkB tag fs && isNum (tkD tag fs).data.toList
set_option maxHeartbeats 2000000 in
theorem rnum_any (W : World) (lo g : Nat) (fs : List (Int × ByteArray)) (tag : Int) (h : Rd W lo g fs) :
    Calls Tryd.prog 43 #[.pointer (some ⟨g, 0, none⟩), .int .i64 tag] W fun e w' => e = .returned (.tuple #[.int .i64 (nV tag fs), .bool (nB tag fs)]) ∧ W.grownBy w' (some g) ∧ Rd w' lo g (tkR tag fs) := by
  have D1 := hidk (data_any W lo g fs tag h)
  have hs := h.small tag
  unfold nV nB
  obtain ⟨d, hd⟩ : ∃ d, d = tkD tag fs := ⟨_, rfl⟩
  obtain ⟨b, hb⟩ : ∃ b, b = tkB tag fs := ⟨_, rfl⟩
  obtain ⟨r, hr⟩ : ∃ r, r = tkR tag fs := ⟨_, rfl⟩
  rw [← hd] at hs ⊢
  rw [← hd, ← hb, ← hr] at D1
  rw [← hb, ← hr]
  obtain ⟨n, hn⟩ : ∃ n, n = vOf d.data.toList := ⟨_, rfl⟩
  obtain ⟨E, hE⟩ : ∃ n, n = eOf d.data.toList := ⟨_, rfl⟩
  have V1 : Hid (∀ W, Calls Tryd.prog 65 #[.string d] W fun e w' => e = .returned (.tuple #[.int .i64 n, .int .i64 E]) ∧ W = w') := fun W => by rw [hn, hE]; exact value_any d W hs
  rw [← hn]
  have hE2 : (E = 0 ∧ isNum d.data.toList = true) ∨ (E = 11 ∧ isNum d.data.toList = false) := by
    rw [hE]
    cases hq : isNum d.data.toList
    · exact .inr ⟨(v_no hq).2, rfl⟩
    · exact .inl ⟨(v_yes hq).2, rfl⟩
  clear hd hb hr hn hE hs h
  rcases hE2 with ⟨rfl, hq⟩ | ⟨rfl, hq⟩
  all_goals
    rw [hq]
    clear hq
    cases b
    all_goals
      go_enter Tryd.func43, Tryd.ntmps43
      go_wp2_with fail
      refine D1.out.mono ?_
      rintro e w1 ⟨rfl, hg1, hr1⟩
      have HG := hidk hg1
      have HR := hidk hr1
      clear hg1 hr1
      go_wp2_with fail
      refine (V1.out _).mono ?_
      rintro e w2 ⟨rfl, rfl⟩
      go_wp2
      go_ret2
      exact ⟨rfl, HG.out, HR.out⟩
/-- A digest's bytes copied out of a text. -/
theorem wpList_copy_text {ops : Array Oper} {rest : List Oper} {o : Oper} {a : Act} {w : World} {Q : Exit → Act → World → Prop} (hgd : o.guard = none) (s x : Operand) (hop : o.op = Op.call { callee := Callee.builtin Builtin.copy, args := #[s, x], argTypes := #[35, 9] })
    (g : Nat) (t : TypeId) (hs : a.eval s = .slice (some ⟨g, 0, none⟩) 32 32) (u : ByteArray) (hx : a.eval x = .string u) (hu : u.size = 32) (Z D : Array Value) (hZ : Z.size = 32) (HD : Hid (D = (cellsOf u.data.toList).toArray)) (hg : w.heap[g]? = some (.cells Z t (0, 0)))
    (h : ∀ w', Hid (Wrote g D t w w') → wpList Tryd.prog ops Q rest (a.put o.dst (.int .i64 32)) w') : wpList Tryd.prog ops Q (o :: rest) a w := by
  refine wpList_plain hgd fun K hK => ?_
  have hrun := Lib.run_copy_row_string (P := Tryd.prog) w 35 9 o.type 5 g 0 32 32 u Z t Tryd.underlying35 (by kernel_rfl) hg (by omega) (by omega)
  have e : (Z.toList.take 0 ++ Lib.byteCells u.data.toList ++ Z.toList.drop (0 + u.size)).toArray = D := by
    rw [HD.out, List.take_zero, List.nil_append, List.drop_of_length_le (by rw [Array.length_toList]; omega), List.append_nil]
    rfl
  rw [e, hu] at hrun
  unfold Oper.wp
  simp [execOp, hop, resolve, invoke, builtin, hs, hx, hrun, Result.andThen, goInt]
  exact hK _ _ (h _ (wrote_row hg))
def dB (tag : Int) (fs : List (Int × ByteArray)) : Bool := tkB tag fs && decide ((tkD tag fs).size = 32)
def dV (tag : Int) (fs : List (Int × ByteArray)) : List UInt8 := if dB tag fs = true then (tkD tag fs).data.toList else List.replicate 32 0
theorem dV_length (tag : Int) (fs : List (Int × ByteArray)) : (dV tag fs).length = 32 := by
  unfold dV
  split
  · rename_i h
    unfold dB at h
    simp only [Bool.and_eq_true, decide_eq_true_eq] at h
    exact h.2
  · rfl
set_option maxHeartbeats 4000000 in
theorem rdig_any (W : World) (lo g : Nat) (fs : List (Int × ByteArray)) (tag : Int) (h : Rd W lo g fs) (D : Array Value) (HD : Hid (D = (cellsOf (dV tag fs)).toArray)) :
    Calls Tryd.prog 45 #[.pointer (some ⟨g, 0, none⟩), .int .i64 tag] W fun e w' => e = .returned (.tuple #[.agg D, .bool (dB tag fs)]) ∧ W.grownBy w' (some g) ∧ Rd w' lo g (tkR tag fs) := by
  obtain ⟨Z, HZ, HA, HS, H1, H32⟩ := noughts27
  have HH := hidk h
  have D1 : Hid (∀ V, Rd V lo g fs → Calls Tryd.prog 64 #[.pointer (some ⟨g, 0, none⟩), .int .i64 tag] V fun e w' => e = .returned (.tuple #[.string (tkD tag fs), .bool (tkB tag fs)]) ∧ V.grownBy w' (some g) ∧ Rd w' lo g (tkR tag fs)) := fun V hV => data_any V lo g fs tag hV
  have hs := h.small tag
  have hlt := h.lt
  have HSD : Hid ((Tryd.prog.info? 24).map (·.size) = some D.size) := by show _ = _; rw [size23, HD.out]; simp [cellsOf_length, dV_length]
  have H1D : Hid (D.all (·.oneCell') = true) := by show _ = _; rw [HD.out]; exact cellsOf_all _
  have HZD : Hid (Z.size = D.size) := by show _ = _; rw [H32.out, HD.out]; simp [cellsOf_length, dV_length]
  have h32 : Z.size = 32 := H32.out
  have HSZ := HS
  have HDV : dB tag fs = true → Hid (D = (cellsOf (tkD tag fs).data.toList).toArray) := fun hq => by
    show _ = _
    rw [HD.out]; unfold dV; rw [if_pos hq]
  have HDZ : dB tag fs = false → Hid (D = Z) := fun hq => by
    show _ = _
    rw [HD.out, HZ.out]; unfold dV; rw [if_neg (by rw [hq]; simp)]
  have hnot : ∀ (x : Bool) (w : World), (Op.unary .not (.bool x)).run Tryd.prog w = .ok (.bool (!x)) w := fun _ _ => rfl
  unfold dB at HDV HDZ ⊢
  clear HD HZ
  obtain ⟨d, hd⟩ : ∃ d, d = tkD tag fs := ⟨_, rfl⟩
  obtain ⟨b, hb⟩ : ∃ b, b = tkB tag fs := ⟨_, rfl⟩
  obtain ⟨r, hr⟩ : ∃ r, r = tkR tag fs := ⟨_, rfl⟩
  rw [← hd] at hs
  simp only [← hd, ← hb, ← hr] at D1 HDV HDZ ⊢
  unfold maxLen at hs
  clear hd hb hr h
  cases b
  · obtain rfl := (HDZ rfl).out
    clear HDV HDZ
    go_enter Tryd.func45, Tryd.ntmps45
    go_wp2_with (first
      | (show wpList _ _ _ ({ dst := some 4, op := _, type := _, pos := _, after := _, guard := _ } :: _) _ _; refine wpList_new_var rfl 24 rfl D HA.out ?_; intro g4 w1 HM4; try simp only [Act.put, List.setIfInBounds_toArray, List.set_cons_zero, List.set_cons_succ])
      | (show wpList _ _ _ ({ dst := some 6, op := _, type := _, pos := _, after := _, guard := _ } :: _) _ _; refine wpList_new_var rfl 24 rfl D HA.out ?_; intro g6 w2 HM6; try simp only [Act.put, List.setIfInBounds_toArray, List.set_cons_zero, List.set_cons_succ])
      | fail)
    have HB2 : Hid (Below W.heap.size W w2) := HM4.out.below.trans (HM6.out.below.mono HM4.out.below.size)
    refine (D1.out w2 (HH.out.below HB2.out)).mono ?_
    rintro e w3 ⟨rfl, hg3, hr3⟩
    have HG3 := hidk (grown_trans (grown_below HB2.out) hg3)
    have HR3 := hidk hr3
    have h4 : W.heap.size ≤ g4 := Nat.le_of_eq HM4.out.new.symm
    have h6 : g4 < g6 := by have e1 := HM6.out.new; have := heap_lt HM4.out.row; omega
    have HR4 : Hid (w3.heap[g4]? = some (.cells D 24 (0, 0))) := by
      have q : w2.heap[g4]? = some (.cells D 24 (0, 0)) := (HM6.out.below.block _ (heap_lt HM4.out.row)).trans HM4.out.row
      exact (hg3.block _ (heap_lt q) (by intro e; cases e; omega)).trans q
    have HR6 : Hid (w3.heap[g6]? = some (.cells D 24 (0, 0))) := (hg3.block _ (heap_lt HM6.out.row) (by intro e; cases e; omega)).trans HM6.out.row
    clear HM4 HM6 HB2 hg3 hr3 D1 HH
    go_wp2_with (first
      | (show wpList _ _ _ ({ dst := some 22, op := _, type := _, pos := _, after := _, guard := _ } :: _) _ _; refine wpList_load_row rfl 24 (.tmp 6) rfl g6 rfl 24 D (0, 0) _ HR6.out Tryd.underlying24 rfl HSD.out ?_; try simp only [Act.put, List.setIfInBounds_toArray, List.set_cons_zero, List.set_cons_succ])
      | (refine wpList_set_var rfl 24 (.tmp 4) (.tmp 22) rfl g4 D rfl rfl 24 D HR4.out HSD.out rfl H1D.out ?_; intro w4 HW4; try simp only [Act.put, List.setIfInBounds_toArray, List.set_cons_zero, List.set_cons_succ])
      | fail)
    refine bodyPost_ret (v := .tuple #[.agg D, .bool false]) ?_ rfl ⟨rfl, ?_, HR3.out.wrote HW4.out (.inr (by omega))⟩
    · exact results_row_tmp (p := 4) (q := 5) (ty := 24) rfl _ _ g4 24 D (0, 0) _ rfl HW4.out.row Tryd.underlying24 rfl HSD.out
    · exact grown_wrote HG3.out HW4.out (by omega)
  · by_cases h2 : d.size = 32
    · have HDD := HDV (by simpa using h2)
      have hd : decide (d.size = 32) = true := by simpa using h2
      rw [hd]
      clear HDV HDZ hd
      go_enter Tryd.func45, Tryd.ntmps45
      go_wp2_with (first
        | (show wpList _ _ _ ({ dst := some 4, op := _, type := _, pos := _, after := _, guard := _ } :: _) _ _; refine wpList_new_var rfl 24 rfl Z HA.out ?_; intro g4 w1 HM4; try simp only [Act.put, List.setIfInBounds_toArray, List.set_cons_zero, List.set_cons_succ])
        | (show wpList _ _ _ ({ dst := some 6, op := _, type := _, pos := _, after := _, guard := _ } :: _) _ _; refine wpList_new_var rfl 24 rfl Z HA.out ?_; intro g6 w2 HM6; try simp only [Act.put, List.setIfInBounds_toArray, List.set_cons_zero, List.set_cons_succ])
        | fail)
      have HB2 : Hid (Below W.heap.size W w2) := HM4.out.below.trans (HM6.out.below.mono HM4.out.below.size)
      refine (D1.out w2 (HH.out.below HB2.out)).mono ?_
      rintro e w3 ⟨rfl, hg3, hr3⟩
      have HG3 := hidk (grown_trans (grown_below HB2.out) hg3)
      have HR3 := hidk hr3
      have h4 : W.heap.size ≤ g4 := Nat.le_of_eq HM4.out.new.symm
      have h6 : g4 < g6 := by have e1 := HM6.out.new; have := heap_lt HM4.out.row; omega
      have HR4 : Hid (w3.heap[g4]? = some (.cells Z 24 (0, 0))) := by
        have q : w2.heap[g4]? = some (.cells Z 24 (0, 0)) := (HM6.out.below.block _ (heap_lt HM4.out.row)).trans HM4.out.row
        exact (hg3.block _ (heap_lt q) (by intro e; cases e; omega)).trans q
      have HR6 : Hid (w3.heap[g6]? = some (.cells Z 24 (0, 0))) := (hg3.block _ (heap_lt HM6.out.row) (by intro e; cases e; omega)).trans HM6.out.row
      have hsl := slice_at w3 g6 0
      have hd2 : (d.size : Int) = 32 := by omega
      clear HM4 HM6 HB2 hg3 hr3 D1 HH hs
      go_wp2_with (first
        | (refine wpList_copy_text rfl (.tmp 23) (.tmp 24) rfl g6 24 rfl d rfl h2 Z D h32 HDD HR6.out ?_; intro w4 HW6; try simp only [Act.put, List.setIfInBounds_toArray, List.set_cons_zero, List.set_cons_succ])
        | (show wpList _ _ _ ({ dst := some 26, op := _, type := _, pos := _, after := _, guard := _ } :: _) _ _; refine wpList_load_row rfl 24 (.tmp 6) rfl g6 rfl 24 D (0, 0) _ HW6.out.row Tryd.underlying24 rfl HSD.out ?_; try simp only [Act.put, List.setIfInBounds_toArray, List.set_cons_zero, List.set_cons_succ])
        | (refine wpList_set_var rfl 24 (.tmp 4) (.tmp 26) rfl g4 D rfl rfl 24 Z ((HW6.out.other _ (by omega)).trans HR4.out) HSD.out HZD.out H1D.out ?_; intro w5 HW4; try simp only [Act.put, List.setIfInBounds_toArray, List.set_cons_zero, List.set_cons_succ])
        | fail)
      refine bodyPost_ret (v := .tuple #[.agg D, .bool true]) ?_ rfl ⟨rfl, ?_, (HR3.out.wrote HW6.out (.inr (by omega))).wrote HW4.out (.inr (by omega))⟩
      · exact results_row_tmp (p := 4) (q := 5) (ty := 24) rfl _ _ g4 24 D (0, 0) _ rfl HW4.out.row Tryd.underlying24 rfl HSD.out
      · exact grown_wrote (grown_wrote HG3.out HW6.out (by omega)) HW4.out (by omega)
    · have hd : decide (d.size = 32) = false := by simpa using h2
      rw [hd] at HDZ ⊢
      obtain rfl := (HDZ rfl).out
      clear HDV HDZ hd
      have hd2 : ¬ (d.size : Int) = 32 := by omega
      go_enter Tryd.func45, Tryd.ntmps45
      go_wp2_with (first
        | (show wpList _ _ _ ({ dst := some 4, op := _, type := _, pos := _, after := _, guard := _ } :: _) _ _; refine wpList_new_var rfl 24 rfl D HA.out ?_; intro g4 w1 HM4; try simp only [Act.put, List.setIfInBounds_toArray, List.set_cons_zero, List.set_cons_succ])
        | (show wpList _ _ _ ({ dst := some 6, op := _, type := _, pos := _, after := _, guard := _ } :: _) _ _; refine wpList_new_var rfl 24 rfl D HA.out ?_; intro g6 w2 HM6; try simp only [Act.put, List.setIfInBounds_toArray, List.set_cons_zero, List.set_cons_succ])
        | fail)
      have HB2 : Hid (Below W.heap.size W w2) := HM4.out.below.trans (HM6.out.below.mono HM4.out.below.size)
      refine (D1.out w2 (HH.out.below HB2.out)).mono ?_
      rintro e w3 ⟨rfl, hg3, hr3⟩
      have HG3 := hidk (grown_trans (grown_below HB2.out) hg3)
      have HR3 := hidk hr3
      have h4 : W.heap.size ≤ g4 := Nat.le_of_eq HM4.out.new.symm
      have h6 : g4 < g6 := by have e1 := HM6.out.new; have := heap_lt HM4.out.row; omega
      have HR4 : Hid (w3.heap[g4]? = some (.cells D 24 (0, 0))) := by
        have q : w2.heap[g4]? = some (.cells D 24 (0, 0)) := (HM6.out.below.block _ (heap_lt HM4.out.row)).trans HM4.out.row
        exact (hg3.block _ (heap_lt q) (by intro e; cases e; omega)).trans q
      have HR6 : Hid (w3.heap[g6]? = some (.cells D 24 (0, 0))) := (hg3.block _ (heap_lt HM6.out.row) (by intro e; cases e; omega)).trans HM6.out.row
      clear HM4 HM6 HB2 hg3 hr3 D1 HH h2
      go_wp2_with (first
        | (show wpList _ _ _ ({ dst := some 22, op := _, type := _, pos := _, after := _, guard := _ } :: _) _ _; refine wpList_load_row rfl 24 (.tmp 6) rfl g6 rfl 24 D (0, 0) _ HR6.out Tryd.underlying24 rfl HSD.out ?_; try simp only [Act.put, List.setIfInBounds_toArray, List.set_cons_zero, List.set_cons_succ])
        | (refine wpList_set_var rfl 24 (.tmp 4) (.tmp 22) rfl g4 D rfl rfl 24 D HR4.out HSD.out rfl H1D.out ?_; intro w4 HW4; try simp only [Act.put, List.setIfInBounds_toArray, List.set_cons_zero, List.set_cons_succ])
        | fail)
      refine bodyPost_ret (v := .tuple #[.agg D, .bool false]) ?_ rfl ⟨rfl, ?_, HR3.out.wrote HW4.out (.inr (by omega))⟩
      · exact results_row_tmp (p := 4) (q := 5) (ty := 24) rfl _ _ g4 24 D (0, 0) _ rfl HW4.out.row Tryd.underlying24 rfl HSD.out
      · exact grown_wrote HG3.out HW4.out (by omega)
end Go.Proofs.YtdnhnjimhbbabaaDoor

/- A place that is filled by a reader's number or digest; a row that is opened. -/
namespace Go.Proofs.YtdnhnjimhbbabaaDoor
open Go.RowKit Sums Nums
set_option linter.unusedVariables false
set_option linter.unusedSimpArgs false
set_option maxRecDepth 100000
/-- What is left as it was where one variable and a reader were written. -/
structure Went (gh g : Nat) (W W' : World) : Prop where
  below : ∀ B a, Below B a W → B ≤ gh → B ≤ g → Below B a W'
  other : ∀ k, k < W.heap.size → k ≠ gh → k ≠ g → W'.heap[k]? = W.heap[k]?
theorem went_of {gh g : Nat} {W W1 W' : World} {D : Array Value} {t : TypeId} (h : W.grownBy W1 (some g)) (hw : Wrote gh D t W1 W') (hg : g < W.heap.size) : Went gh g W W' :=
  ⟨fun B a hb h1 h2 => hw.below B a (hb.grown h (by omega) (by intro k hk; cases hk; exact h2)) h1,
   fun k hk h1 h2 => (hw.other k h1).trans (h.block k hk (by intro e; cases e; exact h2 rfl))⟩
/-- A number stored in a place of a variable. -/
theorem wpList_put64 {P : Program} {ops : Array Oper} {rest : List Oper} {o : Oper} {a : Act} {w : World} {Q : Exit → Act → World → Prop} (hgd : o.guard = none) (t : TypeId) (x y : Operand) (ho : o.op = .store t x y) (hs : ∀ w, (sizeOf t).run P w = .ok 1 w)
    (g i : Nat) (n : Int) (hx : a.eval x = .pointer (some ⟨g, i, none⟩)) (hy : a.eval y = .int .i64 n) (cs : Array Value) (t' : TypeId) (hg : w.heap[g]? = some (.cells cs t' (0, 0))) (hi : i < cs.size)
    (h : ∀ w', Hid (Wrote g (cs.setIfInBounds i (.int .i64 n)) t' w w') → wpList P ops Q rest (a.put o.dst undef) w') : wpList P ops Q (o :: rest) a w := by
  refine wpList_plain hgd fun K hK => ?_
  have hc : w.cell? ⟨g, i, none⟩ = some cs[i] := by rw [cell_of_row w g i cs t' (0, 0) hg, Array.getElem?_eq_getElem hi]
  have hf : w.frozen? ⟨g, i, none⟩ = false := frozen_of_row w g i cs t' hg
  have hrun : (Instr.storeAt t (.pointer (some ⟨g, i, none⟩)) (.int .i64 n)).run P w = .ok () (w.setCell ⟨g, i, none⟩ (.int .i64 n)) := by
    simp [go_sem, hc, hf, hs]
  unfold Oper.wp execOp
  simp only [ho, hx, hy, hrun, Sem.run_bind, Result.andThen_ok]
  exact hK _ _ (h _ (wrote_cell _ hg))
theorem sizeOf3 (w : World) : (sizeOf 3).run Tryd.prog w = .ok 1 w := by
  have h : (Tryd.prog.info? 3).map (·.size) = some 1 := by kernel_rfl
  cases hq : Tryd.prog.info? 3 with
  | none => rw [hq] at h; cases h
  | some i =>
    rw [hq] at h
    simp only [Option.map_some, Option.some.injEq] at h
    simp [sizeOf, typeInfo, hq, h]
set_option maxHeartbeats 2000000 in
theorem into_int (W : World) (lo g gh off : Nat) (fs : List (Int × ByteArray)) (tag : Int) (h : Rd W lo g fs) (C C' : Array Value) (t : TypeId) (hC : W.heap[gh]? = some (.cells C t (0, 0))) (ho : off < C.size) (hl : gh < lo) (HC' : Hid (C' = C.setIfInBounds off (.int .i64 (nV tag fs)))) :
    Calls Tryd.prog 42 #[.pointer (some ⟨gh, off, none⟩), .int .i64 tag, .func (.func 43) #[.pointer (some ⟨g, 0, none⟩)] #[]] W fun e w' =>
      e = .returned (.bool (nB tag fs)) ∧ w'.heap[gh]? = some (.cells C' t (0, 0)) ∧ Rd w' lo g (tkR tag fs) ∧ Went gh g W w' := by
  have N1 := hidk (rnum_any W lo g fs tag h)
  have hlt := h.lt
  have hgg : gh ≠ g := by obtain ⟨_, _, _, q, _⟩ := h; omega
  rw [HC'.out]
  have HC := hidk hC
  obtain ⟨n, hn⟩ : ∃ n, n = nV tag fs := ⟨_, rfl⟩
  obtain ⟨b, hb⟩ : ∃ n, n = nB tag fs := ⟨_, rfl⟩
  rw [← hn, ← hb] at N1
  rw [← hn, ← hb]
  clear HC' hn hb h hC
  go_enter Tryd.func42, Tryd.ntmps42
  go_wp2_with fail
  refine N1.out.mono ?_
  rintro e w1 ⟨rfl, hg1, hr1⟩
  have HG := hidk hg1
  have HR := hidk hr1
  have HC1 := hidk ((hg1.block _ (heap_lt HC.out) (by intro e; cases e; exact hgg rfl)).trans HC.out)
  clear hg1 hr1 HC
  go_wp2_with (first
    | (refine wpList_put64 rfl 3 (.tmp 17) (.tmp 16) rfl sizeOf3 gh off n rfl rfl C t HC1.out ho ?_; intro w2 HW; try simp only [Act.put, List.setIfInBounds_toArray, List.set_cons_zero, List.set_cons_succ])
    | fail)
  go_ret
  exact ⟨rfl, HW.out.row, HR.out.wrote HW.out (.inl hl), went_of HG.out HW.out hlt⟩
set_option maxHeartbeats 2000000 in
theorem into_dig (W : World) (lo g gh off : Nat) (fs : List (Int × ByteArray)) (tag : Int) (h : Rd W lo g fs) (C C' D : Array Value) (t : TypeId) (hC : W.heap[gh]? = some (.cells C t (0, 0))) (ho : off + 32 ≤ C.size) (hl : gh < lo) (HD : Hid (D = (cellsOf (dV tag fs)).toArray)) (HC' : Hid (C' = (C.toList.take off ++ D.toList ++ C.toList.drop (off + 32)).toArray)) :
    Calls Tryd.prog 44 #[.pointer (some ⟨gh, off, none⟩), .int .i64 tag, .func (.func 45) #[.pointer (some ⟨g, 0, none⟩)] #[]] W fun e w' =>
      e = .returned (.bool (dB tag fs)) ∧ w'.heap[gh]? = some (.cells C' t (0, 0)) ∧ Rd w' lo g (tkR tag fs) ∧ Went gh g W w' := by
  obtain ⟨Z, HZ, HA, HS, H1, H32⟩ := noughts27
  have N1 := hidk (rdig_any W lo g fs tag h D HD)
  have hlt := h.lt
  have HSD : Hid ((Tryd.prog.info? 24).map (·.size) = some D.size) := by show _ = _; rw [size23, HD.out]; simp [cellsOf_length, dV_length]
  have H1D : Hid (D.all (·.oneCell') = true) := by show _ = _; rw [HD.out]; exact cellsOf_all _
  have HZD : Hid (Z.size = D.size) := by show _ = _; rw [H32.out, HD.out]; simp [cellsOf_length, dV_length]
  have HD32 : Hid (D.size = 32) := by show _ = _; rw [HD.out]; simp [cellsOf_length, dV_length]
  have hgg : gh ≠ g := by obtain ⟨_, _, _, q, _⟩ := h; omega
  have HCC : Hid (C' = (C.toList.take off ++ D.toList ++ C.toList.drop (off + D.size)).toArray) := by show _ = _; rw [HD32.out, HC'.out]
  have HOO : Hid (off + D.size ≤ C.size) := by show _ ≤ _; rw [HD32.out]; exact ho
  have HC := hidk hC
  obtain ⟨b, hb⟩ : ∃ n, n = dB tag fs := ⟨_, rfl⟩
  rw [← hb] at N1
  rw [← hb]
  clear HC' hb hC HD HD32 HZ ho
  go_enter Tryd.func44, Tryd.ntmps44
  go_wp2_with fail
  refine N1.out.mono ?_
  rintro e w1 ⟨rfl, hg1, hr1⟩
  have HG := hidk hg1
  have HR := hidk hr1
  have HC1 := hidk ((hg1.block _ (heap_lt HC.out) (by intro e; cases e; exact hgg rfl)).trans HC.out)
  have hs1 := hg1.size
  clear hg1 hr1 h
  go_wp2_with (first
    | (show wpList _ _ _ ({ dst := some 7, op := _, type := _, pos := _, after := _, guard := _ } :: _) _ _; refine wpList_new_var rfl 24 rfl Z HA.out ?_; intro g7 w2 HM7; try simp only [Act.put, List.setIfInBounds_toArray, List.set_cons_zero, List.set_cons_succ])
    | (refine wpList_set_var rfl 24 (.tmp 7) (.tmp 13) rfl g7 D rfl rfl 24 Z HM7.out.row HSD.out HZD.out H1D.out ?_; intro w3 HW7; try simp only [Act.put, List.setIfInBounds_toArray, List.set_cons_zero, List.set_cons_succ])
    | (show wpList _ _ _ ({ dst := some 16, op := _, type := _, pos := _, after := _, guard := _ } :: _) _ _; refine wpList_load_row rfl 24 (.tmp 7) rfl g7 rfl 24 D (0, 0) _ HW7.out.row Tryd.underlying24 rfl HSD.out ?_; try simp only [Act.put, List.setIfInBounds_toArray, List.set_cons_zero, List.set_cons_succ])
    | (refine wpList_set_mid rfl 24 (.tmp 17) (.tmp 16) rfl gh off D rfl rfl t C ((HW7.out.other _ (by have e1 := HM7.out.new; have := heap_lt HC1.out; omega)).trans ((HM7.out.below.block _ (heap_lt HC1.out)).trans HC1.out)) HOO.out HSD.out H1D.out ?_; intro w4 HW; try simp only [Act.put, List.setIfInBounds_toArray, List.set_cons_zero, List.set_cons_succ])
    | fail)
  have h7 : w1.heap.size ≤ g7 := Nat.le_of_eq HM7.out.new.symm
  have HG2 := hidk (grown_wrote (grown_trans HG.out (grown_below HM7.out.below)) HW7.out (Nat.le_trans HG.out.size h7))
  have hb1 := HR.out.lt
  go_ret
  refine ⟨rfl, ?_, ((HR.out.below HM7.out.below).wrote HW7.out (.inr (by omega))).wrote HW.out (.inl hl), went_of HG2.out HW.out hlt⟩
  rw [HCC.out]
  exact HW.out.row
/-- A row that is opened: its fields lie in a new block. -/
def Lie (W : World) (lo : Nat) (a : Option Addr) (cap : Nat) (fs : List (Int × ByteArray)) : Prop :=
  fs.length ≤ cap ∧ cap ≤ 9223372036854775807 ∧ (∀ f ∈ fs, f.2.size ≤ maxLen) ∧
    (fs = [] ∨ ∃ b off, a = some ⟨b, off, none⟩ ∧ lo ≤ b ∧ b < W.heap.size ∧ ∀ (i : Nat) (h : i < fs.length), W.cell? ⟨b, off + i * 2, none⟩ = some (.int .i64 fs[i].1) ∧ W.cell? ⟨b, off + i * 2 + 1, none⟩ = some (.string fs[i].2))
theorem rd_new {W : World} {lo : Nat} {a : Option Addr} {cap : Nat} {fs : List (Int × ByteArray)} (h : Lie W lo a cap fs) (hl : lo ≤ W.heap.size) : Rd (W.alloc (.cells #[.slice a fs.length cap] 65)) lo W.heap.size fs := by
  obtain ⟨h1, h2, h3, h4⟩ := h
  refine ⟨a, cap, heap_alloc_new W _, hl, h1, h2, h3, ?_⟩
  rcases h4 with h4 | ⟨b, off, e, hlo, hlt, hc⟩
  · exact .inl h4
  · have hk := Below.heap_alloc W (.cells #[.slice a fs.length cap] 65) b hlt
    exact .inr ⟨b, off, e, hlo, hlt, fun i hi => ⟨(World.cell?_of_block (a := ⟨b, off + i * 2, none⟩) hk).trans (hc i hi).1, (World.cell?_of_block (a := ⟨b, off + i * 2 + 1, none⟩) hk).trans (hc i hi).2⟩⟩
theorem lie_own {w : World} {B : Nat} {v : Value} {fs : List (Int × ByteArray)} (h : w.ownsRow B 59 2 v fs.length (fcells fs)) (hm : ∀ f ∈ fs, f.2.size ≤ maxLen) : ∃ a cap, v = .slice a fs.length cap ∧ Lie w B a cap fs := by
  obtain ⟨a, cap, rfl, h1, h2, h3, h4, h5⟩ := freads_own h hm
  refine ⟨a, cap, rfl, h2, h3, hm, ?_⟩
  cases fs with
  | nil => exact .inl rfl
  | cons f r =>
    rcases h5 with ⟨rfl, e⟩ | ⟨ad, rfl, e⟩ | ⟨b, off, rfl, hlt, hc⟩
    · simp at h2; omega
    · simp at e
    · refine .inr ⟨b, off, rfl, ?_, hlt, hc⟩
      rcases h.2 with ⟨e, h0⟩ | ⟨g, cap', cur, e, hb, _⟩
      · simp at h0
      · cases e; exact hb
set_option maxHeartbeats 2000000 in
theorem open_any (a : Option Addr) (len cap : Nat) (bs : List UInt8) (w : World) (hR : Reads w a len cap bs) (hl : len ≤ 1000000) :
    Calls Tryd.prog 39 #[.slice a len cap] w fun e w' => ∃ x c, e = .returned (.slice x (readF bs).length c) ∧ Lie w' w.heap.size x c (readF bs) ∧ Below w.heap.size w w' := by
  have R1 : Hid (Calls Tryd.prog 63 #[.slice a len cap] w fun e W' => ∃ x c, e = .returned (.tuple #[.slice x (readF bs).length c, .int .i64 (readE bs)]) ∧ Lie W' w.heap.size x c (readF bs) ∧ Below w.heap.size w W') := by
    refine (read_any a len cap bs w hR hl).mono ?_
    rintro e W' ⟨v, rfl, hown, hb⟩
    obtain ⟨x, c, rfl, hlie⟩ := lie_own hown (readF_small bs)
    exact ⟨x, c, rfl, hlie, hb⟩
  obtain ⟨fs, hfs⟩ : ∃ fs, fs = readF bs := ⟨_, rfl⟩
  obtain ⟨E, hE⟩ : ∃ E : Int, E = readE bs := ⟨_, rfl⟩
  rw [← hfs, ← hE] at R1
  rw [← hfs]
  clear hfs hE hR
  go_enter Tryd.func39, Tryd.ntmps39
  go_wp2_with fail
  refine R1.out.mono ?_
  rintro e w1 ⟨x, c, rfl, hl1, hb1⟩
  have HL := hidk hl1
  have HB := hidk hb1
  clear hl1 hb1
  go_wp2
  go_ret
  exact ⟨x, c, rfl, HL.out, HB.out⟩
end Go.Proofs.YtdnhnjimhbbabaaDoor
