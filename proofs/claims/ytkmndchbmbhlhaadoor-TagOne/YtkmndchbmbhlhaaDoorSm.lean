/- What tag.Same answers. -/
import Derived.Test.YtkmndchbmbhlhaaDoorTagC
import Derived.Test.YtkmndchbmbhlhaaDoorPuts
namespace Go.Proofs.YtkmndchbmbhlhaaDoor
open Go.RowKit Sums
set_option linter.unusedVariables false
set_option linter.unusedSimpArgs false

theorem or8 (x y : UInt8) : bits .or .u8 (x.toNat : Int) (y.toNat : Int) = ((x ||| y).toNat : Int) := by
  rw [u8_or_nat _ _ x.toNat_lt y.toNat_lt, UInt8.toNat_or]
theorem apart_next (x a b : UInt8) : x ||| (a ^^^ b) = 0 ↔ x = 0 ∧ a = b := by
  rw [UInt8.or_eq_zero_iff, UInt8.xor_eq_zero_iff]
theorem idxDg (W : World) (g k : Nat) (hj : k < 32) : (Instr.indexAt 24 (.pointer (some ⟨g, 0, none⟩)) (.int .i64 (k : Int))).run Tryd.prog W = .ok (.pointer (some ⟨g, k, none⟩)) W := by
  have hu := Tryd.underlying24
  have h2 : (k : Int) < 32 := by omega
  have h1 : (0 : Int) ≤ (k : Int) := by omega
  have h3 : ¬ (k : Int) < 0 := by omega
  simp [go_sem, hu, sizeOf5, h1, h2, h3, add_plain]

/-- What the loop has seen. -/
structure Seen (w : World) (A B : Array Value) (W : World) : Prop where
  a : W.heap[w.heap.size]? = some (.cells A 24 (0, 0))
  b : W.heap[w.heap.size + 1]? = some (.cells B 24 (0, 0))
  below : Below w.heap.size w W

set_option maxHeartbeats 4000000 in
theorem same_any (a b : List UInt8) (w : World) (A B : Array Value) (HA : Hid (A = (cellsOf a).toArray)) (HB : Hid (B = (cellsOf b).toArray)) (ha : a.length = 32) (hb : b.length = 32) :
    Calls Tryd.prog 11 #[.agg A, .agg B] w fun e w' => e = .returned (.bool (decide (a = b))) ∧ Below w.heap.size w w' := by
  have HL0 : Hid (Seen w A B ((w.alloc (.cells A 24)).alloc (.cells B 24))) := ⟨heap_keep (heap_alloc_new w _), by have := heap_alloc_new (w.alloc (.cells A 24)) (.cells B 24); rwa [alloc_size] at this, ((Below.refl _ _).alloc (Nat.le_refl _) _).alloc (by simp) _⟩
  go_enter Tryd.func11, Tryd.ntmps11
  go_wp2
  go_loopw [5, 7] (fun v i wr => ∃ (k : Nat) (x : UInt8), k ≤ 32 ∧ i = .int .i64 k ∧ v = .int .u8 (x.toNat : Int) ∧ Hid (x = 0 ↔ a.take k = b.take k) ∧ Hid (Seen w A B wr)) (fun _ i _ => 32 - (intOf i).toNat)
  case atStart => exact ⟨0, 0, by omega, rfl, rfl, by show _ ↔ _; simp, HL0⟩
  case round =>
    clear HL0
    obtain ⟨k, x, hk32, rfl, rfl, HX, HL⟩ := hrel
    by_cases hlt : k < 32
    · have dk : decide ((k : Int) < 32) = true := by rw [decide_eq_true_eq]; omega
      have dk' : decide (k < 32) = true := by rw [decide_eq_true_eq]; omega
      have hka : k < a.length := by omega
      have hkb : k < b.length := by omega
      obtain ⟨p, HP⟩ : ∃ p : UInt8, Hid (a[k]? = some p) := ⟨a[k], List.getElem?_eq_getElem hka⟩
      obtain ⟨q, HQ⟩ : ∃ q : UInt8, Hid (b[k]? = some q) := ⟨b[k], List.getElem?_eq_getElem hkb⟩
      obtain ⟨y, HY⟩ : ∃ y : UInt8, Hid (y = p ^^^ q) := ⟨p ^^^ q, hidk rfl⟩
      obtain ⟨z, HZ⟩ : ∃ z : UInt8, Hid (z = x ||| y) := ⟨x ||| y, hidk rfl⟩
      have hx : bits .xor .u8 (p.toNat : Int) (q.toNat : Int) = (y.toNat : Int) := by rw [HY.out]; exact xor8 p q
      have ho : bits .or .u8 (x.toNat : Int) (y.toNat : Int) = (z.toNat : Int) := by rw [HZ.out]; exact or8 x y
      have HN : Hid (z = 0 ↔ a.take (k + 1) = b.take (k + 1)) := by
        show _ ↔ _
        rw [HZ.out, HY.out, apart_next, List.take_add_one, List.take_add_one, HP.out, HQ.out, HX.out]
        constructor
        · rintro ⟨h1, rfl⟩; rw [h1]
        · intro h
          have := List.append_inj h (by rw [List.length_take, List.length_take, ha, hb])
          exact ⟨this.1, by simpa using this.2⟩
      have CA : Hid (∀ W : World, W.heap[w.heap.size]? = some (.cells A 24 (0, 0)) → W.cell? ⟨w.heap.size, k, none⟩ = some (.int .u8 (p.toNat : Int))) := fun W h => by
        rw [cell_of_row W _ k _ 24 (0, 0) h, HA.out]
        obtain ⟨hh, e⟩ := List.getElem?_eq_some_iff.1 HP.out
        rw [← e]
        simpa using cellsOf_at a k hh
      have CB : Hid (∀ W : World, W.heap[w.heap.size + 1]? = some (.cells B 24 (0, 0)) → W.cell? ⟨w.heap.size + 1, k, none⟩ = some (.int .u8 (q.toNat : Int))) := fun W h => by
        rw [cell_of_row W _ k _ 24 (0, 0) h, HB.out]
        obtain ⟨hh, e⟩ := List.getElem?_eq_some_iff.1 HQ.out
        rw [← e]
        simpa using cellsOf_at b k hh
      have i1 := fun W => idxDg W w.heap.size k hlt
      have i2 := fun W => idxDg W (w.heap.size + 1) k hlt
      clear HX HP HQ HY HZ hka hkb
      go_wp2
      have HLd : Hid (Seen w A B wr.drew) := ⟨HL.out.a, HL.out.b, HL.out.below.drew⟩
      refine wp_region_held_drew (S := (fun W => W.heap[w.heap.size]? = some (.cells A 24 (0, 0)) ∧ W.heap[w.heap.size + 1]? = some (.cells B 24 (0, 0)))) (by kernel_rfl) ⟨HL.out.a, HL.out.b⟩ (fun hHeld => ?_)
      refine wpAnyH_take (i := 0) (oi := { dst := some 10, op := Op.move (Operand.tmp 5), type := 5, pos := "tag.go:28", after := #[], guard := none }) (v := .int .u8 (x.toNat : Int)) rfl (by kernel_rfl) (by kernel_rfl) (by kernel_rfl) (fun _ _ _ h => h) (Or.inl ⟨by rfl, by intro W hSw; go_simp⟩) hHeld ?_
      try simp only [Act.put, List.setIfInBounds_toArray, List.set_cons_zero, List.set_cons_succ]
      refine wpAnyH_take (i := 1) (oi := { dst := some 11, op := Op.move (Operand.tmp 6), type := 3, pos := "tag.go:28", after := #[], guard := none }) (v := .int .i64 (k : Int)) rfl (by kernel_rfl) (by kernel_rfl) (by kernel_rfl) (fun _ _ _ h => h) (Or.inl ⟨by rfl, by intro W hSw; go_simp⟩) hHeld ?_
      try simp only [Act.put, List.setIfInBounds_toArray, List.set_cons_zero, List.set_cons_succ]
      refine wpAnyH_take (i := 2) (oi := { dst := some 12, op := Op.indexAddr 24 (Operand.tmp 2) (Operand.tmp 11), type := 0, pos := "tag.go:28", after := #[{ on := 1, ground := Ground.data }], guard := none }) (v := .pointer (some ⟨w.heap.size, k, none⟩)) rfl (by kernel_rfl) (by kernel_rfl) (by kernel_rfl) (fun _ _ _ h => h) (Or.inl ⟨by rfl, by intro W hSw; have := i1 W; go_simp⟩) hHeld ?_
      try simp only [Act.put, List.setIfInBounds_toArray, List.set_cons_zero, List.set_cons_succ]
      refine wpAnyH_take (i := 3) (oi := { dst := some 13, op := Op.load 5 (Operand.tmp 12), type := 5, pos := "tag.go:28", after := #[{ on := 2, ground := Ground.data }], guard := none }) (v := .int .u8 (p.toNat : Int)) rfl (by kernel_rfl) (by kernel_rfl) (by kernel_rfl) (fun _ _ _ h => h) (Or.inl ⟨by rfl, by intro W hSw; have := CA.out W hSw.1; go_simp⟩) hHeld ?_
      try simp only [Act.put, List.setIfInBounds_toArray, List.set_cons_zero, List.set_cons_succ]
      refine wpAnyH_take (i := 4) (oi := { dst := some 14, op := Op.move (Operand.tmp 6), type := 3, pos := "tag.go:28", after := #[], guard := none }) (v := .int .i64 (k : Int)) rfl (by kernel_rfl) (by kernel_rfl) (by kernel_rfl) (fun _ _ _ h => h) (Or.inl ⟨by rfl, by intro W hSw; go_simp⟩) hHeld ?_
      try simp only [Act.put, List.setIfInBounds_toArray, List.set_cons_zero, List.set_cons_succ]
      refine wpAnyH_take (i := 5) (oi := { dst := some 15, op := Op.indexAddr 24 (Operand.tmp 3) (Operand.tmp 14), type := 0, pos := "tag.go:28", after := #[{ on := 4, ground := Ground.data }], guard := none }) (v := .pointer (some ⟨w.heap.size + 1, k, none⟩)) rfl (by kernel_rfl) (by kernel_rfl) (by kernel_rfl) (fun _ _ _ h => h) (Or.inl ⟨by rfl, by intro W hSw; have := i2 W; go_simp⟩) hHeld ?_
      try simp only [Act.put, List.setIfInBounds_toArray, List.set_cons_zero, List.set_cons_succ]
      refine wpAnyH_take (i := 6) (oi := { dst := some 16, op := Op.load 5 (Operand.tmp 15), type := 5, pos := "tag.go:28", after := #[{ on := 5, ground := Ground.data }], guard := none }) (v := .int .u8 (q.toNat : Int)) rfl (by kernel_rfl) (by kernel_rfl) (by kernel_rfl) (fun _ _ _ h => h) (Or.inl ⟨by rfl, by intro W hSw; have := CB.out W hSw.2; go_simp⟩) hHeld ?_
      try simp only [Act.put, List.setIfInBounds_toArray, List.set_cons_zero, List.set_cons_succ]
      refine wpAnyH_take (i := 7) (oi := { dst := some 17, op := Op.binOp BinOp.xor 5 (Operand.tmp 13) (Operand.tmp 16) 5, type := 5, pos := "tag.go:28", after := #[{ on := 3, ground := Ground.data }, { on := 6, ground := Ground.data }], guard := none }) (v := .int .u8 (y.toNat : Int)) rfl (by kernel_rfl) (by kernel_rfl) (by kernel_rfl) (fun _ _ _ h => h) (Or.inl ⟨by rfl, by intro W hSw; go_simp⟩) hHeld ?_
      try simp only [Act.put, List.setIfInBounds_toArray, List.set_cons_zero, List.set_cons_succ]
      refine wpAnyH_take (i := 8) (oi := { dst := some 18, op := Op.binOp BinOp.or 5 (Operand.tmp 10) (Operand.tmp 17) 5, type := 5, pos := "tag.go:28", after := #[{ on := 0, ground := Ground.data }, { on := 7, ground := Ground.data }], guard := none }) (v := .int .u8 (z.toNat : Int)) rfl (by kernel_rfl) (by kernel_rfl) (by kernel_rfl) (fun _ _ _ h => h) (Or.inl ⟨by rfl, by intro W hSw; go_simp⟩) hHeld ?_
      try simp only [Act.put, List.setIfInBounds_toArray, List.set_cons_zero, List.set_cons_succ]
      refine wpAnyH_take (i := 9) (oi := { dst := some 5, op := Op.assign (Operand.tmp 18), type := 5, pos := "tag.go:28", after := #[{ on := 8, ground := Ground.data }, { on := 0, ground := Ground.phase }, { on := 1, ground := Ground.phase }, { on := 2, ground := Ground.phase }, { on := 3, ground := Ground.phase }, { on := 4, ground := Ground.phase }, { on := 5, ground := Ground.phase }, { on := 6, ground := Ground.phase }, { on := 7, ground := Ground.phase }, { on := 8, ground := Ground.phase }], guard := none }) (v := .int .u8 (z.toNat : Int)) rfl (by kernel_rfl) (by kernel_rfl) (by kernel_rfl) (fun _ _ _ h => h) (Or.inl ⟨by rfl, by intro W hSw; go_simp⟩) hHeld ?_
      try simp only [Act.put, List.setIfInBounds_toArray, List.set_cons_zero, List.set_cons_succ]
      refine wpAnyH_done (by kernel_rfl) ?_ _
      clear i1 i2 CA CB
      go_wp2
      go_roundw
      case rel => exact ⟨k + 1, z, by omega, by go_num, rfl, HN, HLd⟩
      case measure => simp [intOf]; omega
    · obtain rfl : k = 32 := by omega
      have HBL := hidk HL.out.below
      have hd : ((x.toNat : Int) == 0) = decide (a = b) := by
        rw [show ((x.toNat : Int) == 0) = decide ((x.toNat : Int) = 0) from by rw [Bool.eq_iff_iff]; simp only [beq_iff_eq, decide_eq_true_eq]]
        have e := HX.out
        rw [List.take_of_length_le (by omega), List.take_of_length_le (by omega)] at e
        by_cases h : a = b
        · rw [decide_eq_true h, decide_eq_true_eq, e.2 h]; rfl
        · rw [decide_eq_false h, decide_eq_false_iff_not]
          intro h0
          exact h (e.1 (UInt8.toNat_inj.1 (by simpa using h0)))
      clear HL HX
      go_wp2
      go_ret
      refine ⟨?_, HBL.out⟩
      first | rfl | (rw [← hd]; simp) | simp [← hd]
end Go.Proofs.YtkmndchbmbhlhaaDoor
