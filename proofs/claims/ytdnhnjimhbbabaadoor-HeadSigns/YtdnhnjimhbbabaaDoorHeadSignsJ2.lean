/- Texts of our own that the row of HeadSigns leans on, part 2. -/
import Derived.Test.YtdnhnjimhbbabaaDoorHeadSignsJ1
import Derived.Lib.AppendStr

/- What the document's words answers: W 0 to 63 of a block. -/
namespace Go.Proofs.YtdnhnjimhbbabaaDoor
open Go.RowKit Sums
set_option linter.unusedVariables false
set_option linter.unusedSimpArgs false
theorem idxB (W : World) (b off len cap j : Nat) (z : Int) (hz : z = j) (hj : j < len) : (Instr.indexAt 35 (.slice (some ⟨b, off, none⟩) len cap) (.int .i64 z)).run Tryd.prog W = .ok (.pointer (some ⟨b, off + j, none⟩)) W := by
  subst hz
  have hs : ∀ w, (sizeOf 5).run Tryd.prog w = .ok 1 w := by
    intro w
    have hq : (Tryd.prog.info? 5).map (·.size) = some 1 := by kernel_rfl
    cases h : Tryd.prog.info? 5 with
    | none => simp [h] at hq
    | some i => simp [h] at hq; simp [sizeOf, typeInfo, h, hq]
  simp [Instr.indexAt, run_underlying Tryd.underlying35, Instr.sureAddr, asIntOf, hj, hs, add_plain]
/-- The first j bytes of a word. -/
def wpart (b : List UInt8) (t : Nat) : Nat → Nat
  | 0 => 0
  | j + 1 => wpart b t j * 256 + (b.getD (4 * t + j) 0).toNat
theorem wpart_lt (b : List UInt8) (t j : Nat) (hj : j ≤ 3) : wpart b t j < 16777216 := by
  have h0 := (b.getD (4 * t + 0) 0).toNat_lt
  have h1 := (b.getD (4 * t + 1) 0).toNat_lt
  have h2 := (b.getD (4 * t + 2) 0).toNat_lt
  have : j = 0 ∨ j = 1 ∨ j = 2 ∨ j = 3 := by omega
  rcases this with rfl | rfl | rfl | rfl <;> simp only [wpart] <;> omega
theorem wpart_all (b : List UInt8) (t : Nat) : (wpart b t 4 : Int) = wordAt b t := by
  unfold wordAt
  simp only [wpart, Nat.add_zero]
  omega
set_option maxHeartbeats 4000000 in
set_option maxRecDepth 100000 in
theorem refWords_any (b off cap : Nat) (bl : List UInt8) (w : World) (hl : bl.length = 64) (hc : 64 ≤ cap) (hc2 : cap ≤ 9223372036854775807) (hb : b < w.heap.size) (hL : Lies w b off bl) :
    Calls Tryd.prog 90 #[.slice (some ⟨b, off, none⟩) 64 cap] w fun e w' => e = .returned (.agg (wcells (sched bl)).toArray) ∧ Below w.heap.size w w' := by
  obtain ⟨Z, HZ, HA, HS, H1, HZ64⟩ := noughts45
  have HL : Hid (Lies w b off bl) := hL
  have HLL : Hid (bl.length = 64) := hl
  clear hL hl
  go_enter Tryd.func90, Tryd.ntmps90
  go_wp2_with (first
    | (refine wpList_alloc_row rfl 121 rfl Z HA.out ?_)
    | fail)
  go_loopw [4] (fun i wr => ∃ k : Nat, k ≤ 16 ∧ i = .int .i64 k ∧ Hid (wr.heap[w.heap.size]? = some (.cells Z 121 (0, 0))) ∧
      Hid (wr.heap[w.heap.size + 1]? = some (.cells (wcells (fill ((words16 bl).take k))).toArray 121 (0, 0))) ∧ Below w.heap.size w wr)
    (fun i _ => 16 - (intOf i).toNat)
  case atStart =>
    refine ⟨0, by omega, rfl, heap_alloc2_old w _ _, ?_, ((Below.refl _ _).alloc (Nat.le_refl _) _).alloc (by simp) _⟩
    show _ = _
    have e : (wcells (fill ((words16 bl).take 0))).toArray = Z := by rw [HZ.out]; rfl
    rw [e]
    exact heap_alloc2_new w _ _
  case round =>
    obtain ⟨k, hk, rfl, HR, HD, hB⟩ := hrel
    by_cases hlt : k < 16
    · have hdi : decide ((k : Int) < 16) = true := by rw [decide_eq_true_eq]; omega
      have HT : Hid (((words16 bl).take k).length = k) := by show _ = _; simp [words16_length]; omega
      obtain ⟨F, HF⟩ : ∃ F, Hid (F = fill ((words16 bl).take k)) := ⟨_, (rfl : fill ((words16 bl).take k) = _)⟩
      have HFL : Hid (F.length = 64) := by show _ = _; rw [HF.out]; exact fill_length _ (by rw [HT.out]; omega)
      have HF0 : Hid (F.set k 0 = F) := by
        show _ = _
        have h0 := HFL.out
        have e : F[k]'(by omega) = 0 := by
          have h1 : F[k]? = some 0 := by
            rw [HF.out]
            unfold fill
            rw [List.getElem?_append_right (by rw [HT.out]; omega), HT.out, Nat.sub_self, List.getElem?_replicate, if_pos (by omega)]
          rw [List.getElem?_eq_getElem (by omega)] at h1
          exact Option.some.inj h1
        rw [← e]
        exact List.set_getElem_self (by omega)
      have HD0 : Hid (wr.heap[w.heap.size + 1]? = some (.cells (wcells (F.set k ((wpart bl k 0 : Nat) : Int))).toArray 121 (0, 0))) := by
        show _ = _
        rw [show ((wpart bl k 0 : Nat) : Int) = 0 from rfl, HF0.out, HF.out]; exact HD.out
      clear HD
      go_wp2
      go_loopw [5] (fun v wi => ∃ j : Nat, j ≤ 4 ∧ v = .int .i64 j ∧ Hid (wi.heap[w.heap.size]? = some (.cells Z 121 (0, 0))) ∧
          Hid (wi.heap[w.heap.size + 1]? = some (.cells (wcells (F.set k ((wpart bl k j : Nat) : Int))).toArray 121 (0, 0))) ∧ Below w.heap.size w wi)
        (fun v _ => 4 - (intOf v).toNat)
      case atStart => exact ⟨0, by omega, rfl, HR, HD0, hB⟩
      case round =>
        clear HR HD0 hB
        obtain ⟨j, hj, rfl, HR, HD, hB⟩ := hrel
        by_cases hlj : j < 4
        · have hdj : decide ((j : Int) < 4) = true := by rw [decide_eq_true_eq]; omega
          obtain ⟨x, HX⟩ : ∃ x : Nat, Hid (x = wpart bl k j) := ⟨_, (rfl : wpart bl k j = _)⟩
          obtain ⟨c, HC⟩ : ∃ c : Nat, Hid (c = (bl.getD (4 * k + j) 0).toNat) := ⟨_, (rfl : (bl.getD (4 * k + j) 0).toNat = _)⟩
          have hx : x < 16777216 := by rw [HX.out]; exact wpart_lt bl k j (by omega)
          have hcc : c < 256 := by rw [HC.out]; exact (bl.getD (4 * k + j) 0).toNat_lt
          have HN : Hid (x * 256 + c = wpart bl k (j + 1)) := by show _ = _; rw [HX.out, HC.out]; rfl
          rw [← HX.out] at HD
          have cx : wr.cell? ⟨w.heap.size + 1, k, none⟩ = some (.int .u32 (x : Int)) := by
            have h0 := HFL.out
            rw [wrow_cell HD.out k (by simp; omega)]
            simp
          have cb : wr.cell? ⟨b, off + (4 * k + j), none⟩ = some (.int .u8 (c : Int)) := by
            have h0 := HLL.out
            rw [(HL.out.keep hB hb) (4 * k + j) (by omega), HC.out]
            simp [List.getD, List.getElem?_eq_getElem (show 4 * k + j < bl.length by omega)]
          have hfz : wr.frozen? ⟨w.heap.size + 1, k, none⟩ = false := frozen_of_row wr _ k _ 121 HD.out
          have hw4 := wrap_int (4 * (k : Int)) (by omega) (by omega)
          have hw4j := wrap_int (4 * (k : Int) + (j : Int)) (by omega) (by omega)
          have ia := fun W => idxW W (w.heap.size + 1) k (k : Int) rfl (by omega)
          have ib := fun W => idxB W b off 64 cap (4 * k + j) (4 * (k : Int) + (j : Int)) (by omega) (by omega)
          go_wp2
          have hw256 : IntKind.u32.wrap ((x : Int) * 256) = (x : Int) * 256 := by rw [u32w]; omega
          have hwc : IntKind.u32.wrap (c : Int) = (c : Int) := by rw [u32w]; omega
          have hwn : IntKind.u32.wrap ((x : Int) * 256 + (c : Int)) = (x : Int) * 256 + (c : Int) := by rw [u32w]; omega
          refine wp_region_held_drew (S := (fun _ => True)) (by kernel_rfl) trivial (fun hHeld => ?_)
          refine wpAnyH_take (i := 0) (oi := { dst := some 17, op := Op.move (Operand.tmp 4), type := 3, pos := "ref.go:41", after := #[], guard := none }) (v := .int .i64 (k : Int)) rfl (by kernel_rfl) (by kernel_rfl) (by kernel_rfl) (fun _ _ _ h => h) (Or.inl ⟨by rfl, by intro W hSw; go_simp⟩) hHeld ?_
          try simp only [Act.put, List.setIfInBounds_toArray, List.set_cons_zero, List.set_cons_succ]
          refine wpAnyH_take (i := 1) (oi := { dst := some 18, op := Op.move (Operand.tmp 4), type := 3, pos := "ref.go:41", after := #[], guard := none }) (v := .int .i64 (k : Int)) rfl (by kernel_rfl) (by kernel_rfl) (by kernel_rfl) (fun _ _ _ h => h) (Or.inl ⟨by rfl, by intro W hSw; go_simp⟩) hHeld ?_
          try simp only [Act.put, List.setIfInBounds_toArray, List.set_cons_zero, List.set_cons_succ]
          refine wpAnyH_take (i := 2) (oi := { dst := some 19, op := Op.indexAddr 121 (Operand.tmp 3) (Operand.tmp 18), type := 0, pos := "ref.go:41", after := #[{ on := 1, ground := Ground.data }], guard := none }) (v := .pointer (some ⟨w.heap.size + 1, k, none⟩)) rfl (by kernel_rfl) (by kernel_rfl) (by kernel_rfl) (fun _ _ _ h => h) (Or.inl ⟨by rfl, by intro W hSw; go_simp⟩) hHeld ?_
          try simp only [Act.put, List.setIfInBounds_toArray, List.set_cons_zero, List.set_cons_succ]
          refine wpAnyH_take (i := 5) (oi := { dst := some 22, op := Op.move (Operand.tmp 0), type := 35, pos := "ref.go:41", after := #[], guard := none }) (v := .slice (some ⟨b, off, none⟩) 64 cap) rfl (by kernel_rfl) (by kernel_rfl) (by kernel_rfl) (fun _ _ _ h => h) (Or.inl ⟨by rfl, by intro W hSw; go_simp⟩) hHeld ?_
          try simp only [Act.put, List.setIfInBounds_toArray, List.set_cons_zero, List.set_cons_succ]
          refine wpAnyH_take (i := 6) (oi := { dst := some 23, op := Op.move (Operand.tmp 4), type := 3, pos := "ref.go:41", after := #[], guard := none }) (v := .int .i64 (k : Int)) rfl (by kernel_rfl) (by kernel_rfl) (by kernel_rfl) (fun _ _ _ h => h) (Or.inl ⟨by rfl, by intro W hSw; go_simp⟩) hHeld ?_
          try simp only [Act.put, List.setIfInBounds_toArray, List.set_cons_zero, List.set_cons_succ]
          refine wpAnyH_take (i := 7) (oi := { dst := some 24, op := Op.binOp BinOp.mul 3 (Operand.const (Value.int IntKind.i64 4)) (Operand.tmp 23) 3, type := 3, pos := "ref.go:41", after := #[{ on := 6, ground := Ground.data }], guard := none }) (v := .int .i64 (4 * (k : Int))) rfl (by kernel_rfl) (by kernel_rfl) (by kernel_rfl) (fun _ _ _ h => h) (Or.inl ⟨by rfl, by intro W hSw; go_simp⟩) hHeld ?_
          try simp only [Act.put, List.setIfInBounds_toArray, List.set_cons_zero, List.set_cons_succ]
          refine wpAnyH_take (i := 8) (oi := { dst := some 25, op := Op.move (Operand.tmp 5), type := 3, pos := "ref.go:41", after := #[], guard := none }) (v := .int .i64 (j : Int)) rfl (by kernel_rfl) (by kernel_rfl) (by kernel_rfl) (fun _ _ _ h => h) (Or.inl ⟨by rfl, by intro W hSw; go_simp⟩) hHeld ?_
          try simp only [Act.put, List.setIfInBounds_toArray, List.set_cons_zero, List.set_cons_succ]
          refine wpAnyH_take (i := 9) (oi := { dst := some 26, op := Op.binOp BinOp.add 3 (Operand.tmp 24) (Operand.tmp 25) 3, type := 3, pos := "ref.go:41", after := #[{ on := 7, ground := Ground.data }, { on := 8, ground := Ground.data }], guard := none }) (v := .int .i64 (4 * (k : Int) + (j : Int))) rfl (by kernel_rfl) (by kernel_rfl) (by kernel_rfl) (fun _ _ _ h => h) (Or.inl ⟨by rfl, by intro W hSw; go_simp⟩) hHeld ?_
          try simp only [Act.put, List.setIfInBounds_toArray, List.set_cons_zero, List.set_cons_succ]
          refine wpAnyH_take (i := 10) (oi := { dst := some 27, op := Op.indexAddr 35 (Operand.tmp 22) (Operand.tmp 26), type := 0, pos := "ref.go:41", after := #[{ on := 5, ground := Ground.data }, { on := 9, ground := Ground.data }], guard := none }) (v := .pointer (some ⟨b, off + (4 * k + j), none⟩)) rfl (by kernel_rfl) (by kernel_rfl) (by kernel_rfl) (fun _ _ _ h => h) (Or.inl ⟨by rfl, by intro W hSw; go_simp⟩) hHeld ?_
          try simp only [Act.put, List.setIfInBounds_toArray, List.set_cons_zero, List.set_cons_succ]
          refine wpAnyH_ready (rs := [3, 11]) (by kernel_rfl) (by simp) ?_
          refine (AllReadyH.cons (o := { dst := some 20, op := Op.load 106 (Operand.tmp 19), type := 106, pos := "ref.go:41", after := #[{ on := 2, ground := Ground.data }], guard := none }) rfl (fun K hK => ?_) (AllReadyH.cons (o := { dst := some 28, op := Op.load 5 (Operand.tmp 27), type := 5, pos := "ref.go:41", after := #[{ on := 10, ground := Ground.data }], guard := none }) rfl (fun K hK => ?_) AllReadyH.nil))
          · go_simp
            refine hK.out _ _ trivial (fun hHeld => ?_)
            clear hK K
            try simp only [Act.put, List.setIfInBounds_toArray, List.set_cons_zero, List.set_cons_succ]
            refine wpAnyH_take (i := 4) (oi := { dst := some 21, op := Op.binOp BinOp.mul 106 (Operand.tmp 20) (Operand.const (Value.int IntKind.u32 256)) 106, type := 106, pos := "ref.go:41", after := #[{ on := 3, ground := Ground.data }], guard := none }) (v := .int .u32 ((x : Int) * 256)) rfl (by kernel_rfl) (by kernel_rfl) (by kernel_rfl) (fun _ _ _ h => h) (Or.inl ⟨by rfl, by intro W hSw; go_simp⟩) hHeld ?_
            try simp only [Act.put, List.setIfInBounds_toArray, List.set_cons_zero, List.set_cons_succ]
            refine wpAnyH_ready (rs := [11]) (by kernel_rfl) (by simp) ?_
            refine (AllReadyH.cons (o := { dst := some 28, op := Op.load 5 (Operand.tmp 27), type := 5, pos := "ref.go:41", after := #[{ on := 10, ground := Ground.data }], guard := none }) rfl (fun K hK => ?_) AllReadyH.nil)
            go_simp
            refine hK.out _ _ trivial (fun hHeld => ?_)
            clear hK K
            try simp only [Act.put, List.setIfInBounds_toArray, List.set_cons_zero, List.set_cons_succ]
            refine wpAnyH_take (i := 12) (oi := { dst := some 29, op := Op.convert 5 106 (Operand.tmp 28), type := 106, pos := "ref.go:41", after := #[{ on := 11, ground := Ground.data }], guard := none }) (v := .int .u32 (c : Int)) rfl (by kernel_rfl) (by kernel_rfl) (by kernel_rfl) (fun _ _ _ h => h) (Or.inl ⟨by rfl, by intro W hSw; go_simp⟩) hHeld ?_
            try simp only [Act.put, List.setIfInBounds_toArray, List.set_cons_zero, List.set_cons_succ]
            refine wpAnyH_take (i := 13) (oi := { dst := some 30, op := Op.binOp BinOp.add 106 (Operand.tmp 21) (Operand.tmp 29) 106, type := 106, pos := "ref.go:41", after := #[{ on := 4, ground := Ground.data }, { on := 12, ground := Ground.data }], guard := none }) (v := .int .u32 ((x : Int) * 256 + (c : Int))) rfl (by kernel_rfl) (by kernel_rfl) (by kernel_rfl) (fun _ _ _ h => h) (Or.inl ⟨by rfl, by intro W hSw; go_simp⟩) hHeld ?_
            try simp only [Act.put, List.setIfInBounds_toArray, List.set_cons_zero, List.set_cons_succ]
            refine wpAnyH_take (i := 14) (oi := { dst := some 31, op := Op.indexAddr 121 (Operand.tmp 3) (Operand.tmp 17), type := 0, pos := "ref.go:41", after := #[{ on := 0, ground := Ground.data }, { on := 0, ground := Ground.phase }, { on := 1, ground := Ground.phase }, { on := 2, ground := Ground.phase }, { on := 3, ground := Ground.phase }, { on := 4, ground := Ground.phase }, { on := 5, ground := Ground.phase }, { on := 6, ground := Ground.phase }, { on := 7, ground := Ground.phase }, { on := 8, ground := Ground.phase }, { on := 9, ground := Ground.phase }, { on := 10, ground := Ground.phase }, { on := 11, ground := Ground.phase }, { on := 12, ground := Ground.phase }, { on := 13, ground := Ground.phase }], guard := none }) (v := .pointer (some ⟨w.heap.size + 1, k, none⟩)) rfl (by kernel_rfl) (by kernel_rfl) (by kernel_rfl) (fun _ _ _ h => h) (Or.inl ⟨by rfl, by intro W hSw; go_simp⟩) hHeld ?_
            try simp only [Act.put, List.setIfInBounds_toArray, List.set_cons_zero, List.set_cons_succ]
            refine wpAnyH_ready (rs := [15]) (by kernel_rfl) (by simp) ?_
            refine (AllReadyH.cons (o := { dst := none, op := Op.store 106 (Operand.tmp 31) (Operand.tmp 30), type := 0, pos := "ref.go:41", after := #[{ on := 14, ground := Ground.data }, { on := 13, ground := Ground.data }, { on := 0, ground := Ground.phase }, { on := 1, ground := Ground.phase }, { on := 2, ground := Ground.phase }, { on := 3, ground := Ground.phase }, { on := 4, ground := Ground.phase }, { on := 5, ground := Ground.phase }, { on := 6, ground := Ground.phase }, { on := 7, ground := Ground.phase }, { on := 8, ground := Ground.phase }, { on := 9, ground := Ground.phase }, { on := 10, ground := Ground.phase }, { on := 11, ground := Ground.phase }, { on := 12, ground := Ground.phase }, { on := 13, ground := Ground.phase }], guard := none }) rfl (fun K hK => ?_) AllReadyH.nil)
            go_simp
            refine hK.out _ _ trivial (fun hHeld => ?_)
            clear hK K
            try simp only [Act.put, List.setIfInBounds_toArray, List.set_cons_zero, List.set_cons_succ]
            refine wpAnyH_done (by kernel_rfl) ?_ _
            go_wp2
            go_roundw
            case rel => exact ⟨j + 1, by omega, by go_num, ((heap_setCell_other wr _ _ _ (by simp)).trans HR.out), (by show _ = _; rw [← HN.out, show F.set k ((x * 256 + c : Nat) : Int) = (F.set k (x : Int)).set k ((x : Int) * 256 + (c : Int)) by rw [List.set_set]; congr 1]; exact wrow_set (w := wr) HD.out k _), (hB.setCell (by simp) _).drew⟩
            case measure => simp [intOf]; omega
          · go_simp
            refine hK.out _ _ trivial (fun hHeld => ?_)
            clear hK K
            try simp only [Act.put, List.setIfInBounds_toArray, List.set_cons_zero, List.set_cons_succ]
            refine wpAnyH_take (i := 12) (oi := { dst := some 29, op := Op.convert 5 106 (Operand.tmp 28), type := 106, pos := "ref.go:41", after := #[{ on := 11, ground := Ground.data }], guard := none }) (v := .int .u32 (c : Int)) rfl (by kernel_rfl) (by kernel_rfl) (by kernel_rfl) (fun _ _ _ h => h) (Or.inl ⟨by rfl, by intro W hSw; go_simp⟩) hHeld ?_
            try simp only [Act.put, List.setIfInBounds_toArray, List.set_cons_zero, List.set_cons_succ]
            refine wpAnyH_ready (rs := [3]) (by kernel_rfl) (by simp) ?_
            refine (AllReadyH.cons (o := { dst := some 20, op := Op.load 106 (Operand.tmp 19), type := 106, pos := "ref.go:41", after := #[{ on := 2, ground := Ground.data }], guard := none }) rfl (fun K hK => ?_) AllReadyH.nil)
            go_simp
            refine hK.out _ _ trivial (fun hHeld => ?_)
            clear hK K
            try simp only [Act.put, List.setIfInBounds_toArray, List.set_cons_zero, List.set_cons_succ]
            refine wpAnyH_take (i := 4) (oi := { dst := some 21, op := Op.binOp BinOp.mul 106 (Operand.tmp 20) (Operand.const (Value.int IntKind.u32 256)) 106, type := 106, pos := "ref.go:41", after := #[{ on := 3, ground := Ground.data }], guard := none }) (v := .int .u32 ((x : Int) * 256)) rfl (by kernel_rfl) (by kernel_rfl) (by kernel_rfl) (fun _ _ _ h => h) (Or.inl ⟨by rfl, by intro W hSw; go_simp⟩) hHeld ?_
            try simp only [Act.put, List.setIfInBounds_toArray, List.set_cons_zero, List.set_cons_succ]
            refine wpAnyH_take (i := 13) (oi := { dst := some 30, op := Op.binOp BinOp.add 106 (Operand.tmp 21) (Operand.tmp 29) 106, type := 106, pos := "ref.go:41", after := #[{ on := 4, ground := Ground.data }, { on := 12, ground := Ground.data }], guard := none }) (v := .int .u32 ((x : Int) * 256 + (c : Int))) rfl (by kernel_rfl) (by kernel_rfl) (by kernel_rfl) (fun _ _ _ h => h) (Or.inl ⟨by rfl, by intro W hSw; go_simp⟩) hHeld ?_
            try simp only [Act.put, List.setIfInBounds_toArray, List.set_cons_zero, List.set_cons_succ]
            refine wpAnyH_take (i := 14) (oi := { dst := some 31, op := Op.indexAddr 121 (Operand.tmp 3) (Operand.tmp 17), type := 0, pos := "ref.go:41", after := #[{ on := 0, ground := Ground.data }, { on := 0, ground := Ground.phase }, { on := 1, ground := Ground.phase }, { on := 2, ground := Ground.phase }, { on := 3, ground := Ground.phase }, { on := 4, ground := Ground.phase }, { on := 5, ground := Ground.phase }, { on := 6, ground := Ground.phase }, { on := 7, ground := Ground.phase }, { on := 8, ground := Ground.phase }, { on := 9, ground := Ground.phase }, { on := 10, ground := Ground.phase }, { on := 11, ground := Ground.phase }, { on := 12, ground := Ground.phase }, { on := 13, ground := Ground.phase }], guard := none }) (v := .pointer (some ⟨w.heap.size + 1, k, none⟩)) rfl (by kernel_rfl) (by kernel_rfl) (by kernel_rfl) (fun _ _ _ h => h) (Or.inl ⟨by rfl, by intro W hSw; go_simp⟩) hHeld ?_
            try simp only [Act.put, List.setIfInBounds_toArray, List.set_cons_zero, List.set_cons_succ]
            refine wpAnyH_ready (rs := [15]) (by kernel_rfl) (by simp) ?_
            refine (AllReadyH.cons (o := { dst := none, op := Op.store 106 (Operand.tmp 31) (Operand.tmp 30), type := 0, pos := "ref.go:41", after := #[{ on := 14, ground := Ground.data }, { on := 13, ground := Ground.data }, { on := 0, ground := Ground.phase }, { on := 1, ground := Ground.phase }, { on := 2, ground := Ground.phase }, { on := 3, ground := Ground.phase }, { on := 4, ground := Ground.phase }, { on := 5, ground := Ground.phase }, { on := 6, ground := Ground.phase }, { on := 7, ground := Ground.phase }, { on := 8, ground := Ground.phase }, { on := 9, ground := Ground.phase }, { on := 10, ground := Ground.phase }, { on := 11, ground := Ground.phase }, { on := 12, ground := Ground.phase }, { on := 13, ground := Ground.phase }], guard := none }) rfl (fun K hK => ?_) AllReadyH.nil)
            go_simp
            refine hK.out _ _ trivial (fun hHeld => ?_)
            clear hK K
            try simp only [Act.put, List.setIfInBounds_toArray, List.set_cons_zero, List.set_cons_succ]
            refine wpAnyH_done (by kernel_rfl) ?_ _
            go_wp2
            go_roundw
            case rel => exact ⟨j + 1, by omega, by go_num, ((heap_setCell_other wr _ _ _ (by simp)).trans HR.out), (by show _ = _; rw [← HN.out, show F.set k ((x * 256 + c : Nat) : Int) = (F.set k (x : Int)).set k ((x : Int) * 256 + (c : Int)) by rw [List.set_set]; congr 1]; exact wrow_set (w := wr) HD.out k _), (hB.setCell (by simp) _).drew⟩
            case measure => simp [intOf]; omega
        · obtain rfl : j = 4 := by omega
          have HN : Hid (fill ((words16 bl).take (k + 1)) = F.set k ((wpart bl k 4 : Nat) : Int)) := by
            show _ = _
            have h16 := words16_length bl
            have e : (words16 bl).take (k + 1) = (words16 bl).take k ++ [wordAt bl k] := by
              rw [List.take_add_one, List.getElem?_eq_getElem (by omega)]
              simp [words16]
            have := fill_set ((words16 bl).take k) (wordAt bl k) (by rw [HT.out]; omega)
            rw [HT.out] at this
            rw [e, ← this, HF.out, wpart_all]
          rw [← HN.out] at HD
          go_wp2
          go_roundw
          case rel => exact ⟨k + 1, by omega, by go_num, HR, HD, hB⟩
          case measure => simp [intOf]; omega
    · obtain rfl : k = 16 := by omega
      have HD16 : Hid (wr.heap[w.heap.size + 1]? = some (.cells (wcells (fill (grow (words16 bl) 0))).toArray 121 (0, 0))) := by
        have := HD.out
        rw [List.take_of_length_le (by rw [words16_length]; exact Nat.le_refl _)] at this
        exact this
      clear HD
      simp only [Int.cast_ofNat_Int]
      go_wp2
      go_loopw [6] (fun i wt => ∃ k : Nat, k ≤ 48 ∧ i = .int .i64 ((k : Int) + 16) ∧ Hid (wt.heap[w.heap.size]? = some (.cells Z 121 (0, 0))) ∧
          Hid (wt.heap[w.heap.size + 1]? = some (.cells (wcells (fill (grow (words16 bl) k))).toArray 121 (0, 0))) ∧ Below w.heap.size w wt)
        (fun i _ => 64 - (intOf i).toNat)
      case atStart => exact ⟨0, by omega, rfl, HR, HD16, hB⟩
      case round =>
        clear HD16 HR hB
        obtain ⟨k, hk, rfl, HR, HD, hB⟩ := hrel
        by_cases hlt : k < 48
        · have hdi : decide ((k : Int) + 16 < 64) = true := by rw [decide_eq_true_eq]; omega
          have hw15 := wrap_int ((k : Int) + 16 - 15) (by omega) (by omega)
          have hw2 := wrap_int ((k : Int) + 16 - 2) (by omega) (by omega)
          have hw16 := wrap_int ((k : Int) + 16 - 16) (by omega) (by omega)
          have hw7 := wrap_int ((k : Int) + 16 - 7) (by omega) (by omega)
          rw [show (k : Int) + 16 - 15 = (k : Int) + 1 by omega] at hw15
          obtain ⟨l, HLW⟩ : ∃ l, Hid (l = grow (words16 bl) k) := ⟨_, (rfl : grow (words16 bl) k = _)⟩
          have HLn : Hid (l.length = k + 16) := by show _ = _; rw [HLW.out, grow_length, words16_length]; omega
          have HOK : Hid (Ok l) := by show Ok _; rw [HLW.out]; exact grow_ok _ _ (ok16 bl)
          rw [← HLW.out] at HD
          have HF : Hid ((fill l).length = 64) := fill_length _ (by have := HLn.out; omega)
          obtain ⟨x16, X16⟩ : ∃ x, Hid (x = l.getD k 0) := ⟨_, (rfl : l.getD k 0 = _)⟩
          obtain ⟨x15, X15⟩ : ∃ x, Hid (x = l.getD (k + 1) 0) := ⟨_, (rfl : l.getD (k + 1) 0 = _)⟩
          obtain ⟨x7, X7⟩ : ∃ x, Hid (x = l.getD (k + 9) 0) := ⟨_, (rfl : l.getD (k + 9) 0 = _)⟩
          obtain ⟨x2, X2⟩ : ∃ x, Hid (x = l.getD (k + 14) 0) := ⟨_, (rfl : l.getD (k + 14) 0 = _)⟩
          have at_ : ∀ j, j < k + 16 → wr.cell? ⟨w.heap.size + 1, j, none⟩ = some (.int .u32 (l.getD j 0)) := fun j hj => by
            have h1 := HLn.out
            have h2 := HF.out
            rw [wrow_cell HD.out j (by omega), fill_at l j (by omega)]
          have range : ∀ j, j < k + 16 → 0 ≤ l.getD j 0 ∧ l.getD j 0 ≤ 4294967295 := fun j hj => by
            have h1 := HLn.out
            simp only [List.getD, List.getElem?_eq_getElem (show j < l.length by omega), Option.getD_some]
            exact HOK.out _ (List.getElem_mem _)
          have c16 := at_ k (by omega)
          have c15 := at_ (k + 1) (by omega)
          have c7 := at_ (k + 9) (by omega)
          have c2 := at_ (k + 14) (by omega)
          have r15 := range (k + 1) (by omega)
          have r2 := range (k + 14) (by omega)
          rw [← X16.out] at c16
          rw [← X15.out] at c15 r15
          rw [← X7.out] at c7
          rw [← X2.out] at c2 r2
          have ho := wrow_cell HD.out (k + 16) (by have := HF.out; omega)
          have hfz : wr.frozen? ⟨w.heap.size + 1, k + 16, none⟩ = false := frozen_of_row wr _ _ _ 121 HD.out
          clear at_ range
          have T7 : Hid _ := fun w => refTurn_any x15 7 128 33554432 w r15.1 r15.2 (by unfold Turn; decide)
          have T18 : Hid _ := fun w => refTurn_any x15 18 262144 16384 w r15.1 r15.2 (by unfold Turn; decide)
          have T17 : Hid _ := fun w => refTurn_any x2 17 131072 32768 w r2.1 r2.2 (by unfold Turn; decide)
          have T19 : Hid _ := fun w => refTurn_any x2 19 524288 8192 w r2.1 r2.2 (by unfold Turn; decide)
          go_wp2
          have hv16 : IntKind.i64.wrap ((k : Int) + 16 - 16) = (k : Int) := by rw [show (k : Int) + 16 - 16 = (k : Int) by omega]; exact wrap_int _ (by omega) (by omega)
          have hv7 : IntKind.i64.wrap ((k : Int) + 16 - 7) = (k : Int) + 9 := by rw [show (k : Int) + 16 - 7 = (k : Int) + 9 by omega]; exact wrap_int _ (by omega) (by omega)
          have ia := fun W => idxW W (w.heap.size + 1) k (k : Int) rfl (by omega)
          have ib := fun W => idxW W (w.heap.size + 1) (k + 9) ((k : Int) + 9) (by omega) (by omega)
          have ic := fun W => idxW W (w.heap.size + 1) (k + 16) ((k : Int) + 16) (by omega) (by omega)
          refine wp_region_held_drew (S := (fun W => W.cell? ⟨w.heap.size + 1, k, none⟩ = some (.int .u32 x16) ∧ W.cell? ⟨w.heap.size + 1, k + 9, none⟩ = some (.int .u32 x7))) (by kernel_rfl) ⟨c16, c7⟩ (fun hHeld => ?_)
          refine wpAnyH_take (i := 0) (oi := { dst := some 44, op := Op.move (Operand.tmp 6), type := 3, pos := "ref.go:47", after := #[], guard := none }) (v := .int .i64 ((k : Int) + 16)) rfl (by kernel_rfl) (by kernel_rfl) (by kernel_rfl) (fun _ _ _ h => h) (Or.inl ⟨by rfl, by intro W hSw; go_simp⟩) hHeld ?_
          try simp only [Act.put, List.setIfInBounds_toArray, List.set_cons_zero, List.set_cons_succ]
          refine wpAnyH_take (i := 1) (oi := { dst := some 45, op := Op.move (Operand.tmp 6), type := 3, pos := "ref.go:47", after := #[], guard := none }) (v := .int .i64 ((k : Int) + 16)) rfl (by kernel_rfl) (by kernel_rfl) (by kernel_rfl) (fun _ _ _ h => h) (Or.inl ⟨by rfl, by intro W hSw; go_simp⟩) hHeld ?_
          try simp only [Act.put, List.setIfInBounds_toArray, List.set_cons_zero, List.set_cons_succ]
          refine wpAnyH_take (i := 2) (oi := { dst := some 46, op := Op.binOp BinOp.sub 3 (Operand.tmp 45) (Operand.const (Value.int IntKind.i64 16)) 3, type := 3, pos := "ref.go:47", after := #[{ on := 1, ground := Ground.data }], guard := none }) (v := .int .i64 ((k : Int))) rfl (by kernel_rfl) (by kernel_rfl) (by kernel_rfl) (fun _ _ _ h => h) (Or.inl ⟨by rfl, by intro W hSw; go_simp; first | done | exact u32w _ | (rw [u32w]; first | rfl | omega) | omega | exact wrap_int _ (by omega) (by omega)⟩) hHeld ?_
          try simp only [Act.put, List.setIfInBounds_toArray, List.set_cons_zero, List.set_cons_succ]
          refine wpAnyH_take (i := 3) (oi := { dst := some 47, op := Op.indexAddr 121 (Operand.tmp 3) (Operand.tmp 46), type := 0, pos := "ref.go:47", after := #[{ on := 2, ground := Ground.data }], guard := none }) (v := .pointer (some ⟨w.heap.size + 1, k, none⟩)) rfl (by kernel_rfl) (by kernel_rfl) (by kernel_rfl) (fun _ _ _ h => h) (Or.inl ⟨by rfl, by intro W hSw; go_simp⟩) hHeld ?_
          try simp only [Act.put, List.setIfInBounds_toArray, List.set_cons_zero, List.set_cons_succ]
          refine wpAnyH_take (i := 4) (oi := { dst := some 48, op := Op.load 106 (Operand.tmp 47), type := 106, pos := "ref.go:47", after := #[{ on := 3, ground := Ground.data }], guard := none }) (v := .int .u32 (x16)) rfl (by kernel_rfl) (by kernel_rfl) (by kernel_rfl) (fun _ _ _ h => h) (Or.inl ⟨by rfl, by intro W hSw; obtain ⟨s1, s2⟩ := hSw; go_simp⟩) hHeld ?_
          try simp only [Act.put, List.setIfInBounds_toArray, List.set_cons_zero, List.set_cons_succ]
          refine wpAnyH_take (i := 5) (oi := { dst := some 49, op := Op.move (Operand.tmp 6), type := 3, pos := "ref.go:47", after := #[], guard := none }) (v := .int .i64 ((k : Int) + 16)) rfl (by kernel_rfl) (by kernel_rfl) (by kernel_rfl) (fun _ _ _ h => h) (Or.inl ⟨by rfl, by intro W hSw; go_simp⟩) hHeld ?_
          try simp only [Act.put, List.setIfInBounds_toArray, List.set_cons_zero, List.set_cons_succ]
          refine wpAnyH_take (i := 6) (oi := { dst := some 50, op := Op.binOp BinOp.sub 3 (Operand.tmp 49) (Operand.const (Value.int IntKind.i64 7)) 3, type := 3, pos := "ref.go:47", after := #[{ on := 5, ground := Ground.data }], guard := none }) (v := .int .i64 ((k : Int) + 9)) rfl (by kernel_rfl) (by kernel_rfl) (by kernel_rfl) (fun _ _ _ h => h) (Or.inl ⟨by rfl, by intro W hSw; go_simp; first | done | exact u32w _ | (rw [u32w]; first | rfl | omega) | omega | exact wrap_int _ (by omega) (by omega)⟩) hHeld ?_
          try simp only [Act.put, List.setIfInBounds_toArray, List.set_cons_zero, List.set_cons_succ]
          refine wpAnyH_take (i := 7) (oi := { dst := some 51, op := Op.indexAddr 121 (Operand.tmp 3) (Operand.tmp 50), type := 0, pos := "ref.go:47", after := #[{ on := 6, ground := Ground.data }], guard := none }) (v := .pointer (some ⟨w.heap.size + 1, k + 9, none⟩)) rfl (by kernel_rfl) (by kernel_rfl) (by kernel_rfl) (fun _ _ _ h => h) (Or.inl ⟨by rfl, by intro W hSw; go_simp⟩) hHeld ?_
          try simp only [Act.put, List.setIfInBounds_toArray, List.set_cons_zero, List.set_cons_succ]
          refine wpAnyH_take (i := 8) (oi := { dst := some 52, op := Op.load 106 (Operand.tmp 51), type := 106, pos := "ref.go:47", after := #[{ on := 7, ground := Ground.data }], guard := none }) (v := .int .u32 (x7)) rfl (by kernel_rfl) (by kernel_rfl) (by kernel_rfl) (fun _ _ _ h => h) (Or.inl ⟨by rfl, by intro W hSw; obtain ⟨s1, s2⟩ := hSw; go_simp⟩) hHeld ?_
          try simp only [Act.put, List.setIfInBounds_toArray, List.set_cons_zero, List.set_cons_succ]
          refine wpAnyH_take (i := 9) (oi := { dst := some 53, op := Op.binOp BinOp.add 106 (Operand.tmp 48) (Operand.tmp 52) 106, type := 106, pos := "ref.go:47", after := #[{ on := 4, ground := Ground.data }, { on := 8, ground := Ground.data }], guard := none }) (v := .int .u32 (((x16) + (x7)) % 4294967296)) rfl (by kernel_rfl) (by kernel_rfl) (by kernel_rfl) (fun _ _ _ h => h) (Or.inl ⟨by rfl, by intro W hSw; go_simp; first | done | exact u32w _ | (rw [u32w]; first | rfl | omega) | omega | exact wrap_int _ (by omega) (by omega)⟩) hHeld ?_
          try simp only [Act.put, List.setIfInBounds_toArray, List.set_cons_zero, List.set_cons_succ]
          refine wpAnyH_take (i := 10) (oi := { dst := some 54, op := Op.move (Operand.tmp 7), type := 106, pos := "ref.go:47", after := #[], guard := none }) (v := .int .u32 (x15)) rfl (by kernel_rfl) (by kernel_rfl) (by kernel_rfl) (fun _ _ _ h => h) (Or.inl ⟨by rfl, by intro W hSw; go_simp⟩) hHeld ?_
          try simp only [Act.put, List.setIfInBounds_toArray, List.set_cons_zero, List.set_cons_succ]
          refine wpAnyH_take (i := 12) (oi := { dst := some 56, op := Op.move (Operand.tmp 7), type := 106, pos := "ref.go:47", after := #[], guard := none }) (v := .int .u32 (x15)) rfl (by kernel_rfl) (by kernel_rfl) (by kernel_rfl) (fun _ _ _ h => h) (Or.inl ⟨by rfl, by intro W hSw; go_simp⟩) hHeld ?_
          try simp only [Act.put, List.setIfInBounds_toArray, List.set_cons_zero, List.set_cons_succ]
          refine wpAnyH_take (i := 15) (oi := { dst := some 59, op := Op.move (Operand.tmp 7), type := 106, pos := "ref.go:47", after := #[], guard := none }) (v := .int .u32 (x15)) rfl (by kernel_rfl) (by kernel_rfl) (by kernel_rfl) (fun _ _ _ h => h) (Or.inl ⟨by rfl, by intro W hSw; go_simp⟩) hHeld ?_
          try simp only [Act.put, List.setIfInBounds_toArray, List.set_cons_zero, List.set_cons_succ]
          refine wpAnyH_take (i := 16) (oi := { dst := some 60, op := Op.binOp BinOp.shr 106 (Operand.tmp 59) (Operand.const (Value.int IntKind.u64 3)) 114, type := 106, pos := "ref.go:47", after := #[{ on := 15, ground := Ground.data }], guard := none }) (v := .int .u32 ((x15) / 8)) rfl (by kernel_rfl) (by kernel_rfl) (by kernel_rfl) (fun _ _ _ h => h) (Or.inl ⟨by rfl, by intro W hSw; go_simp; first | done | exact u32w _ | (rw [u32w]; first | rfl | omega) | omega | exact wrap_int _ (by omega) (by omega)⟩) hHeld ?_
          try simp only [Act.put, List.setIfInBounds_toArray, List.set_cons_zero, List.set_cons_succ]
          refine wpAnyH_take (i := 19) (oi := { dst := some 63, op := Op.move (Operand.tmp 8), type := 106, pos := "ref.go:47", after := #[], guard := none }) (v := .int .u32 (x2)) rfl (by kernel_rfl) (by kernel_rfl) (by kernel_rfl) (fun _ _ _ h => h) (Or.inl ⟨by rfl, by intro W hSw; go_simp⟩) hHeld ?_
          try simp only [Act.put, List.setIfInBounds_toArray, List.set_cons_zero, List.set_cons_succ]
          refine wpAnyH_take (i := 21) (oi := { dst := some 65, op := Op.move (Operand.tmp 8), type := 106, pos := "ref.go:47", after := #[], guard := none }) (v := .int .u32 (x2)) rfl (by kernel_rfl) (by kernel_rfl) (by kernel_rfl) (fun _ _ _ h => h) (Or.inl ⟨by rfl, by intro W hSw; go_simp⟩) hHeld ?_
          try simp only [Act.put, List.setIfInBounds_toArray, List.set_cons_zero, List.set_cons_succ]
          refine wpAnyH_take (i := 24) (oi := { dst := some 68, op := Op.move (Operand.tmp 8), type := 106, pos := "ref.go:47", after := #[], guard := none }) (v := .int .u32 (x2)) rfl (by kernel_rfl) (by kernel_rfl) (by kernel_rfl) (fun _ _ _ h => h) (Or.inl ⟨by rfl, by intro W hSw; go_simp⟩) hHeld ?_
          try simp only [Act.put, List.setIfInBounds_toArray, List.set_cons_zero, List.set_cons_succ]
          refine wpAnyH_take (i := 25) (oi := { dst := some 69, op := Op.binOp BinOp.shr 106 (Operand.tmp 68) (Operand.const (Value.int IntKind.u64 10)) 114, type := 106, pos := "ref.go:47", after := #[{ on := 24, ground := Ground.data }], guard := none }) (v := .int .u32 ((x2) / 1024)) rfl (by kernel_rfl) (by kernel_rfl) (by kernel_rfl) (fun _ _ _ h => h) (Or.inl ⟨by rfl, by intro W hSw; go_simp; first | done | exact u32w _ | (rw [u32w]; first | rfl | omega) | omega | exact wrap_int _ (by omega) (by omega)⟩) hHeld ?_
          try simp only [Act.put, List.setIfInBounds_toArray, List.set_cons_zero, List.set_cons_succ]
          refine wpAnyH_ready (rs := [11]) (by kernel_rfl) (by simp) ?_
          refine AllReadyH.cons (o := { dst := some 55, op := Op.call { callee := Callee.value (Operand.func 91), args := #[Operand.tmp 54, Operand.const (Value.int IntKind.i64 7)], argTypes := #[106, 3] }, type := 106, pos := "ref.go:47", after := #[{ on := 10, ground := Ground.data }], guard := none }) rfl (fun K hK => ?_) AllReadyH.nil
          go_simp
          refine (T7.out _).mono ?_
          rintro e w' ⟨rfl, n1, rfl⟩
          go_wp2_with fail
          refine hK.out _ _ hHeld (fun hHeld => ?_)
          clear hK K
          try simp only [Act.put, List.setIfInBounds_toArray, List.set_cons_zero, List.set_cons_succ]
          refine wpAnyH_ready (rs := [13]) (by kernel_rfl) (by simp) ?_
          refine AllReadyH.cons (o := { dst := some 57, op := Op.call { callee := Callee.value (Operand.func 91), args := #[Operand.tmp 56, Operand.const (Value.int IntKind.i64 18)], argTypes := #[106, 3] }, type := 106, pos := "ref.go:47", after := #[{ on := 12, ground := Ground.data }, { on := 11, ground := Ground.chain }], guard := none }) rfl (fun K hK => ?_) AllReadyH.nil
          go_simp
          refine (T18.out _).mono ?_
          rintro e w' ⟨rfl, n1, rfl⟩
          go_wp2_with fail
          refine hK.out _ _ hHeld (fun hHeld => ?_)
          clear hK K
          try simp only [Act.put, List.setIfInBounds_toArray, List.set_cons_zero, List.set_cons_succ]
          refine wpAnyH_take (i := 14) (oi := { dst := some 58, op := Op.binOp BinOp.xor 106 (Operand.tmp 55) (Operand.tmp 57) 106, type := 106, pos := "ref.go:47", after := #[{ on := 11, ground := Ground.data }, { on := 13, ground := Ground.data }], guard := none }) (v := .int .u32 (bits .xor .u32 (rot (x15) 128 33554432) (rot (x15) 262144 16384))) rfl (by kernel_rfl) (by kernel_rfl) (by kernel_rfl) (fun _ _ _ h => h) (Or.inl ⟨by rfl, by intro W hSw; go_simp; first | done | exact u32w _ | (rw [u32w]; first | rfl | omega) | omega | exact wrap_int _ (by omega) (by omega)⟩) hHeld ?_
          try simp only [Act.put, List.setIfInBounds_toArray, List.set_cons_zero, List.set_cons_succ]
          refine wpAnyH_take (i := 17) (oi := { dst := some 61, op := Op.binOp BinOp.xor 106 (Operand.tmp 58) (Operand.tmp 60) 106, type := 106, pos := "ref.go:47", after := #[{ on := 14, ground := Ground.data }, { on := 16, ground := Ground.data }], guard := none }) (v := .int .u32 (bits .xor .u32 (bits .xor .u32 (rot (x15) 128 33554432) (rot (x15) 262144 16384)) ((x15) / 8))) rfl (by kernel_rfl) (by kernel_rfl) (by kernel_rfl) (fun _ _ _ h => h) (Or.inl ⟨by rfl, by intro W hSw; go_simp; first | done | exact u32w _ | (rw [u32w]; first | rfl | omega) | omega | exact wrap_int _ (by omega) (by omega)⟩) hHeld ?_
          try simp only [Act.put, List.setIfInBounds_toArray, List.set_cons_zero, List.set_cons_succ]
          refine wpAnyH_take (i := 18) (oi := { dst := some 62, op := Op.binOp BinOp.add 106 (Operand.tmp 53) (Operand.tmp 61) 106, type := 106, pos := "ref.go:47", after := #[{ on := 9, ground := Ground.data }, { on := 17, ground := Ground.data }], guard := none }) (v := .int .u32 (((((x16) + (x7)) % 4294967296) + (bits .xor .u32 (bits .xor .u32 (rot (x15) 128 33554432) (rot (x15) 262144 16384)) ((x15) / 8))) % 4294967296)) rfl (by kernel_rfl) (by kernel_rfl) (by kernel_rfl) (fun _ _ _ h => h) (Or.inl ⟨by rfl, by intro W hSw; go_simp; first | done | exact u32w _ | (rw [u32w]; first | rfl | omega) | omega | exact wrap_int _ (by omega) (by omega)⟩) hHeld ?_
          try simp only [Act.put, List.setIfInBounds_toArray, List.set_cons_zero, List.set_cons_succ]
          refine wpAnyH_ready (rs := [20]) (by kernel_rfl) (by simp) ?_
          refine AllReadyH.cons (o := { dst := some 64, op := Op.call { callee := Callee.value (Operand.func 91), args := #[Operand.tmp 63, Operand.const (Value.int IntKind.i64 17)], argTypes := #[106, 3] }, type := 106, pos := "ref.go:47", after := #[{ on := 19, ground := Ground.data }, { on := 13, ground := Ground.chain }], guard := none }) rfl (fun K hK => ?_) AllReadyH.nil
          go_simp
          refine (T17.out _).mono ?_
          rintro e w' ⟨rfl, n1, rfl⟩
          go_wp2_with fail
          refine hK.out _ _ hHeld (fun hHeld => ?_)
          clear hK K
          try simp only [Act.put, List.setIfInBounds_toArray, List.set_cons_zero, List.set_cons_succ]
          refine wpAnyH_ready (rs := [22]) (by kernel_rfl) (by simp) ?_
          refine AllReadyH.cons (o := { dst := some 66, op := Op.call { callee := Callee.value (Operand.func 91), args := #[Operand.tmp 65, Operand.const (Value.int IntKind.i64 19)], argTypes := #[106, 3] }, type := 106, pos := "ref.go:47", after := #[{ on := 21, ground := Ground.data }, { on := 20, ground := Ground.chain }], guard := none }) rfl (fun K hK => ?_) AllReadyH.nil
          go_simp
          refine (T19.out _).mono ?_
          rintro e w' ⟨rfl, n1, rfl⟩
          go_wp2_with fail
          refine hK.out _ _ hHeld (fun hHeld => ?_)
          clear hK K
          try simp only [Act.put, List.setIfInBounds_toArray, List.set_cons_zero, List.set_cons_succ]
          refine wpAnyH_take (i := 23) (oi := { dst := some 67, op := Op.binOp BinOp.xor 106 (Operand.tmp 64) (Operand.tmp 66) 106, type := 106, pos := "ref.go:47", after := #[{ on := 20, ground := Ground.data }, { on := 22, ground := Ground.data }], guard := none }) (v := .int .u32 (bits .xor .u32 (rot (x2) 131072 32768) (rot (x2) 524288 8192))) rfl (by kernel_rfl) (by kernel_rfl) (by kernel_rfl) (fun _ _ _ h => h) (Or.inl ⟨by rfl, by intro W hSw; go_simp; first | done | exact u32w _ | (rw [u32w]; first | rfl | omega) | omega | exact wrap_int _ (by omega) (by omega)⟩) hHeld ?_
          try simp only [Act.put, List.setIfInBounds_toArray, List.set_cons_zero, List.set_cons_succ]
          refine wpAnyH_take (i := 26) (oi := { dst := some 70, op := Op.binOp BinOp.xor 106 (Operand.tmp 67) (Operand.tmp 69) 106, type := 106, pos := "ref.go:47", after := #[{ on := 23, ground := Ground.data }, { on := 25, ground := Ground.data }], guard := none }) (v := .int .u32 (bits .xor .u32 (bits .xor .u32 (rot (x2) 131072 32768) (rot (x2) 524288 8192)) ((x2) / 1024))) rfl (by kernel_rfl) (by kernel_rfl) (by kernel_rfl) (fun _ _ _ h => h) (Or.inl ⟨by rfl, by intro W hSw; go_simp; first | done | exact u32w _ | (rw [u32w]; first | rfl | omega) | omega | exact wrap_int _ (by omega) (by omega)⟩) hHeld ?_
          try simp only [Act.put, List.setIfInBounds_toArray, List.set_cons_zero, List.set_cons_succ]
          refine wpAnyH_take (i := 27) (oi := { dst := some 71, op := Op.binOp BinOp.add 106 (Operand.tmp 62) (Operand.tmp 70) 106, type := 106, pos := "ref.go:47", after := #[{ on := 18, ground := Ground.data }, { on := 26, ground := Ground.data }], guard := none }) (v := .int .u32 (((((((x16) + (x7)) % 4294967296) + (bits .xor .u32 (bits .xor .u32 (rot (x15) 128 33554432) (rot (x15) 262144 16384)) ((x15) / 8))) % 4294967296) + (bits .xor .u32 (bits .xor .u32 (rot (x2) 131072 32768) (rot (x2) 524288 8192)) ((x2) / 1024))) % 4294967296)) rfl (by kernel_rfl) (by kernel_rfl) (by kernel_rfl) (fun _ _ _ h => h) (Or.inl ⟨by rfl, by intro W hSw; go_simp; first | done | exact u32w _ | (rw [u32w]; first | rfl | omega) | omega | exact wrap_int _ (by omega) (by omega)⟩) hHeld ?_
          try simp only [Act.put, List.setIfInBounds_toArray, List.set_cons_zero, List.set_cons_succ]
          refine wpAnyH_take (i := 28) (oi := { dst := some 72, op := Op.indexAddr 121 (Operand.tmp 3) (Operand.tmp 44), type := 0, pos := "ref.go:47", after := #[{ on := 0, ground := Ground.data }, { on := 0, ground := Ground.phase }, { on := 1, ground := Ground.phase }, { on := 2, ground := Ground.phase }, { on := 3, ground := Ground.phase }, { on := 4, ground := Ground.phase }, { on := 5, ground := Ground.phase }, { on := 6, ground := Ground.phase }, { on := 7, ground := Ground.phase }, { on := 8, ground := Ground.phase }, { on := 9, ground := Ground.phase }, { on := 10, ground := Ground.phase }, { on := 11, ground := Ground.phase }, { on := 12, ground := Ground.phase }, { on := 13, ground := Ground.phase }, { on := 14, ground := Ground.phase }, { on := 15, ground := Ground.phase }, { on := 16, ground := Ground.phase }, { on := 17, ground := Ground.phase }, { on := 18, ground := Ground.phase }, { on := 19, ground := Ground.phase }, { on := 20, ground := Ground.phase }, { on := 21, ground := Ground.phase }, { on := 22, ground := Ground.phase }, { on := 23, ground := Ground.phase }, { on := 24, ground := Ground.phase }, { on := 25, ground := Ground.phase }, { on := 26, ground := Ground.phase }, { on := 27, ground := Ground.phase }], guard := none }) (v := .pointer (some ⟨w.heap.size + 1, k + 16, none⟩)) rfl (by kernel_rfl) (by kernel_rfl) (by kernel_rfl) (fun _ _ _ h => h) (Or.inl ⟨by rfl, by intro W hSw; go_simp⟩) hHeld ?_
          try simp only [Act.put, List.setIfInBounds_toArray, List.set_cons_zero, List.set_cons_succ]
          refine wpAnyH_ready (rs := [29]) (by kernel_rfl) (by simp) ?_
          refine AllReadyH.cons (o := { dst := none, op := Op.store 106 (Operand.tmp 72) (Operand.tmp 71), type := 0, pos := "ref.go:47", after := #[{ on := 28, ground := Ground.data }, { on := 27, ground := Ground.data }, { on := 22, ground := Ground.chain }, { on := 0, ground := Ground.phase }, { on := 1, ground := Ground.phase }, { on := 2, ground := Ground.phase }, { on := 3, ground := Ground.phase }, { on := 4, ground := Ground.phase }, { on := 5, ground := Ground.phase }, { on := 6, ground := Ground.phase }, { on := 7, ground := Ground.phase }, { on := 8, ground := Ground.phase }, { on := 9, ground := Ground.phase }, { on := 10, ground := Ground.phase }, { on := 11, ground := Ground.phase }, { on := 12, ground := Ground.phase }, { on := 13, ground := Ground.phase }, { on := 14, ground := Ground.phase }, { on := 15, ground := Ground.phase }, { on := 16, ground := Ground.phase }, { on := 17, ground := Ground.phase }, { on := 18, ground := Ground.phase }, { on := 19, ground := Ground.phase }, { on := 20, ground := Ground.phase }, { on := 21, ground := Ground.phase }, { on := 22, ground := Ground.phase }, { on := 23, ground := Ground.phase }, { on := 24, ground := Ground.phase }, { on := 25, ground := Ground.phase }, { on := 26, ground := Ground.phase }, { on := 27, ground := Ground.phase }], guard := none }) rfl (fun K hK => ?_) AllReadyH.nil
          go_simp
          try go_wp2_with fail
          refine hK.out _ _ ⟨(World.cell?_setCell_other _ _ _ _ (by simp)).trans c16, (World.cell?_setCell_other _ _ _ _ (by simp)).trans c7⟩ (fun hHeld => ?_)
          clear hK K
          try simp only [Act.put, List.setIfInBounds_toArray, List.set_cons_zero, List.set_cons_succ]
          refine wpAnyH_done (by kernel_rfl) ?_ _
          have HN : Hid ((x16 + x7 + bits .xor .u32 (bits .xor .u32 (rot x15 128 33554432) (rot x15 262144 16384)) (x15 / 8) + bits .xor .u32 (bits .xor .u32 (rot x2 131072 32768) (rot x2 524288 8192)) (x2 / 1024)) % 4294967296 = nextW l) := by
            show _ = _
            have h1 := HLn.out
            unfold nextW
            rw [h1, show k + 16 - 16 = k by omega, show k + 16 - 7 = k + 9 by omega, show k + 16 - 15 = k + 1 by omega, show k + 16 - 2 = k + 14 by omega, ← X16.out, ← X7.out, ← X15.out, ← X2.out]
            unfold add32 xor32
            omega
          have HFS : Hid (fill (grow (words16 bl) (k + 1)) = (fill l).set (k + 16) (nextW l)) := by
            show _ = _
            have h1 := HLn.out
            have := fill_set l (nextW l) (by omega)
            rw [h1] at this
            rw [this]
            unfold grow
            rw [← HLW.out]
          go_wp2
          rw [HN.out]
          go_roundw
          case rel =>
            refine ⟨k + 1, by omega, by go_num, ?_, ?_, (below_drewN hB _).setCell (by simp) _⟩
            · show _ = _
              rw [heap_setCell_other _ _ _ _ (by simp)]
              exact HR.out
            · show _ = _
              rw [HFS.out]
              exact wrow_set (w := wr.drewN _) HD.out (k + 16) _
          case measure => simp [intOf]; omega
        · obtain rfl : k = 48 := by omega
          obtain ⟨D, HDD⟩ : ∃ D, Hid (D = (wcells (sched bl)).toArray) := ⟨_, (rfl : (wcells (sched bl)).toArray = _)⟩
          have HDL : Hid (wr.heap[w.heap.size + 1]? = some (.cells D 121 (0, 0))) := by
            show _ = _
            rw [HDD.out]
            have := HD.out
            have e : fill (grow (words16 bl) 48) = sched bl := by
              unfold fill sched
              rw [grow_length, words16_length]
              simp
            rw [e] at this
            exact this
          have HD64 : Hid (Z.size = D.size) := by
            show _ = _
            rw [HZ64.out, HDD.out]
            simp [wcells_length, sched, grow_length, words16_length]
          have HSD : Hid ((Tryd.prog.info? 121).map (·.size) = some D.size) := by
            show _ = _
            rw [← HD64.out]; exact HS.out
          have H1D : Hid (D.all (·.oneCell') = true) := by
            show _ = _
            rw [HDD.out]; exact wcells_all _
          go_wp2_with (first
            | (refine wpList_load_row rfl 121 (.tmp 3) rfl (w.heap.size + 1) rfl 121 D (0, 0) _ HDL.out Tryd.underlying121 rfl HSD.out ?_)
            | (refine wpList_store_row rfl 121 (.tmp 2) (.tmp 73) rfl w.heap.size D rfl rfl 121 Z HR.out HSD.out HD64.out H1D.out ?_)
            | fail)
          refine bodyPost_ret (v := .agg D) ?_ rfl ⟨?_, ?_⟩
          · exact results_cell_row (p := 2) (ty := 121) rfl _ _ w.heap.size 121 D (0, 0) _ rfl (setRow_heap _ _ _ _ 121 _ HR.out) Tryd.underlying121 rfl HSD.out
          · rw [HDD.out]
          · exact below_setRow hB (Nat.le_refl _) _
end Go.Proofs.YtdnhnjimhbbabaaDoor

/- What the document's block answers: the state behind a block. -/
namespace Go.Proofs.YtdnhnjimhbbabaaDoor
open Go.RowKit Sums
set_option linter.unusedVariables false
set_option linter.unusedSimpArgs false
theorem idxE (W : World) (g j : Nat) (z : Int) (hz : z = j) (hj : j < 8) : (Instr.indexAt 107 (.pointer (some ⟨g, 0, none⟩)) (.int .i64 z)).run Tryd.prog W = .ok (.pointer (some ⟨g, j, none⟩)) W := by
  subst hz
  have hs : ∀ w, (sizeOf 106).run Tryd.prog w = .ok 1 w := by
    intro w
    have hq : (Tryd.prog.info? 106).map (·.size) = some 1 := by kernel_rfl
    cases h : Tryd.prog.info? 106 with
    | none => simp [h] at hq
    | some i => simp [h] at hq; simp [sizeOf, typeInfo, h, hq]
  simp [Instr.indexAt, run_underlying Tryd.underlying107, Instr.sureAddr, asIntOf, hj, hs, add_plain]
/-- Two lists of eight: the second one's first i, and the first one's others. -/
def mixl (a b : List Int) (i : Nat) : List Int := b.take i ++ a.drop i
theorem mixl_length (a b : List Int) (i : Nat) (ha : a.length = 8) (hb : b.length = 8) (hi : i ≤ 8) : (mixl a b i).length = 8 := by simp [mixl]; omega
theorem mixl_at (a b : List Int) (i : Nat) (ha : a.length = 8) (hb : b.length = 8) (hi : i < 8) (h : i < (mixl a b i).length) : (mixl a b i)[i] = a[i] := by
  have e : (mixl a b i)[i]? = a[i]? := by
    unfold mixl
    rw [List.getElem?_append_right (by simp; omega), List.getElem?_drop, List.length_take]
    congr 1
    omega
  rw [List.getElem?_eq_getElem h, List.getElem?_eq_getElem (by omega)] at e
  exact Option.some.inj e
theorem mixl_set (a b : List Int) (i : Nat) (ha : a.length = 8) (hb : b.length = 8) (hi : i < 8) : (mixl a b i).set i b[i] = mixl a b (i + 1) := by
  unfold mixl
  rw [List.set_append, if_neg (by simp; omega), List.length_take, show i - min i b.length = 0 by omega, List.take_add_one, List.getElem?_eq_getElem (by omega), List.drop_eq_getElem_cons (show i < a.length by omega), List.set_cons_zero]
  simp only [Option.toList_some, List.append_assoc, List.cons_append, List.nil_append]
theorem plus_at (s r : St) (i : Nat) (hi : i < 8) (h1 : i < (plus s r).list.length) (h2 : i < s.list.length) (h3 : i < r.list.length) : (plus s r).list[i] = (s.list[i] + r.list[i]) % 4294967296 := by
  match i, hi with
  | 0, _ => rfl
  | 1, _ => rfl
  | 2, _ => rfl
  | 3, _ => rfl
  | 4, _ => rfl
  | 5, _ => rfl
  | 6, _ => rfl
  | 7, _ => rfl
theorem mixl_next (s r : St) (i : Nat) (hi : i < 8) (h2 : i < s.list.length) (h3 : i < r.list.length) : (mixl s.list (plus s r).list i).set i ((s.list[i] + r.list[i]) % 4294967296) = mixl s.list (plus s r).list (i + 1) := by
  have h1 : i < (plus s r).list.length := by rw [list_length]; exact hi
  have h := mixl_set s.list (plus s r).list i (list_length s) (list_length _) hi
  rw [← h]
  exact congrArg (fun z => (mixl s.list (plus s r).list i).set i z) (plus_at s r i hi h1 h2 h3).symm
set_option maxHeartbeats 4000000 in
set_option maxRecDepth 100000 in
theorem refBlock_any (s : St) (b off cap : Nat) (bl : List UInt8) (w : World) (hs : OkSt s) (hl : bl.length = 64) (hc : 64 ≤ cap) (hc2 : cap ≤ 9223372036854775807) (hb : b < w.heap.size) (hL : Lies w b off bl) (hT : Table 1 w) :
    Calls Tryd.prog 83 #[.agg (wcells s.list).toArray, .slice (some ⟨b, off, none⟩) 64 cap] w fun e w' => e = .returned (.agg (wcells (block s bl).list).toArray) ∧ Below w.heap.size w w' := by
  obtain ⟨Z8, HA8, HS8, H8⟩ := noughts38
  obtain ⟨Z, HZ, HA, HS, H1, HZ64⟩ := noughts45
  obtain ⟨D, HD, HSD, H1D, H8D⟩ := words_row s.list 107 8 rfl size38
  obtain ⟨V, HV, HSV, H1V, H64V⟩ := words_row (sched bl) 121 64 (sched_length bl) size45
  have HZV : Hid (Z.size = V.size) := by show _ = _; rw [HZ64.out, H64V.out]
  have H8Z : Hid (Z8.size = D.size) := by show _ = _; rw [H8.out, H8D.out]
  have HTB : Hid (Table 1 w) := hT
  have HOK : Hid (OkSt s) := hs
  have HK : Hid (∀ w1, Below w.heap.size w w1 → Calls Tryd.prog 90 #[.slice (some ⟨b, off, none⟩) 64 cap] w1 fun e w' => e = .returned (.agg V) ∧ Below w1.heap.size w1 w') := by
    intro w1 hb1
    rw [HV.out]
    exact refWords_any b off cap bl w1 hl hc hc2 (Nat.lt_of_lt_of_le hb hb1.size) (hL.keep hb1 hb)
  rw [← HD.out]
  clear hL hl hT hs
  go_enter Tryd.func83, Tryd.ntmps83
  go_wp2_with (first
    | (refine wpList_alloc_row rfl 107 rfl Z8 HA8.out ?_)
    | fail)
  have hB0 : Below w.heap.size w ((w.alloc (.cells D 107)).alloc (.cells Z8 107)) := ((Below.refl _ _).alloc (Nat.le_refl _) _).alloc (by simp) _
  refine (HK.out _ hB0).mono ?_
  rintro e w1 ⟨rfl, hb1⟩
  have hs1 := hb1.size
  simp only [World.size_alloc] at hs1
  have HG1 : Hid (w1.heap[w.heap.size]? = some (.cells D 107 (0, 0)) ∧ w1.heap[w.heap.size + 1]? = some (.cells Z8 107 (0, 0))) := by
    refine ⟨?_, ?_⟩
    · rw [hb1.block _ (by simp only [World.size_alloc]; omega)]; exact heap_alloc2_old w _ _
    · rw [hb1.block _ (by simp only [World.size_alloc]; omega)]; exact heap_alloc2_new w _ _
  go_wp2_with (first
    | (refine wpList_alloc_row rfl 121 rfl Z HA.out ?_)
    | (refine wpList_store_row rfl 121 (.tmp 5) (.tmp 12) rfl w1.heap.size V rfl rfl 121 Z (heap_alloc_new w1 _) HSV.out HZV.out H1V.out ?_)
    | (refine wpList_load_row rfl 107 (.tmp 2) rfl w.heap.size rfl 107 D (0, 0) _ (keep_var HG1.out.1 _ _) Tryd.underlying107 rfl HSD.out ?_)
    | (refine wpList_alloc_row rfl 107 rfl Z8 HA8.out ?_)
    | (refine wpList_store_row rfl 107 (.tmp 6) (.tmp 13) rfl ((w1.alloc (.cells Z 121)).setRow w1.heap.size V).heap.size D rfl rfl 107 Z8 (heap_alloc_new _ _) HSD.out H8Z.out H1D.out ?_)
    | fail)
  obtain ⟨wa, hwa⟩ : ∃ wa, wa = (w1.alloc (.cells Z 121)).setRow w1.heap.size V := ⟨_, rfl⟩
  have hwas : wa.heap.size = w1.heap.size + 1 := by rw [hwa]; exact size_var _ _ _
  rw [← hwa]
  obtain ⟨w2, hw2⟩ : ∃ w2, w2 = (wa.alloc (.cells Z8 107)).setRow (w1.heap.size + 1) D := ⟨_, rfl⟩
  rw [← hw2]
  have HG : Hid (w2.heap[w.heap.size]? = some (.cells D 107 (0, 0)) ∧ w2.heap[w.heap.size + 1]? = some (.cells Z8 107 (0, 0)) ∧ w2.heap[w1.heap.size]? = some (.cells V 121 (0, 0)) ∧
      w2.heap[w1.heap.size + 1]? = some (.cells (wcells (Sums.run s (sched bl) 0).list).toArray 107 (0, 0))) := by
    rw [hw2, ← hwas]
    have G1 : wa.heap[w.heap.size]? = some (.cells D 107 (0, 0)) := by rw [hwa]; exact keep_var HG1.out.1 _ _
    have G2 : wa.heap[w.heap.size + 1]? = some (.cells Z8 107 (0, 0)) := by rw [hwa]; exact keep_var HG1.out.2 _ _
    have G3 : wa.heap[w1.heap.size]? = some (.cells V 121 (0, 0)) := by rw [hwa]; exact new_var w1 Z V 121
    refine ⟨keep_var G1 _ _, keep_var G2 _ _, keep_var G3 _ _, ?_⟩
    have := new_var wa Z8 D 107
    rw [HD.out] at this ⊢
    exact this
  have hB2 : Below w.heap.size w w2 := by
    rw [hw2, ← hwas]
    refine below_var ?_ (by omega) _ _
    rw [hwa]
    exact below_var (hB0.trans (hb1.mono (by simp only [World.size_alloc]; omega))) (by omega) _ _
  obtain ⟨gw, HGW⟩ : ∃ gw, Hid (gw = w1.heap.size) := ⟨_, (rfl : w1.heap.size = _)⟩
  have hgw : w.heap.size + 2 ≤ gw := by rw [HGW.out]; omega
  rw [← HGW.out] at HG ⊢
  clear hw2 hb1 hs1 hB0 HK hwa hwas HG1 HGW
  clear wa w1
  go_loopw [7] (fun v wr => ∃ (k : Nat), k ≤ 64 ∧ v = .int .i64 k ∧ Hid (wr.heap[w.heap.size]? = some (.cells D 107 (0, 0)) ∧ wr.heap[w.heap.size + 1]? = some (.cells Z8 107 (0, 0)) ∧ wr.heap[gw]? = some (.cells V 121 (0, 0)) ∧
      wr.heap[gw + 1]? = some (.cells (wcells (Sums.run s (sched bl) k).list).toArray 107 (0, 0))) ∧ Below w.heap.size w wr)
    (fun v _ => 64 - (intOf v).toNat)
  case atStart => exact ⟨0, by omega, rfl, HG, hB2⟩
  case round =>
    clear HG hB2
    obtain ⟨k, hk, rfl, HG, hB⟩ := hrel
    obtain ⟨r, HR⟩ : ∃ r, Hid (r = Sums.run s (sched bl) k) := ⟨_, (rfl : Sums.run s (sched bl) k = _)⟩
    rw [← HR.out] at HG
    by_cases hlt : k < 64
    · have hdi : decide ((k : Int) < 64) = true := by rw [decide_eq_true_eq]; omega
      have HOr : Hid (OkSt r) := by show OkSt _; rw [HR.out]; exact run_ok _ _ _ HOK.out
      obtain ⟨kk, HKK⟩ : ∃ kk, Hid (kk = kT.getD k 0) := ⟨_, (rfl : kT.getD k 0 = _)⟩
      obtain ⟨ww, HWW⟩ : ∃ ww, Hid (ww = (sched bl).getD k 0) := ⟨_, (rfl : (sched bl).getD k 0 = _)⟩
      have ck : wr.cell? ⟨1, k, none⟩ = some (.int .u32 kk) := by
        rw [HKK.out]; exact (HTB.out.keep hB).2 k hlt
      have cw : wr.cell? ⟨gw, k, none⟩ = some (.int .u32 ww) := by
        have h1 := HG.out.2.2.1
        rw [HV.out] at h1
        have := wrow_cell h1 k (by rw [sched_length]; omega)
        rw [HWW.out]
        simpa [List.getD, List.getElem?_eq_getElem (show k < (sched bl).length by rw [sched_length]; omega)] using this
      have HE : Hid (Sums.step r kk ww = Sums.run s (sched bl) (k + 1)) := by
        show _ = _
        rw [HKK.out, HWW.out, HR.out]
        rfl
      obtain ⟨ra, rb, rc, rd, re, rf, rg, rh⟩ := r
      have HB : Hid ((0 ≤ ra ∧ ra ≤ 4294967295) ∧ (0 ≤ re ∧ re ≤ 4294967295)) := ⟨HOr.out ra (by simp [St.list]), HOr.out re (by simp [St.list])⟩
      have T6 : Hid _ := fun w => refTurn_any re 6 64 67108864 w HB.out.2.1 HB.out.2.2 (by unfold Turn; decide)
      have T11 : Hid _ := fun w => refTurn_any re 11 2048 2097152 w HB.out.2.1 HB.out.2.2 (by unfold Turn; decide)
      have T25 : Hid _ := fun w => refTurn_any re 25 33554432 128 w HB.out.2.1 HB.out.2.2 (by unfold Turn; decide)
      have T2 : Hid _ := fun w => refTurn_any ra 2 4 1073741824 w HB.out.1.1 HB.out.1.2 (by unfold Turn; decide)
      have T13 : Hid _ := fun w => refTurn_any ra 13 8192 524288 w HB.out.1.1 HB.out.1.2 (by unfold Turn; decide)
      have T22 : Hid _ := fun w => refTurn_any ra 22 4194304 1024 w HB.out.1.1 HB.out.1.2 (by unfold Turn; decide)
      have V8 : ∀ j, (hj : j < 8) → wr.cell? ⟨gw + 1, j, none⟩ = some (.int .u32 ((⟨ra, rb, rc, rd, re, rf, rg, rh⟩ : St).list[j]'(by rw [list_length]; exact hj))) := fun j hj => wrow_cell HG.out.2.2.2 j hj
      have c0 : wr.cell? ⟨gw + 1, 0, none⟩ = some (.int .u32 ra) := V8 0 (by omega)
      have c1 : wr.cell? ⟨gw + 1, 1, none⟩ = some (.int .u32 rb) := V8 1 (by omega)
      have c2 : wr.cell? ⟨gw + 1, 2, none⟩ = some (.int .u32 rc) := V8 2 (by omega)
      have c3 : wr.cell? ⟨gw + 1, 3, none⟩ = some (.int .u32 rd) := V8 3 (by omega)
      have c4 : wr.cell? ⟨gw + 1, 4, none⟩ = some (.int .u32 re) := V8 4 (by omega)
      have c5 : wr.cell? ⟨gw + 1, 5, none⟩ = some (.int .u32 rf) := V8 5 (by omega)
      have c6 : wr.cell? ⟨gw + 1, 6, none⟩ = some (.int .u32 rg) := V8 6 (by omega)
      have c7 : wr.cell? ⟨gw + 1, 7, none⟩ = some (.int .u32 rh) := V8 7 (by omega)
      clear V8
      have ia := fun W => idxW W 1 k (k : Int) rfl hlt
      have ib := fun W => idxW W gw k (k : Int) rfl hlt
      clear HR HOr
      go_wp2
      refine wp_region_held_drew (S := (fun W => W.cell? ⟨1, k, none⟩ = some (.int .u32 kk) ∧ W.cell? ⟨gw, k, none⟩ = some (.int .u32 ww) ∧ W.cell? ⟨gw + 1, 4, none⟩ = some (.int .u32 re) ∧ W.cell? ⟨gw + 1, 5, none⟩ = some (.int .u32 rf) ∧ W.cell? ⟨gw + 1, 6, none⟩ = some (.int .u32 rg) ∧ W.cell? ⟨gw + 1, 7, none⟩ = some (.int .u32 rh))) (by kernel_rfl) ⟨ck, cw, c4, c5, c6, c7⟩ (fun hHeld => ?_)
      refine wpAnyH_take (i := 0) (oi := { dst := some 18, op := Op.indexAddr 107 (Operand.tmp 6) (Operand.const (Value.int IntKind.i64 7)), type := 0, pos := "ref.go:57", after := #[], guard := none }) (v := .pointer (some ⟨gw + 1, 7, none⟩)) rfl (by kernel_rfl) (by kernel_rfl) (by kernel_rfl) (fun _ _ _ h => h) (Or.inl ⟨by rfl, by intro W hSw; go_simp⟩) hHeld ?_
      try simp only [Act.put, List.setIfInBounds_toArray, List.set_cons_zero, List.set_cons_succ]
      refine wpAnyH_take (i := 1) (oi := { dst := some 19, op := Op.load 106 (Operand.tmp 18), type := 106, pos := "ref.go:57", after := #[{ on := 0, ground := Ground.data }], guard := none }) (v := .int .u32 (rh)) rfl (by kernel_rfl) (by kernel_rfl) (by kernel_rfl) (fun _ _ _ h => h) (Or.inl ⟨by rfl, by intro W hSw; obtain ⟨s1, s2, s3, s4, s5, s6⟩ := hSw; go_simp⟩) hHeld ?_
      try simp only [Act.put, List.setIfInBounds_toArray, List.set_cons_zero, List.set_cons_succ]
      refine wpAnyH_take (i := 2) (oi := { dst := some 20, op := Op.indexAddr 107 (Operand.tmp 6) (Operand.const (Value.int IntKind.i64 4)), type := 0, pos := "ref.go:57", after := #[], guard := none }) (v := .pointer (some ⟨gw + 1, 4, none⟩)) rfl (by kernel_rfl) (by kernel_rfl) (by kernel_rfl) (fun _ _ _ h => h) (Or.inl ⟨by rfl, by intro W hSw; go_simp⟩) hHeld ?_
      try simp only [Act.put, List.setIfInBounds_toArray, List.set_cons_zero, List.set_cons_succ]
      refine wpAnyH_take (i := 3) (oi := { dst := some 21, op := Op.load 106 (Operand.tmp 20), type := 106, pos := "ref.go:57", after := #[{ on := 2, ground := Ground.data }], guard := none }) (v := .int .u32 (re)) rfl (by kernel_rfl) (by kernel_rfl) (by kernel_rfl) (fun _ _ _ h => h) (Or.inl ⟨by rfl, by intro W hSw; obtain ⟨s1, s2, s3, s4, s5, s6⟩ := hSw; go_simp⟩) hHeld ?_
      try simp only [Act.put, List.setIfInBounds_toArray, List.set_cons_zero, List.set_cons_succ]
      refine wpAnyH_take (i := 5) (oi := { dst := some 23, op := Op.indexAddr 107 (Operand.tmp 6) (Operand.const (Value.int IntKind.i64 4)), type := 0, pos := "ref.go:57", after := #[], guard := none }) (v := .pointer (some ⟨gw + 1, 4, none⟩)) rfl (by kernel_rfl) (by kernel_rfl) (by kernel_rfl) (fun _ _ _ h => h) (Or.inl ⟨by rfl, by intro W hSw; go_simp⟩) hHeld ?_
      try simp only [Act.put, List.setIfInBounds_toArray, List.set_cons_zero, List.set_cons_succ]
      refine wpAnyH_take (i := 6) (oi := { dst := some 24, op := Op.load 106 (Operand.tmp 23), type := 106, pos := "ref.go:57", after := #[{ on := 5, ground := Ground.data }], guard := none }) (v := .int .u32 (re)) rfl (by kernel_rfl) (by kernel_rfl) (by kernel_rfl) (fun _ _ _ h => h) (Or.inl ⟨by rfl, by intro W hSw; obtain ⟨s1, s2, s3, s4, s5, s6⟩ := hSw; go_simp⟩) hHeld ?_
      try simp only [Act.put, List.setIfInBounds_toArray, List.set_cons_zero, List.set_cons_succ]
      refine wpAnyH_take (i := 9) (oi := { dst := some 27, op := Op.indexAddr 107 (Operand.tmp 6) (Operand.const (Value.int IntKind.i64 4)), type := 0, pos := "ref.go:57", after := #[], guard := none }) (v := .pointer (some ⟨gw + 1, 4, none⟩)) rfl (by kernel_rfl) (by kernel_rfl) (by kernel_rfl) (fun _ _ _ h => h) (Or.inl ⟨by rfl, by intro W hSw; go_simp⟩) hHeld ?_
      try simp only [Act.put, List.setIfInBounds_toArray, List.set_cons_zero, List.set_cons_succ]
      refine wpAnyH_take (i := 10) (oi := { dst := some 28, op := Op.load 106 (Operand.tmp 27), type := 106, pos := "ref.go:57", after := #[{ on := 9, ground := Ground.data }], guard := none }) (v := .int .u32 (re)) rfl (by kernel_rfl) (by kernel_rfl) (by kernel_rfl) (fun _ _ _ h => h) (Or.inl ⟨by rfl, by intro W hSw; obtain ⟨s1, s2, s3, s4, s5, s6⟩ := hSw; go_simp⟩) hHeld ?_
      try simp only [Act.put, List.setIfInBounds_toArray, List.set_cons_zero, List.set_cons_succ]
      refine wpAnyH_take (i := 14) (oi := { dst := some 32, op := Op.indexAddr 107 (Operand.tmp 6) (Operand.const (Value.int IntKind.i64 4)), type := 0, pos := "ref.go:57", after := #[], guard := none }) (v := .pointer (some ⟨gw + 1, 4, none⟩)) rfl (by kernel_rfl) (by kernel_rfl) (by kernel_rfl) (fun _ _ _ h => h) (Or.inl ⟨by rfl, by intro W hSw; go_simp⟩) hHeld ?_
      try simp only [Act.put, List.setIfInBounds_toArray, List.set_cons_zero, List.set_cons_succ]
      refine wpAnyH_take (i := 15) (oi := { dst := some 33, op := Op.load 106 (Operand.tmp 32), type := 106, pos := "ref.go:57", after := #[{ on := 14, ground := Ground.data }], guard := none }) (v := .int .u32 (re)) rfl (by kernel_rfl) (by kernel_rfl) (by kernel_rfl) (fun _ _ _ h => h) (Or.inl ⟨by rfl, by intro W hSw; obtain ⟨s1, s2, s3, s4, s5, s6⟩ := hSw; go_simp⟩) hHeld ?_
      try simp only [Act.put, List.setIfInBounds_toArray, List.set_cons_zero, List.set_cons_succ]
      refine wpAnyH_take (i := 16) (oi := { dst := some 34, op := Op.indexAddr 107 (Operand.tmp 6) (Operand.const (Value.int IntKind.i64 5)), type := 0, pos := "ref.go:57", after := #[], guard := none }) (v := .pointer (some ⟨gw + 1, 5, none⟩)) rfl (by kernel_rfl) (by kernel_rfl) (by kernel_rfl) (fun _ _ _ h => h) (Or.inl ⟨by rfl, by intro W hSw; go_simp⟩) hHeld ?_
      try simp only [Act.put, List.setIfInBounds_toArray, List.set_cons_zero, List.set_cons_succ]
      refine wpAnyH_take (i := 17) (oi := { dst := some 35, op := Op.load 106 (Operand.tmp 34), type := 106, pos := "ref.go:57", after := #[{ on := 16, ground := Ground.data }], guard := none }) (v := .int .u32 (rf)) rfl (by kernel_rfl) (by kernel_rfl) (by kernel_rfl) (fun _ _ _ h => h) (Or.inl ⟨by rfl, by intro W hSw; obtain ⟨s1, s2, s3, s4, s5, s6⟩ := hSw; go_simp⟩) hHeld ?_
      try simp only [Act.put, List.setIfInBounds_toArray, List.set_cons_zero, List.set_cons_succ]
      refine wpAnyH_take (i := 18) (oi := { dst := some 36, op := Op.binOp BinOp.and 106 (Operand.tmp 33) (Operand.tmp 35) 106, type := 106, pos := "ref.go:57", after := #[{ on := 15, ground := Ground.data }, { on := 17, ground := Ground.data }], guard := none }) (v := .int .u32 (bits .and .u32 (re) (rf))) rfl (by kernel_rfl) (by kernel_rfl) (by kernel_rfl) (fun _ _ _ h => h) (Or.inl ⟨by rfl, by intro W hSw; go_simp; first | done | exact u32w _ | (rw [u32w]; first | rfl | omega) | omega | exact wrap_int _ (by omega) (by omega)⟩) hHeld ?_
      try simp only [Act.put, List.setIfInBounds_toArray, List.set_cons_zero, List.set_cons_succ]
      refine wpAnyH_take (i := 19) (oi := { dst := some 37, op := Op.indexAddr 107 (Operand.tmp 6) (Operand.const (Value.int IntKind.i64 4)), type := 0, pos := "ref.go:57", after := #[], guard := none }) (v := .pointer (some ⟨gw + 1, 4, none⟩)) rfl (by kernel_rfl) (by kernel_rfl) (by kernel_rfl) (fun _ _ _ h => h) (Or.inl ⟨by rfl, by intro W hSw; go_simp⟩) hHeld ?_
      try simp only [Act.put, List.setIfInBounds_toArray, List.set_cons_zero, List.set_cons_succ]
      refine wpAnyH_take (i := 20) (oi := { dst := some 38, op := Op.load 106 (Operand.tmp 37), type := 106, pos := "ref.go:57", after := #[{ on := 19, ground := Ground.data }], guard := none }) (v := .int .u32 (re)) rfl (by kernel_rfl) (by kernel_rfl) (by kernel_rfl) (fun _ _ _ h => h) (Or.inl ⟨by rfl, by intro W hSw; obtain ⟨s1, s2, s3, s4, s5, s6⟩ := hSw; go_simp⟩) hHeld ?_
      try simp only [Act.put, List.setIfInBounds_toArray, List.set_cons_zero, List.set_cons_succ]
      refine wpAnyH_take (i := 21) (oi := { dst := some 39, op := Op.unOp UnOp.xor 106 (Operand.tmp 38), type := 106, pos := "ref.go:57", after := #[{ on := 20, ground := Ground.data }], guard := none }) (v := .int .u32 (bits .xor .u32 4294967295 (re))) rfl (by kernel_rfl) (by kernel_rfl) (by kernel_rfl) (fun _ _ _ h => h) (Or.inl ⟨by rfl, by intro W hSw; go_simp; first | done | rfl⟩) hHeld ?_
      try simp only [Act.put, List.setIfInBounds_toArray, List.set_cons_zero, List.set_cons_succ]
      refine wpAnyH_take (i := 22) (oi := { dst := some 40, op := Op.indexAddr 107 (Operand.tmp 6) (Operand.const (Value.int IntKind.i64 6)), type := 0, pos := "ref.go:57", after := #[], guard := none }) (v := .pointer (some ⟨gw + 1, 6, none⟩)) rfl (by kernel_rfl) (by kernel_rfl) (by kernel_rfl) (fun _ _ _ h => h) (Or.inl ⟨by rfl, by intro W hSw; go_simp⟩) hHeld ?_
      try simp only [Act.put, List.setIfInBounds_toArray, List.set_cons_zero, List.set_cons_succ]
      refine wpAnyH_take (i := 23) (oi := { dst := some 41, op := Op.load 106 (Operand.tmp 40), type := 106, pos := "ref.go:57", after := #[{ on := 22, ground := Ground.data }], guard := none }) (v := .int .u32 (rg)) rfl (by kernel_rfl) (by kernel_rfl) (by kernel_rfl) (fun _ _ _ h => h) (Or.inl ⟨by rfl, by intro W hSw; obtain ⟨s1, s2, s3, s4, s5, s6⟩ := hSw; go_simp⟩) hHeld ?_
      try simp only [Act.put, List.setIfInBounds_toArray, List.set_cons_zero, List.set_cons_succ]
      refine wpAnyH_take (i := 24) (oi := { dst := some 42, op := Op.binOp BinOp.and 106 (Operand.tmp 39) (Operand.tmp 41) 106, type := 106, pos := "ref.go:57", after := #[{ on := 21, ground := Ground.data }, { on := 23, ground := Ground.data }], guard := none }) (v := .int .u32 (bits .and .u32 (bits .xor .u32 4294967295 (re)) (rg))) rfl (by kernel_rfl) (by kernel_rfl) (by kernel_rfl) (fun _ _ _ h => h) (Or.inl ⟨by rfl, by intro W hSw; go_simp; first | done | exact u32w _ | (rw [u32w]; first | rfl | omega) | omega | exact wrap_int _ (by omega) (by omega)⟩) hHeld ?_
      try simp only [Act.put, List.setIfInBounds_toArray, List.set_cons_zero, List.set_cons_succ]
      refine wpAnyH_take (i := 25) (oi := { dst := some 43, op := Op.binOp BinOp.xor 106 (Operand.tmp 36) (Operand.tmp 42) 106, type := 106, pos := "ref.go:57", after := #[{ on := 18, ground := Ground.data }, { on := 24, ground := Ground.data }], guard := none }) (v := .int .u32 (bits .xor .u32 (bits .and .u32 (re) (rf)) (bits .and .u32 (bits .xor .u32 4294967295 (re)) (rg)))) rfl (by kernel_rfl) (by kernel_rfl) (by kernel_rfl) (fun _ _ _ h => h) (Or.inl ⟨by rfl, by intro W hSw; go_simp; first | done | exact u32w _ | (rw [u32w]; first | rfl | omega) | omega | exact wrap_int _ (by omega) (by omega)⟩) hHeld ?_
      try simp only [Act.put, List.setIfInBounds_toArray, List.set_cons_zero, List.set_cons_succ]
      refine wpAnyH_take (i := 27) (oi := { dst := some 45, op := Op.move (Operand.tmp 7), type := 3, pos := "ref.go:57", after := #[], guard := none }) (v := .int .i64 (k : Int)) rfl (by kernel_rfl) (by kernel_rfl) (by kernel_rfl) (fun _ _ _ h => h) (Or.inl ⟨by rfl, by intro W hSw; go_simp⟩) hHeld ?_
      try simp only [Act.put, List.setIfInBounds_toArray, List.set_cons_zero, List.set_cons_succ]
      refine wpAnyH_take (i := 28) (oi := { dst := some 46, op := Op.indexAddr 121 (Operand.global 1) (Operand.tmp 45), type := 0, pos := "ref.go:57", after := #[{ on := 27, ground := Ground.data }], guard := none }) (v := .pointer (some ⟨1, k, none⟩)) rfl (by kernel_rfl) (by kernel_rfl) (by kernel_rfl) (fun _ _ _ h => h) (Or.inl ⟨by rfl, by intro W hSw; go_simp⟩) hHeld ?_
      try simp only [Act.put, List.setIfInBounds_toArray, List.set_cons_zero, List.set_cons_succ]
      refine wpAnyH_take (i := 29) (oi := { dst := some 47, op := Op.load 106 (Operand.tmp 46), type := 106, pos := "ref.go:57", after := #[{ on := 28, ground := Ground.data }], guard := none }) (v := .int .u32 (kk)) rfl (by kernel_rfl) (by kernel_rfl) (by kernel_rfl) (fun _ _ _ h => h) (Or.inl ⟨by rfl, by intro W hSw; obtain ⟨s1, s2, s3, s4, s5, s6⟩ := hSw; go_simp⟩) hHeld ?_
      try simp only [Act.put, List.setIfInBounds_toArray, List.set_cons_zero, List.set_cons_succ]
      refine wpAnyH_take (i := 31) (oi := { dst := some 49, op := Op.move (Operand.tmp 7), type := 3, pos := "ref.go:57", after := #[], guard := none }) (v := .int .i64 (k : Int)) rfl (by kernel_rfl) (by kernel_rfl) (by kernel_rfl) (fun _ _ _ h => h) (Or.inl ⟨by rfl, by intro W hSw; go_simp⟩) hHeld ?_
      try simp only [Act.put, List.setIfInBounds_toArray, List.set_cons_zero, List.set_cons_succ]
      refine wpAnyH_take (i := 32) (oi := { dst := some 50, op := Op.indexAddr 121 (Operand.tmp 5) (Operand.tmp 49), type := 0, pos := "ref.go:57", after := #[{ on := 31, ground := Ground.data }], guard := none }) (v := .pointer (some ⟨gw, k, none⟩)) rfl (by kernel_rfl) (by kernel_rfl) (by kernel_rfl) (fun _ _ _ h => h) (Or.inl ⟨by rfl, by intro W hSw; go_simp⟩) hHeld ?_
      try simp only [Act.put, List.setIfInBounds_toArray, List.set_cons_zero, List.set_cons_succ]
      refine wpAnyH_take (i := 33) (oi := { dst := some 51, op := Op.load 106 (Operand.tmp 50), type := 106, pos := "ref.go:57", after := #[{ on := 32, ground := Ground.data }], guard := none }) (v := .int .u32 (ww)) rfl (by kernel_rfl) (by kernel_rfl) (by kernel_rfl) (fun _ _ _ h => h) (Or.inl ⟨by rfl, by intro W hSw; obtain ⟨s1, s2, s3, s4, s5, s6⟩ := hSw; go_simp⟩) hHeld ?_
      try simp only [Act.put, List.setIfInBounds_toArray, List.set_cons_zero, List.set_cons_succ]
      refine wpAnyH_ready (rs := [4]) (by kernel_rfl) (by simp) ?_
      refine AllReadyH.cons (o := { dst := some 22, op := Op.call { callee := Callee.value (Operand.func 91), args := #[Operand.tmp 21, Operand.const (Value.int IntKind.i64 6)], argTypes := #[106, 3] }, type := 106, pos := "ref.go:57", after := #[{ on := 3, ground := Ground.data }], guard := none }) rfl (fun K hK => ?_) AllReadyH.nil
      go_simp
      refine (T6.out _).mono ?_
      rintro e w' ⟨rfl, n1, rfl⟩
      go_wp2_with fail
      refine hK.out _ _ hHeld (fun hHeld => ?_)
      clear hK K
      try simp only [Act.put, List.setIfInBounds_toArray, List.set_cons_zero, List.set_cons_succ]
      refine wpAnyH_ready (rs := [7]) (by kernel_rfl) (by simp) ?_
      refine AllReadyH.cons (o := { dst := some 25, op := Op.call { callee := Callee.value (Operand.func 91), args := #[Operand.tmp 24, Operand.const (Value.int IntKind.i64 11)], argTypes := #[106, 3] }, type := 106, pos := "ref.go:57", after := #[{ on := 6, ground := Ground.data }, { on := 4, ground := Ground.chain }], guard := none }) rfl (fun K hK => ?_) AllReadyH.nil
      go_simp
      refine (T11.out _).mono ?_
      rintro e w' ⟨rfl, n1, rfl⟩
      go_wp2_with fail
      refine hK.out _ _ hHeld (fun hHeld => ?_)
      clear hK K
      try simp only [Act.put, List.setIfInBounds_toArray, List.set_cons_zero, List.set_cons_succ]
      refine wpAnyH_take (i := 8) (oi := { dst := some 26, op := Op.binOp BinOp.xor 106 (Operand.tmp 22) (Operand.tmp 25) 106, type := 106, pos := "ref.go:57", after := #[{ on := 4, ground := Ground.data }, { on := 7, ground := Ground.data }], guard := none }) (v := .int .u32 (bits .xor .u32 (rot (re) 64 67108864) (rot (re) 2048 2097152))) rfl (by kernel_rfl) (by kernel_rfl) (by kernel_rfl) (fun _ _ _ h => h) (Or.inl ⟨by rfl, by intro W hSw; go_simp; first | done | exact u32w _ | (rw [u32w]; first | rfl | omega) | omega | exact wrap_int _ (by omega) (by omega)⟩) hHeld ?_
      try simp only [Act.put, List.setIfInBounds_toArray, List.set_cons_zero, List.set_cons_succ]
      refine wpAnyH_ready (rs := [11]) (by kernel_rfl) (by simp) ?_
      refine AllReadyH.cons (o := { dst := some 29, op := Op.call { callee := Callee.value (Operand.func 91), args := #[Operand.tmp 28, Operand.const (Value.int IntKind.i64 25)], argTypes := #[106, 3] }, type := 106, pos := "ref.go:57", after := #[{ on := 10, ground := Ground.data }, { on := 7, ground := Ground.chain }], guard := none }) rfl (fun K hK => ?_) AllReadyH.nil
      go_simp
      refine (T25.out _).mono ?_
      rintro e w' ⟨rfl, n1, rfl⟩
      go_wp2_with fail
      refine hK.out _ _ hHeld (fun hHeld => ?_)
      clear hK K
      try simp only [Act.put, List.setIfInBounds_toArray, List.set_cons_zero, List.set_cons_succ]
      refine wpAnyH_take (i := 12) (oi := { dst := some 30, op := Op.binOp BinOp.xor 106 (Operand.tmp 26) (Operand.tmp 29) 106, type := 106, pos := "ref.go:57", after := #[{ on := 8, ground := Ground.data }, { on := 11, ground := Ground.data }], guard := none }) (v := .int .u32 (bits .xor .u32 (bits .xor .u32 (rot (re) 64 67108864) (rot (re) 2048 2097152)) (rot (re) 33554432 128))) rfl (by kernel_rfl) (by kernel_rfl) (by kernel_rfl) (fun _ _ _ h => h) (Or.inl ⟨by rfl, by intro W hSw; go_simp; first | done | exact u32w _ | (rw [u32w]; first | rfl | omega) | omega | exact wrap_int _ (by omega) (by omega)⟩) hHeld ?_
      try simp only [Act.put, List.setIfInBounds_toArray, List.set_cons_zero, List.set_cons_succ]
      refine wpAnyH_take (i := 13) (oi := { dst := some 31, op := Op.binOp BinOp.add 106 (Operand.tmp 19) (Operand.tmp 30) 106, type := 106, pos := "ref.go:57", after := #[{ on := 1, ground := Ground.data }, { on := 12, ground := Ground.data }], guard := none }) (v := .int .u32 (((rh) + (bits .xor .u32 (bits .xor .u32 (rot (re) 64 67108864) (rot (re) 2048 2097152)) (rot (re) 33554432 128))) % 4294967296)) rfl (by kernel_rfl) (by kernel_rfl) (by kernel_rfl) (fun _ _ _ h => h) (Or.inl ⟨by rfl, by intro W hSw; go_simp; first | done | exact u32w _ | (rw [u32w]; first | rfl | omega) | omega | exact wrap_int _ (by omega) (by omega)⟩) hHeld ?_
      try simp only [Act.put, List.setIfInBounds_toArray, List.set_cons_zero, List.set_cons_succ]
      refine wpAnyH_take (i := 26) (oi := { dst := some 44, op := Op.binOp BinOp.add 106 (Operand.tmp 31) (Operand.tmp 43) 106, type := 106, pos := "ref.go:57", after := #[{ on := 13, ground := Ground.data }, { on := 25, ground := Ground.data }], guard := none }) (v := .int .u32 (((((rh) + (bits .xor .u32 (bits .xor .u32 (rot (re) 64 67108864) (rot (re) 2048 2097152)) (rot (re) 33554432 128))) % 4294967296) + (bits .xor .u32 (bits .and .u32 (re) (rf)) (bits .and .u32 (bits .xor .u32 4294967295 (re)) (rg)))) % 4294967296)) rfl (by kernel_rfl) (by kernel_rfl) (by kernel_rfl) (fun _ _ _ h => h) (Or.inl ⟨by rfl, by intro W hSw; go_simp; first | done | exact u32w _ | (rw [u32w]; first | rfl | omega) | omega | exact wrap_int _ (by omega) (by omega)⟩) hHeld ?_
      try simp only [Act.put, List.setIfInBounds_toArray, List.set_cons_zero, List.set_cons_succ]
      refine wpAnyH_take (i := 30) (oi := { dst := some 48, op := Op.binOp BinOp.add 106 (Operand.tmp 44) (Operand.tmp 47) 106, type := 106, pos := "ref.go:57", after := #[{ on := 26, ground := Ground.data }, { on := 29, ground := Ground.data }], guard := none }) (v := .int .u32 (((((((rh) + (bits .xor .u32 (bits .xor .u32 (rot (re) 64 67108864) (rot (re) 2048 2097152)) (rot (re) 33554432 128))) % 4294967296) + (bits .xor .u32 (bits .and .u32 (re) (rf)) (bits .and .u32 (bits .xor .u32 4294967295 (re)) (rg)))) % 4294967296) + (kk)) % 4294967296)) rfl (by kernel_rfl) (by kernel_rfl) (by kernel_rfl) (fun _ _ _ h => h) (Or.inl ⟨by rfl, by intro W hSw; go_simp; first | done | exact u32w _ | (rw [u32w]; first | rfl | omega) | omega | exact wrap_int _ (by omega) (by omega)⟩) hHeld ?_
      try simp only [Act.put, List.setIfInBounds_toArray, List.set_cons_zero, List.set_cons_succ]
      refine wpAnyH_take (i := 34) (oi := { dst := some 52, op := Op.binOp BinOp.add 106 (Operand.tmp 48) (Operand.tmp 51) 106, type := 106, pos := "ref.go:57", after := #[{ on := 30, ground := Ground.data }, { on := 33, ground := Ground.data }], guard := none }) (v := .int .u32 (((((((((rh) + (bits .xor .u32 (bits .xor .u32 (rot (re) 64 67108864) (rot (re) 2048 2097152)) (rot (re) 33554432 128))) % 4294967296) + (bits .xor .u32 (bits .and .u32 (re) (rf)) (bits .and .u32 (bits .xor .u32 4294967295 (re)) (rg)))) % 4294967296) + (kk)) % 4294967296) + (ww)) % 4294967296)) rfl (by kernel_rfl) (by kernel_rfl) (by kernel_rfl) (fun _ _ _ h => h) (Or.inl ⟨by rfl, by intro W hSw; go_simp; first | done | exact u32w _ | (rw [u32w]; first | rfl | omega) | omega | exact wrap_int _ (by omega) (by omega)⟩) hHeld ?_
      try simp only [Act.put, List.setIfInBounds_toArray, List.set_cons_zero, List.set_cons_succ]
      refine wpAnyH_take (i := 35) (oi := { dst := some 8, op := Op.assign (Operand.tmp 52), type := 106, pos := "ref.go:57", after := #[{ on := 34, ground := Ground.data }, { on := 11, ground := Ground.chain }, { on := 0, ground := Ground.phase }, { on := 1, ground := Ground.phase }, { on := 2, ground := Ground.phase }, { on := 3, ground := Ground.phase }, { on := 4, ground := Ground.phase }, { on := 5, ground := Ground.phase }, { on := 6, ground := Ground.phase }, { on := 7, ground := Ground.phase }, { on := 8, ground := Ground.phase }, { on := 9, ground := Ground.phase }, { on := 10, ground := Ground.phase }, { on := 11, ground := Ground.phase }, { on := 12, ground := Ground.phase }, { on := 13, ground := Ground.phase }, { on := 14, ground := Ground.phase }, { on := 15, ground := Ground.phase }, { on := 16, ground := Ground.phase }, { on := 17, ground := Ground.phase }, { on := 18, ground := Ground.phase }, { on := 19, ground := Ground.phase }, { on := 20, ground := Ground.phase }, { on := 21, ground := Ground.phase }, { on := 22, ground := Ground.phase }, { on := 23, ground := Ground.phase }, { on := 24, ground := Ground.phase }, { on := 25, ground := Ground.phase }, { on := 26, ground := Ground.phase }, { on := 27, ground := Ground.phase }, { on := 28, ground := Ground.phase }, { on := 29, ground := Ground.phase }, { on := 30, ground := Ground.phase }, { on := 31, ground := Ground.phase }, { on := 32, ground := Ground.phase }, { on := 33, ground := Ground.phase }, { on := 34, ground := Ground.phase }], guard := none }) (v := .int .u32 (((((((((rh) + (bits .xor .u32 (bits .xor .u32 (rot (re) 64 67108864) (rot (re) 2048 2097152)) (rot (re) 33554432 128))) % 4294967296) + (bits .xor .u32 (bits .and .u32 (re) (rf)) (bits .and .u32 (bits .xor .u32 4294967295 (re)) (rg)))) % 4294967296) + (kk)) % 4294967296) + (ww)) % 4294967296)) rfl (by kernel_rfl) (by kernel_rfl) (by kernel_rfl) (fun _ _ _ h => h) (Or.inl ⟨by rfl, by intro W hSw; go_simp⟩) hHeld ?_
      try simp only [Act.put, List.setIfInBounds_toArray, List.set_cons_zero, List.set_cons_succ]
      refine wpAnyH_done (by kernel_rfl) ?_ _
      go_wp2
      refine wp_region_held_drew (S := (fun W => W.cell? ⟨gw + 1, 0, none⟩ = some (.int .u32 ra) ∧ W.cell? ⟨gw + 1, 1, none⟩ = some (.int .u32 rb) ∧ W.cell? ⟨gw + 1, 2, none⟩ = some (.int .u32 rc))) (by kernel_rfl) ⟨c0, c1, c2⟩ (fun hHeld => ?_)
      refine wpAnyH_take (i := 0) (oi := { dst := some 53, op := Op.indexAddr 107 (Operand.tmp 6) (Operand.const (Value.int IntKind.i64 0)), type := 0, pos := "ref.go:58", after := #[], guard := none }) (v := .pointer (some ⟨gw + 1, 0, none⟩)) rfl (by kernel_rfl) (by kernel_rfl) (by kernel_rfl) (fun _ _ _ h => h) (Or.inl ⟨by rfl, by intro W hSw; go_simp⟩) hHeld ?_
      try simp only [Act.put, List.setIfInBounds_toArray, List.set_cons_zero, List.set_cons_succ]
      refine wpAnyH_take (i := 1) (oi := { dst := some 54, op := Op.load 106 (Operand.tmp 53), type := 106, pos := "ref.go:58", after := #[{ on := 0, ground := Ground.data }], guard := none }) (v := .int .u32 (ra)) rfl (by kernel_rfl) (by kernel_rfl) (by kernel_rfl) (fun _ _ _ h => h) (Or.inl ⟨by rfl, by intro W hSw; obtain ⟨s1, s2, s3⟩ := hSw; go_simp⟩) hHeld ?_
      try simp only [Act.put, List.setIfInBounds_toArray, List.set_cons_zero, List.set_cons_succ]
      refine wpAnyH_take (i := 3) (oi := { dst := some 56, op := Op.indexAddr 107 (Operand.tmp 6) (Operand.const (Value.int IntKind.i64 0)), type := 0, pos := "ref.go:58", after := #[], guard := none }) (v := .pointer (some ⟨gw + 1, 0, none⟩)) rfl (by kernel_rfl) (by kernel_rfl) (by kernel_rfl) (fun _ _ _ h => h) (Or.inl ⟨by rfl, by intro W hSw; go_simp⟩) hHeld ?_
      try simp only [Act.put, List.setIfInBounds_toArray, List.set_cons_zero, List.set_cons_succ]
      refine wpAnyH_take (i := 4) (oi := { dst := some 57, op := Op.load 106 (Operand.tmp 56), type := 106, pos := "ref.go:58", after := #[{ on := 3, ground := Ground.data }], guard := none }) (v := .int .u32 (ra)) rfl (by kernel_rfl) (by kernel_rfl) (by kernel_rfl) (fun _ _ _ h => h) (Or.inl ⟨by rfl, by intro W hSw; obtain ⟨s1, s2, s3⟩ := hSw; go_simp⟩) hHeld ?_
      try simp only [Act.put, List.setIfInBounds_toArray, List.set_cons_zero, List.set_cons_succ]
      refine wpAnyH_take (i := 7) (oi := { dst := some 60, op := Op.indexAddr 107 (Operand.tmp 6) (Operand.const (Value.int IntKind.i64 0)), type := 0, pos := "ref.go:58", after := #[], guard := none }) (v := .pointer (some ⟨gw + 1, 0, none⟩)) rfl (by kernel_rfl) (by kernel_rfl) (by kernel_rfl) (fun _ _ _ h => h) (Or.inl ⟨by rfl, by intro W hSw; go_simp⟩) hHeld ?_
      try simp only [Act.put, List.setIfInBounds_toArray, List.set_cons_zero, List.set_cons_succ]
      refine wpAnyH_take (i := 8) (oi := { dst := some 61, op := Op.load 106 (Operand.tmp 60), type := 106, pos := "ref.go:58", after := #[{ on := 7, ground := Ground.data }], guard := none }) (v := .int .u32 (ra)) rfl (by kernel_rfl) (by kernel_rfl) (by kernel_rfl) (fun _ _ _ h => h) (Or.inl ⟨by rfl, by intro W hSw; obtain ⟨s1, s2, s3⟩ := hSw; go_simp⟩) hHeld ?_
      try simp only [Act.put, List.setIfInBounds_toArray, List.set_cons_zero, List.set_cons_succ]
      refine wpAnyH_take (i := 11) (oi := { dst := some 64, op := Op.indexAddr 107 (Operand.tmp 6) (Operand.const (Value.int IntKind.i64 0)), type := 0, pos := "ref.go:58", after := #[], guard := none }) (v := .pointer (some ⟨gw + 1, 0, none⟩)) rfl (by kernel_rfl) (by kernel_rfl) (by kernel_rfl) (fun _ _ _ h => h) (Or.inl ⟨by rfl, by intro W hSw; go_simp⟩) hHeld ?_
      try simp only [Act.put, List.setIfInBounds_toArray, List.set_cons_zero, List.set_cons_succ]
      refine wpAnyH_take (i := 12) (oi := { dst := some 65, op := Op.load 106 (Operand.tmp 64), type := 106, pos := "ref.go:58", after := #[{ on := 11, ground := Ground.data }], guard := none }) (v := .int .u32 (ra)) rfl (by kernel_rfl) (by kernel_rfl) (by kernel_rfl) (fun _ _ _ h => h) (Or.inl ⟨by rfl, by intro W hSw; obtain ⟨s1, s2, s3⟩ := hSw; go_simp⟩) hHeld ?_
      try simp only [Act.put, List.setIfInBounds_toArray, List.set_cons_zero, List.set_cons_succ]
      refine wpAnyH_take (i := 13) (oi := { dst := some 66, op := Op.indexAddr 107 (Operand.tmp 6) (Operand.const (Value.int IntKind.i64 1)), type := 0, pos := "ref.go:58", after := #[], guard := none }) (v := .pointer (some ⟨gw + 1, 1, none⟩)) rfl (by kernel_rfl) (by kernel_rfl) (by kernel_rfl) (fun _ _ _ h => h) (Or.inl ⟨by rfl, by intro W hSw; go_simp⟩) hHeld ?_
      try simp only [Act.put, List.setIfInBounds_toArray, List.set_cons_zero, List.set_cons_succ]
      refine wpAnyH_take (i := 14) (oi := { dst := some 67, op := Op.load 106 (Operand.tmp 66), type := 106, pos := "ref.go:58", after := #[{ on := 13, ground := Ground.data }], guard := none }) (v := .int .u32 (rb)) rfl (by kernel_rfl) (by kernel_rfl) (by kernel_rfl) (fun _ _ _ h => h) (Or.inl ⟨by rfl, by intro W hSw; obtain ⟨s1, s2, s3⟩ := hSw; go_simp⟩) hHeld ?_
      try simp only [Act.put, List.setIfInBounds_toArray, List.set_cons_zero, List.set_cons_succ]
      refine wpAnyH_take (i := 15) (oi := { dst := some 68, op := Op.binOp BinOp.and 106 (Operand.tmp 65) (Operand.tmp 67) 106, type := 106, pos := "ref.go:58", after := #[{ on := 12, ground := Ground.data }, { on := 14, ground := Ground.data }], guard := none }) (v := .int .u32 (bits .and .u32 (ra) (rb))) rfl (by kernel_rfl) (by kernel_rfl) (by kernel_rfl) (fun _ _ _ h => h) (Or.inl ⟨by rfl, by intro W hSw; go_simp; first | done | exact u32w _ | (rw [u32w]; first | rfl | omega) | omega | exact wrap_int _ (by omega) (by omega)⟩) hHeld ?_
      try simp only [Act.put, List.setIfInBounds_toArray, List.set_cons_zero, List.set_cons_succ]
      refine wpAnyH_take (i := 16) (oi := { dst := some 69, op := Op.indexAddr 107 (Operand.tmp 6) (Operand.const (Value.int IntKind.i64 0)), type := 0, pos := "ref.go:58", after := #[], guard := none }) (v := .pointer (some ⟨gw + 1, 0, none⟩)) rfl (by kernel_rfl) (by kernel_rfl) (by kernel_rfl) (fun _ _ _ h => h) (Or.inl ⟨by rfl, by intro W hSw; go_simp⟩) hHeld ?_
      try simp only [Act.put, List.setIfInBounds_toArray, List.set_cons_zero, List.set_cons_succ]
      refine wpAnyH_take (i := 17) (oi := { dst := some 70, op := Op.load 106 (Operand.tmp 69), type := 106, pos := "ref.go:58", after := #[{ on := 16, ground := Ground.data }], guard := none }) (v := .int .u32 (ra)) rfl (by kernel_rfl) (by kernel_rfl) (by kernel_rfl) (fun _ _ _ h => h) (Or.inl ⟨by rfl, by intro W hSw; obtain ⟨s1, s2, s3⟩ := hSw; go_simp⟩) hHeld ?_
      try simp only [Act.put, List.setIfInBounds_toArray, List.set_cons_zero, List.set_cons_succ]
      refine wpAnyH_take (i := 18) (oi := { dst := some 71, op := Op.indexAddr 107 (Operand.tmp 6) (Operand.const (Value.int IntKind.i64 2)), type := 0, pos := "ref.go:58", after := #[], guard := none }) (v := .pointer (some ⟨gw + 1, 2, none⟩)) rfl (by kernel_rfl) (by kernel_rfl) (by kernel_rfl) (fun _ _ _ h => h) (Or.inl ⟨by rfl, by intro W hSw; go_simp⟩) hHeld ?_
      try simp only [Act.put, List.setIfInBounds_toArray, List.set_cons_zero, List.set_cons_succ]
      refine wpAnyH_take (i := 19) (oi := { dst := some 72, op := Op.load 106 (Operand.tmp 71), type := 106, pos := "ref.go:58", after := #[{ on := 18, ground := Ground.data }], guard := none }) (v := .int .u32 (rc)) rfl (by kernel_rfl) (by kernel_rfl) (by kernel_rfl) (fun _ _ _ h => h) (Or.inl ⟨by rfl, by intro W hSw; obtain ⟨s1, s2, s3⟩ := hSw; go_simp⟩) hHeld ?_
      try simp only [Act.put, List.setIfInBounds_toArray, List.set_cons_zero, List.set_cons_succ]
      refine wpAnyH_take (i := 20) (oi := { dst := some 73, op := Op.binOp BinOp.and 106 (Operand.tmp 70) (Operand.tmp 72) 106, type := 106, pos := "ref.go:58", after := #[{ on := 17, ground := Ground.data }, { on := 19, ground := Ground.data }], guard := none }) (v := .int .u32 (bits .and .u32 (ra) (rc))) rfl (by kernel_rfl) (by kernel_rfl) (by kernel_rfl) (fun _ _ _ h => h) (Or.inl ⟨by rfl, by intro W hSw; go_simp; first | done | exact u32w _ | (rw [u32w]; first | rfl | omega) | omega | exact wrap_int _ (by omega) (by omega)⟩) hHeld ?_
      try simp only [Act.put, List.setIfInBounds_toArray, List.set_cons_zero, List.set_cons_succ]
      refine wpAnyH_take (i := 21) (oi := { dst := some 74, op := Op.binOp BinOp.xor 106 (Operand.tmp 68) (Operand.tmp 73) 106, type := 106, pos := "ref.go:58", after := #[{ on := 15, ground := Ground.data }, { on := 20, ground := Ground.data }], guard := none }) (v := .int .u32 (bits .xor .u32 (bits .and .u32 (ra) (rb)) (bits .and .u32 (ra) (rc)))) rfl (by kernel_rfl) (by kernel_rfl) (by kernel_rfl) (fun _ _ _ h => h) (Or.inl ⟨by rfl, by intro W hSw; go_simp; first | done | exact u32w _ | (rw [u32w]; first | rfl | omega) | omega | exact wrap_int _ (by omega) (by omega)⟩) hHeld ?_
      try simp only [Act.put, List.setIfInBounds_toArray, List.set_cons_zero, List.set_cons_succ]
      refine wpAnyH_take (i := 22) (oi := { dst := some 75, op := Op.indexAddr 107 (Operand.tmp 6) (Operand.const (Value.int IntKind.i64 1)), type := 0, pos := "ref.go:58", after := #[], guard := none }) (v := .pointer (some ⟨gw + 1, 1, none⟩)) rfl (by kernel_rfl) (by kernel_rfl) (by kernel_rfl) (fun _ _ _ h => h) (Or.inl ⟨by rfl, by intro W hSw; go_simp⟩) hHeld ?_
      try simp only [Act.put, List.setIfInBounds_toArray, List.set_cons_zero, List.set_cons_succ]
      refine wpAnyH_take (i := 23) (oi := { dst := some 76, op := Op.load 106 (Operand.tmp 75), type := 106, pos := "ref.go:58", after := #[{ on := 22, ground := Ground.data }], guard := none }) (v := .int .u32 (rb)) rfl (by kernel_rfl) (by kernel_rfl) (by kernel_rfl) (fun _ _ _ h => h) (Or.inl ⟨by rfl, by intro W hSw; obtain ⟨s1, s2, s3⟩ := hSw; go_simp⟩) hHeld ?_
      try simp only [Act.put, List.setIfInBounds_toArray, List.set_cons_zero, List.set_cons_succ]
      refine wpAnyH_take (i := 24) (oi := { dst := some 77, op := Op.indexAddr 107 (Operand.tmp 6) (Operand.const (Value.int IntKind.i64 2)), type := 0, pos := "ref.go:58", after := #[], guard := none }) (v := .pointer (some ⟨gw + 1, 2, none⟩)) rfl (by kernel_rfl) (by kernel_rfl) (by kernel_rfl) (fun _ _ _ h => h) (Or.inl ⟨by rfl, by intro W hSw; go_simp⟩) hHeld ?_
      try simp only [Act.put, List.setIfInBounds_toArray, List.set_cons_zero, List.set_cons_succ]
      refine wpAnyH_take (i := 25) (oi := { dst := some 78, op := Op.load 106 (Operand.tmp 77), type := 106, pos := "ref.go:58", after := #[{ on := 24, ground := Ground.data }], guard := none }) (v := .int .u32 (rc)) rfl (by kernel_rfl) (by kernel_rfl) (by kernel_rfl) (fun _ _ _ h => h) (Or.inl ⟨by rfl, by intro W hSw; obtain ⟨s1, s2, s3⟩ := hSw; go_simp⟩) hHeld ?_
      try simp only [Act.put, List.setIfInBounds_toArray, List.set_cons_zero, List.set_cons_succ]
      refine wpAnyH_take (i := 26) (oi := { dst := some 79, op := Op.binOp BinOp.and 106 (Operand.tmp 76) (Operand.tmp 78) 106, type := 106, pos := "ref.go:58", after := #[{ on := 23, ground := Ground.data }, { on := 25, ground := Ground.data }], guard := none }) (v := .int .u32 (bits .and .u32 (rb) (rc))) rfl (by kernel_rfl) (by kernel_rfl) (by kernel_rfl) (fun _ _ _ h => h) (Or.inl ⟨by rfl, by intro W hSw; go_simp; first | done | exact u32w _ | (rw [u32w]; first | rfl | omega) | omega | exact wrap_int _ (by omega) (by omega)⟩) hHeld ?_
      try simp only [Act.put, List.setIfInBounds_toArray, List.set_cons_zero, List.set_cons_succ]
      refine wpAnyH_take (i := 27) (oi := { dst := some 80, op := Op.binOp BinOp.xor 106 (Operand.tmp 74) (Operand.tmp 79) 106, type := 106, pos := "ref.go:58", after := #[{ on := 21, ground := Ground.data }, { on := 26, ground := Ground.data }], guard := none }) (v := .int .u32 (bits .xor .u32 (bits .xor .u32 (bits .and .u32 (ra) (rb)) (bits .and .u32 (ra) (rc))) (bits .and .u32 (rb) (rc)))) rfl (by kernel_rfl) (by kernel_rfl) (by kernel_rfl) (fun _ _ _ h => h) (Or.inl ⟨by rfl, by intro W hSw; go_simp; first | done | exact u32w _ | (rw [u32w]; first | rfl | omega) | omega | exact wrap_int _ (by omega) (by omega)⟩) hHeld ?_
      try simp only [Act.put, List.setIfInBounds_toArray, List.set_cons_zero, List.set_cons_succ]
      refine wpAnyH_ready (rs := [2]) (by kernel_rfl) (by simp) ?_
      refine AllReadyH.cons (o := { dst := some 55, op := Op.call { callee := Callee.value (Operand.func 91), args := #[Operand.tmp 54, Operand.const (Value.int IntKind.i64 2)], argTypes := #[106, 3] }, type := 106, pos := "ref.go:58", after := #[{ on := 1, ground := Ground.data }], guard := none }) rfl (fun K hK => ?_) AllReadyH.nil
      go_simp
      refine (T2.out _).mono ?_
      rintro e w' ⟨rfl, n2, rfl⟩
      go_wp2_with fail
      refine hK.out _ _ hHeld (fun hHeld => ?_)
      clear hK K
      try simp only [Act.put, List.setIfInBounds_toArray, List.set_cons_zero, List.set_cons_succ]
      refine wpAnyH_ready (rs := [5]) (by kernel_rfl) (by simp) ?_
      refine AllReadyH.cons (o := { dst := some 58, op := Op.call { callee := Callee.value (Operand.func 91), args := #[Operand.tmp 57, Operand.const (Value.int IntKind.i64 13)], argTypes := #[106, 3] }, type := 106, pos := "ref.go:58", after := #[{ on := 4, ground := Ground.data }, { on := 2, ground := Ground.chain }], guard := none }) rfl (fun K hK => ?_) AllReadyH.nil
      go_simp
      refine (T13.out _).mono ?_
      rintro e w' ⟨rfl, n2, rfl⟩
      go_wp2_with fail
      refine hK.out _ _ hHeld (fun hHeld => ?_)
      clear hK K
      try simp only [Act.put, List.setIfInBounds_toArray, List.set_cons_zero, List.set_cons_succ]
      refine wpAnyH_take (i := 6) (oi := { dst := some 59, op := Op.binOp BinOp.xor 106 (Operand.tmp 55) (Operand.tmp 58) 106, type := 106, pos := "ref.go:58", after := #[{ on := 2, ground := Ground.data }, { on := 5, ground := Ground.data }], guard := none }) (v := .int .u32 (bits .xor .u32 (rot (ra) 4 1073741824) (rot (ra) 8192 524288))) rfl (by kernel_rfl) (by kernel_rfl) (by kernel_rfl) (fun _ _ _ h => h) (Or.inl ⟨by rfl, by intro W hSw; go_simp; first | done | exact u32w _ | (rw [u32w]; first | rfl | omega) | omega | exact wrap_int _ (by omega) (by omega)⟩) hHeld ?_
      try simp only [Act.put, List.setIfInBounds_toArray, List.set_cons_zero, List.set_cons_succ]
      refine wpAnyH_ready (rs := [9]) (by kernel_rfl) (by simp) ?_
      refine AllReadyH.cons (o := { dst := some 62, op := Op.call { callee := Callee.value (Operand.func 91), args := #[Operand.tmp 61, Operand.const (Value.int IntKind.i64 22)], argTypes := #[106, 3] }, type := 106, pos := "ref.go:58", after := #[{ on := 8, ground := Ground.data }, { on := 5, ground := Ground.chain }], guard := none }) rfl (fun K hK => ?_) AllReadyH.nil
      go_simp
      refine (T22.out _).mono ?_
      rintro e w' ⟨rfl, n2, rfl⟩
      go_wp2_with fail
      refine hK.out _ _ hHeld (fun hHeld => ?_)
      clear hK K
      try simp only [Act.put, List.setIfInBounds_toArray, List.set_cons_zero, List.set_cons_succ]
      refine wpAnyH_take (i := 10) (oi := { dst := some 63, op := Op.binOp BinOp.xor 106 (Operand.tmp 59) (Operand.tmp 62) 106, type := 106, pos := "ref.go:58", after := #[{ on := 6, ground := Ground.data }, { on := 9, ground := Ground.data }], guard := none }) (v := .int .u32 (bits .xor .u32 (bits .xor .u32 (rot (ra) 4 1073741824) (rot (ra) 8192 524288)) (rot (ra) 4194304 1024))) rfl (by kernel_rfl) (by kernel_rfl) (by kernel_rfl) (fun _ _ _ h => h) (Or.inl ⟨by rfl, by intro W hSw; go_simp; first | done | exact u32w _ | (rw [u32w]; first | rfl | omega) | omega | exact wrap_int _ (by omega) (by omega)⟩) hHeld ?_
      try simp only [Act.put, List.setIfInBounds_toArray, List.set_cons_zero, List.set_cons_succ]
      refine wpAnyH_take (i := 28) (oi := { dst := some 81, op := Op.binOp BinOp.add 106 (Operand.tmp 63) (Operand.tmp 80) 106, type := 106, pos := "ref.go:58", after := #[{ on := 10, ground := Ground.data }, { on := 27, ground := Ground.data }], guard := none }) (v := .int .u32 (((bits .xor .u32 (bits .xor .u32 (rot (ra) 4 1073741824) (rot (ra) 8192 524288)) (rot (ra) 4194304 1024)) + (bits .xor .u32 (bits .xor .u32 (bits .and .u32 (ra) (rb)) (bits .and .u32 (ra) (rc))) (bits .and .u32 (rb) (rc)))) % 4294967296)) rfl (by kernel_rfl) (by kernel_rfl) (by kernel_rfl) (fun _ _ _ h => h) (Or.inl ⟨by rfl, by intro W hSw; go_simp; first | done | exact u32w _ | (rw [u32w]; first | rfl | omega) | omega | exact wrap_int _ (by omega) (by omega)⟩) hHeld ?_
      try simp only [Act.put, List.setIfInBounds_toArray, List.set_cons_zero, List.set_cons_succ]
      refine wpAnyH_take (i := 29) (oi := { dst := some 9, op := Op.assign (Operand.tmp 81), type := 106, pos := "ref.go:58", after := #[{ on := 28, ground := Ground.data }, { on := 9, ground := Ground.chain }, { on := 0, ground := Ground.phase }, { on := 1, ground := Ground.phase }, { on := 2, ground := Ground.phase }, { on := 3, ground := Ground.phase }, { on := 4, ground := Ground.phase }, { on := 5, ground := Ground.phase }, { on := 6, ground := Ground.phase }, { on := 7, ground := Ground.phase }, { on := 8, ground := Ground.phase }, { on := 9, ground := Ground.phase }, { on := 10, ground := Ground.phase }, { on := 11, ground := Ground.phase }, { on := 12, ground := Ground.phase }, { on := 13, ground := Ground.phase }, { on := 14, ground := Ground.phase }, { on := 15, ground := Ground.phase }, { on := 16, ground := Ground.phase }, { on := 17, ground := Ground.phase }, { on := 18, ground := Ground.phase }, { on := 19, ground := Ground.phase }, { on := 20, ground := Ground.phase }, { on := 21, ground := Ground.phase }, { on := 22, ground := Ground.phase }, { on := 23, ground := Ground.phase }, { on := 24, ground := Ground.phase }, { on := 25, ground := Ground.phase }, { on := 26, ground := Ground.phase }, { on := 27, ground := Ground.phase }, { on := 28, ground := Ground.phase }], guard := none }) (v := .int .u32 (((bits .xor .u32 (bits .xor .u32 (rot (ra) 4 1073741824) (rot (ra) 8192 524288)) (rot (ra) 4194304 1024)) + (bits .xor .u32 (bits .xor .u32 (bits .and .u32 (ra) (rb)) (bits .and .u32 (ra) (rc))) (bits .and .u32 (rb) (rc)))) % 4294967296)) rfl (by kernel_rfl) (by kernel_rfl) (by kernel_rfl) (fun _ _ _ h => h) (Or.inl ⟨by rfl, by intro W hSw; go_simp⟩) hHeld ?_
      try simp only [Act.put, List.setIfInBounds_toArray, List.set_cons_zero, List.set_cons_succ]
      refine wpAnyH_done (by kernel_rfl) ?_ _
      have F2 : ∀ X Y : Int, (Tryd.prog.info? 107).map (·.size) = some (#[.int .u32 X, .int .u32 ra, .int .u32 rb, .int .u32 rc, .int .u32 Y, .int .u32 re, .int .u32 rf, .int .u32 rg] : Array Value).size := fun X Y => size38
      have F4 : ∀ X Y : Int, (#[.int .u32 X, .int .u32 ra, .int .u32 rb, .int .u32 rc, .int .u32 Y, .int .u32 re, .int .u32 rf, .int .u32 rg] : Array Value).all (·.oneCell') = true := fun X Y => wcells_all [X, ra, rb, rc, Y, re, rf, rg]
      have F5 : ∀ X Y : Int, X = (Sums.step ⟨ra, rb, rc, rd, re, rf, rg, rh⟩ kk ww).a → Y = (Sums.step ⟨ra, rb, rc, rd, re, rf, rg, rh⟩ kk ww).e →
          (#[.int .u32 X, .int .u32 ra, .int .u32 rb, .int .u32 rc, .int .u32 Y, .int .u32 re, .int .u32 rf, .int .u32 rg] : Array Value) = (wcells (Sums.step ⟨ra, rb, rc, rd, re, rf, rg, rh⟩ kk ww).list).toArray := by
        rintro _ _ rfl rfl; rfl
      have HF2 : Hid _ := F2
      have HF4 : Hid _ := F4
      have HF5 : Hid _ := F5
      clear F2 F4 F5
      go_wp2_with (first
        | (refine wpList_store_row rfl 107 (.tmp 6) (.tmp 101) rfl (gw + 1) _ rfl (by rfl) 107 (wcells (⟨ra, rb, rc, rd, re, rf, rg, rh⟩ : St).list).toArray HG.out.2.2.2 (HF2.out _ _) rfl (HF4.out _ _) ?_)
        | fail)
      go_roundw
      case rel =>
        refine ⟨k + 1, by omega, by go_num, ⟨?_, ?_, ?_, ?_⟩, below_setRow (below_drewN hB _) (by omega) _⟩
        · rw [setRow_other _ _ _ _ (by omega)]; exact HG.out.1
        · rw [setRow_other _ _ _ _ (by omega)]; exact HG.out.2.1
        · rw [setRow_other _ _ _ _ (by omega)]; exact HG.out.2.2.1
        · rw [← HE.out, HF5.out _ _ ?hx ?hy]
          · exact setRow_heap _ _ _ _ 107 _ HG.out.2.2.2
          · simp only [Sums.step, pOf, qOf, add32, xor32, and32, not32]
            omega
          · simp only [Sums.step, pOf, qOf, add32, xor32, and32, not32]
            omega
      case measure => simp [intOf]; omega
    · obtain rfl : k = 64 := by omega
      have HE : Hid (block s bl = plus s r) := by
        show _ = _
        rw [HR.out]
        rfl
      have HD1 : Hid (wr.heap[w.heap.size]? = some (.cells (wcells (mixl s.list (plus s r).list 0)).toArray 107 (0, 0))) := by
        show _ = _
        rw [HG.out.1, HD.out]; rfl
      have HGr : Hid (wr.heap[w.heap.size + 1]? = some (.cells Z8 107 (0, 0)) ∧ wr.heap[gw + 1]? = some (.cells (wcells r.list).toArray 107 (0, 0))) := ⟨HG.out.2.1, HG.out.2.2.2⟩
      clear HG HR HD
      simp only [Int.cast_ofNat_Int]
      go_wp2
      go_loopw [10] (fun v wt => ∃ i : Nat, i ≤ 8 ∧ v = .int .i64 i ∧ Hid (wt.heap[w.heap.size]? = some (.cells (wcells (mixl s.list (plus s r).list i)).toArray 107 (0, 0))) ∧
          Hid (wt.heap[w.heap.size + 1]? = some (.cells Z8 107 (0, 0)) ∧ wt.heap[gw + 1]? = some (.cells (wcells r.list).toArray 107 (0, 0))) ∧ Below w.heap.size w wt)
        (fun v _ => 8 - (intOf v).toNat)
      case atStart => exact ⟨0, by omega, rfl, HD1, HGr, hB⟩
      case round =>
        clear HD1 HGr hB
        obtain ⟨i, hi, rfl, HD, HG, hB⟩ := hrel
        by_cases hlt : i < 8
        · have hdi : decide ((i : Int) < 8) = true := by rw [decide_eq_true_eq]; omega
          obtain ⟨x, HX⟩ : ∃ x, Hid (x = s.list[i]'(by rw [list_length]; exact hlt)) := ⟨_, (rfl : s.list[i]'(by rw [list_length]; exact hlt) = _)⟩
          obtain ⟨y, HY⟩ : ∃ y, Hid (y = r.list[i]'(by rw [list_length]; exact hlt)) := ⟨_, (rfl : r.list[i]'(by rw [list_length]; exact hlt) = _)⟩
          have HML : Hid ((mixl s.list (plus s r).list i).length = 8) := mixl_length _ _ i rfl rfl (by omega)
          have cx : wr.cell? ⟨w.heap.size, i, none⟩ = some (.int .u32 x) := by
            rw [wrow_cell HD.out i (by rw [HML.out]; exact hlt), mixl_at _ _ i rfl rfl hlt, HX.out]
          have cy : wr.cell? ⟨gw + 1, i, none⟩ = some (.int .u32 y) := by
            rw [wrow_cell HG.out.2 i (by rw [list_length]; exact hlt), HY.out]
          have hfz : wr.frozen? ⟨w.heap.size, i, none⟩ = false := frozen_of_row wr _ i _ 107 HD.out
          have HN : Hid ((mixl s.list (plus s r).list i).set i ((x + y) % 4294967296) = mixl s.list (plus s r).list (i + 1)) := by
            show _ = _
            rw [HX.out, HY.out]
            exact mixl_next s r i hlt (by rw [list_length]; exact hlt) (by rw [list_length]; exact hlt)
          have ia := fun W => idxE W w.heap.size i (i : Int) rfl hlt
          have ib := fun W => idxE W (gw + 1) i (i : Int) rfl hlt
          have hwn : IntKind.u32.wrap (x + y) = (x + y) % 4294967296 := u32w _
          go_wp2
          refine wp_region_held_drew (S := (fun _ => True)) (by kernel_rfl) trivial (fun hHeld => ?_)
          refine wpAnyH_take (i := 0) (oi := { dst := some 106, op := Op.move (Operand.tmp 10), type := 3, pos := "ref.go:62", after := #[], guard := none }) (v := .int .i64 (i : Int)) rfl (by kernel_rfl) (by kernel_rfl) (by kernel_rfl) (fun _ _ _ h => h) (Or.inl ⟨by rfl, by intro W hSw; go_simp⟩) hHeld ?_
          try simp only [Act.put, List.setIfInBounds_toArray, List.set_cons_zero, List.set_cons_succ]
          refine wpAnyH_take (i := 1) (oi := { dst := some 107, op := Op.move (Operand.tmp 10), type := 3, pos := "ref.go:62", after := #[], guard := none }) (v := .int .i64 (i : Int)) rfl (by kernel_rfl) (by kernel_rfl) (by kernel_rfl) (fun _ _ _ h => h) (Or.inl ⟨by rfl, by intro W hSw; go_simp⟩) hHeld ?_
          try simp only [Act.put, List.setIfInBounds_toArray, List.set_cons_zero, List.set_cons_succ]
          refine wpAnyH_take (i := 2) (oi := { dst := some 108, op := Op.indexAddr 107 (Operand.tmp 2) (Operand.tmp 107), type := 0, pos := "ref.go:62", after := #[{ on := 1, ground := Ground.data }], guard := none }) (v := .pointer (some ⟨w.heap.size, i, none⟩)) rfl (by kernel_rfl) (by kernel_rfl) (by kernel_rfl) (fun _ _ _ h => h) (Or.inl ⟨by rfl, by intro W hSw; go_simp⟩) hHeld ?_
          try simp only [Act.put, List.setIfInBounds_toArray, List.set_cons_zero, List.set_cons_succ]
          refine wpAnyH_take (i := 4) (oi := { dst := some 110, op := Op.move (Operand.tmp 10), type := 3, pos := "ref.go:62", after := #[], guard := none }) (v := .int .i64 (i : Int)) rfl (by kernel_rfl) (by kernel_rfl) (by kernel_rfl) (fun _ _ _ h => h) (Or.inl ⟨by rfl, by intro W hSw; go_simp⟩) hHeld ?_
          try simp only [Act.put, List.setIfInBounds_toArray, List.set_cons_zero, List.set_cons_succ]
          refine wpAnyH_take (i := 5) (oi := { dst := some 111, op := Op.indexAddr 107 (Operand.tmp 6) (Operand.tmp 110), type := 0, pos := "ref.go:62", after := #[{ on := 4, ground := Ground.data }], guard := none }) (v := .pointer (some ⟨gw + 1, i, none⟩)) rfl (by kernel_rfl) (by kernel_rfl) (by kernel_rfl) (fun _ _ _ h => h) (Or.inl ⟨by rfl, by intro W hSw; go_simp⟩) hHeld ?_
          try simp only [Act.put, List.setIfInBounds_toArray, List.set_cons_zero, List.set_cons_succ]
          refine wpAnyH_ready (rs := [3, 6]) (by kernel_rfl) (by simp) ?_
          refine (AllReadyH.cons (o := { dst := some 109, op := Op.load 106 (Operand.tmp 108), type := 106, pos := "ref.go:62", after := #[{ on := 2, ground := Ground.data }], guard := none }) rfl (fun K hK => ?_) (AllReadyH.cons (o := { dst := some 112, op := Op.load 106 (Operand.tmp 111), type := 106, pos := "ref.go:62", after := #[{ on := 5, ground := Ground.data }], guard := none }) rfl (fun K hK => ?_) AllReadyH.nil))
          · go_simp
            refine hK.out _ _ trivial (fun hHeld => ?_)
            clear hK K
            try simp only [Act.put, List.setIfInBounds_toArray, List.set_cons_zero, List.set_cons_succ]
            refine wpAnyH_ready (rs := [6]) (by kernel_rfl) (by simp) ?_
            refine (AllReadyH.cons (o := { dst := some 112, op := Op.load 106 (Operand.tmp 111), type := 106, pos := "ref.go:62", after := #[{ on := 5, ground := Ground.data }], guard := none }) rfl (fun K hK => ?_) AllReadyH.nil)
            go_simp
            refine hK.out _ _ trivial (fun hHeld => ?_)
            clear hK K
            try simp only [Act.put, List.setIfInBounds_toArray, List.set_cons_zero, List.set_cons_succ]
            refine wpAnyH_take (i := 7) (oi := { dst := some 113, op := Op.binOp BinOp.add 106 (Operand.tmp 109) (Operand.tmp 112) 106, type := 106, pos := "ref.go:62", after := #[{ on := 3, ground := Ground.data }, { on := 6, ground := Ground.data }], guard := none }) (v := .int .u32 ((x + y) % 4294967296)) rfl (by kernel_rfl) (by kernel_rfl) (by kernel_rfl) (fun _ _ _ h => h) (Or.inl ⟨by rfl, by intro W hSw; go_simp⟩) hHeld ?_
            try simp only [Act.put, List.setIfInBounds_toArray, List.set_cons_zero, List.set_cons_succ]
            refine wpAnyH_take (i := 8) (oi := { dst := some 114, op := Op.indexAddr 107 (Operand.tmp 2) (Operand.tmp 106), type := 0, pos := "ref.go:62", after := #[{ on := 0, ground := Ground.data }, { on := 0, ground := Ground.phase }, { on := 1, ground := Ground.phase }, { on := 2, ground := Ground.phase }, { on := 3, ground := Ground.phase }, { on := 4, ground := Ground.phase }, { on := 5, ground := Ground.phase }, { on := 6, ground := Ground.phase }, { on := 7, ground := Ground.phase }], guard := none }) (v := .pointer (some ⟨w.heap.size, i, none⟩)) rfl (by kernel_rfl) (by kernel_rfl) (by kernel_rfl) (fun _ _ _ h => h) (Or.inl ⟨by rfl, by intro W hSw; go_simp⟩) hHeld ?_
            try simp only [Act.put, List.setIfInBounds_toArray, List.set_cons_zero, List.set_cons_succ]
            refine wpAnyH_ready (rs := [9]) (by kernel_rfl) (by simp) ?_
            refine (AllReadyH.cons (o := { dst := none, op := Op.store 106 (Operand.tmp 114) (Operand.tmp 113), type := 0, pos := "ref.go:62", after := #[{ on := 8, ground := Ground.data }, { on := 7, ground := Ground.data }, { on := 0, ground := Ground.phase }, { on := 1, ground := Ground.phase }, { on := 2, ground := Ground.phase }, { on := 3, ground := Ground.phase }, { on := 4, ground := Ground.phase }, { on := 5, ground := Ground.phase }, { on := 6, ground := Ground.phase }, { on := 7, ground := Ground.phase }], guard := none }) rfl (fun K hK => ?_) AllReadyH.nil)
            go_simp
            refine hK.out _ _ trivial (fun hHeld => ?_)
            clear hK K
            try simp only [Act.put, List.setIfInBounds_toArray, List.set_cons_zero, List.set_cons_succ]
            refine wpAnyH_done (by kernel_rfl) ?_ _
            go_wp2
            go_roundw
            case rel => exact ⟨i + 1, by omega, by go_num, (by show _ = _; rw [← HN.out]; exact wrow_set (w := wr) HD.out i _), ⟨(heap_setCell_other wr _ _ _ (by simp)).trans HG.out.1, (heap_setCell_other wr _ _ _ (by simp; omega)).trans HG.out.2⟩, (hB.setCell (by simp) _).drew⟩
            case measure => simp [intOf]; omega
          · go_simp
            refine hK.out _ _ trivial (fun hHeld => ?_)
            clear hK K
            try simp only [Act.put, List.setIfInBounds_toArray, List.set_cons_zero, List.set_cons_succ]
            refine wpAnyH_ready (rs := [3]) (by kernel_rfl) (by simp) ?_
            refine (AllReadyH.cons (o := { dst := some 109, op := Op.load 106 (Operand.tmp 108), type := 106, pos := "ref.go:62", after := #[{ on := 2, ground := Ground.data }], guard := none }) rfl (fun K hK => ?_) AllReadyH.nil)
            go_simp
            refine hK.out _ _ trivial (fun hHeld => ?_)
            clear hK K
            try simp only [Act.put, List.setIfInBounds_toArray, List.set_cons_zero, List.set_cons_succ]
            refine wpAnyH_take (i := 7) (oi := { dst := some 113, op := Op.binOp BinOp.add 106 (Operand.tmp 109) (Operand.tmp 112) 106, type := 106, pos := "ref.go:62", after := #[{ on := 3, ground := Ground.data }, { on := 6, ground := Ground.data }], guard := none }) (v := .int .u32 ((x + y) % 4294967296)) rfl (by kernel_rfl) (by kernel_rfl) (by kernel_rfl) (fun _ _ _ h => h) (Or.inl ⟨by rfl, by intro W hSw; go_simp⟩) hHeld ?_
            try simp only [Act.put, List.setIfInBounds_toArray, List.set_cons_zero, List.set_cons_succ]
            refine wpAnyH_take (i := 8) (oi := { dst := some 114, op := Op.indexAddr 107 (Operand.tmp 2) (Operand.tmp 106), type := 0, pos := "ref.go:62", after := #[{ on := 0, ground := Ground.data }, { on := 0, ground := Ground.phase }, { on := 1, ground := Ground.phase }, { on := 2, ground := Ground.phase }, { on := 3, ground := Ground.phase }, { on := 4, ground := Ground.phase }, { on := 5, ground := Ground.phase }, { on := 6, ground := Ground.phase }, { on := 7, ground := Ground.phase }], guard := none }) (v := .pointer (some ⟨w.heap.size, i, none⟩)) rfl (by kernel_rfl) (by kernel_rfl) (by kernel_rfl) (fun _ _ _ h => h) (Or.inl ⟨by rfl, by intro W hSw; go_simp⟩) hHeld ?_
            try simp only [Act.put, List.setIfInBounds_toArray, List.set_cons_zero, List.set_cons_succ]
            refine wpAnyH_ready (rs := [9]) (by kernel_rfl) (by simp) ?_
            refine (AllReadyH.cons (o := { dst := none, op := Op.store 106 (Operand.tmp 114) (Operand.tmp 113), type := 0, pos := "ref.go:62", after := #[{ on := 8, ground := Ground.data }, { on := 7, ground := Ground.data }, { on := 0, ground := Ground.phase }, { on := 1, ground := Ground.phase }, { on := 2, ground := Ground.phase }, { on := 3, ground := Ground.phase }, { on := 4, ground := Ground.phase }, { on := 5, ground := Ground.phase }, { on := 6, ground := Ground.phase }, { on := 7, ground := Ground.phase }], guard := none }) rfl (fun K hK => ?_) AllReadyH.nil)
            go_simp
            refine hK.out _ _ trivial (fun hHeld => ?_)
            clear hK K
            try simp only [Act.put, List.setIfInBounds_toArray, List.set_cons_zero, List.set_cons_succ]
            refine wpAnyH_done (by kernel_rfl) ?_ _
            go_wp2
            go_roundw
            case rel => exact ⟨i + 1, by omega, by go_num, (by show _ = _; rw [← HN.out]; exact wrow_set (w := wr) HD.out i _), ⟨(heap_setCell_other wr _ _ _ (by simp)).trans HG.out.1, (heap_setCell_other wr _ _ _ (by simp; omega)).trans HG.out.2⟩, (hB.setCell (by simp) _).drew⟩
            case measure => simp [intOf]; omega
        · obtain rfl : i = 8 := by omega
          obtain ⟨D2, HD2, HSD2, H1D2, H8D2⟩ := words_row (plus s r).list 107 8 rfl size38
          have HL2 : Hid (wr.heap[w.heap.size]? = some (.cells D2 107 (0, 0))) := by
            show _ = _
            rw [HD2.out]
            have := HD.out
            rw [show mixl s.list (plus s r).list 8 = (plus s r).list by unfold mixl; rfl] at this
            exact this
          have HZD : Hid (Z8.size = D2.size) := by show _ = _; rw [H8.out, H8D2.out]
          clear HD
          go_wp2_with (first
            | (refine wpList_load_row rfl 107 (.tmp 2) rfl w.heap.size rfl 107 D2 (0, 0) _ HL2.out Tryd.underlying107 rfl HSD2.out ?_)
            | (refine wpList_store_row rfl 107 (.tmp 4) (.tmp 115) rfl (w.heap.size + 1) D2 rfl rfl 107 Z8 HG.out.1 HSD2.out HZD.out H1D2.out ?_)
            | fail)
          refine bodyPost_ret (v := .agg D2) ?_ rfl ⟨by rw [HE.out, ← HD2.out], ?_⟩
          · exact results_cell_row (p := 4) (ty := 107) rfl _ _ (w.heap.size + 1) 107 D2 (0, 0) _ rfl (setRow_heap _ _ _ _ 107 _ HG.out.1) Tryd.underlying107 rfl HSD2.out
          · exact below_setRow hB (by omega) _
end Go.Proofs.YtdnhnjimhbbabaaDoor

/- What the document's message answers: a text's bytes, and what fills them up to whole blocks. -/
namespace Go.Proofs.YtdnhnjimhbbabaaDoor
open Go.RowKit Sums
set_option linter.unusedVariables false
set_option linter.unusedSimpArgs false
theorem own_some {w : World} {B n : Nat} {v : Value} {xs : List Value} (h : w.ownsRow B 5 1 v n xs) (hn : 0 < n) : ∃ g cap, v = .slice (some ⟨g, 0, none⟩) n cap ∧ n ≤ cap ∧ cap ≤ maxLen := by
  rcases h.2 with ⟨_, h0⟩ | ⟨g, cap, cur, rfl, _, _, hn, hm, _⟩
  · omega
  · exact ⟨g, cap, rfl, hn, hm⟩
theorem row_lt {w : World} {B n : Nat} {v : Value} {xs : List Value} (h : w.ownsRow B 5 1 v n xs) : ∀ k, v.ownBlock = some k → B ≤ k := fun k hk => (h.lt k hk).1
theorem strCells_eq (s : ByteArray) : Lib.strCells s = cellsOf s.data.toList := by simp [Lib.strCells, cellsOf]
/-- How many noughts fill a message of L bytes up. -/
def noughtsOf (L : Nat) : Nat := 64 * nBlocks L - 9 - L
theorem noughts_at (L : Nat) : L + 1 + noughtsOf L + 8 = 64 * nBlocks L := by unfold noughtsOf nBlocks; omega
theorem noughts_more (L k : Nat) (h : k < noughtsOf L) : (L + 1 + k) % 64 ≠ 56 := by unfold noughtsOf nBlocks at h; omega
theorem noughts_end (L : Nat) : (L + 1 + noughtsOf L) % 64 = 56 := by unfold noughtsOf nBlocks; omega
theorem noughts_le (L : Nat) : noughtsOf L ≤ 63 := by unfold noughtsOf nBlocks; omega
theorem be8_length (n : Nat) : (be8 n).length = 8 := rfl
theorem be_next (l : List UInt8) (z N k : Nat) (hk : k < 8) : cellsOf (l ++ 128 :: (List.replicate z 0 ++ (be8 N).take (k + 1))) = cellsOf (l ++ 128 :: (List.replicate z 0 ++ (be8 N).take k)) ++ [.int .u8 ((be8 N).getD k 0).toNat] := by
  have hk' : k < (be8 N).length := by rw [be8_length]; exact hk
  have e : (be8 N).getD k 0 = (be8 N)[k] := by simp [List.getD, List.getElem?_eq_getElem hk']
  have e2 : l ++ 128 :: (List.replicate z 0 ++ (be8 N).take (k + 1)) = (l ++ 128 :: (List.replicate z 0 ++ (be8 N).take k)) ++ [(be8 N)[k]] := by
    rw [List.take_add_one, List.getElem?_eq_getElem hk']
    simp only [Option.toList_some, List.append_assoc, List.cons_append]
  rw [e2, cellsOf_append, e]
  rfl
theorem be_cell (N c k : Nat) (x : Int) (hx : (be8 N).getD k 0 = UInt8.ofNat (N / c)) (h : x = ((N / c % 256 : Nat) : Int)) : (((be8 N).getD k 0).toNat : Int) = x := by
  rw [hx, UInt8.toNat_ofNat', h]
set_option maxHeartbeats 4000000 in
set_option maxRecDepth 100000 in
theorem refMessage_any (s : ByteArray) (w : World) (hs : s.size ≤ 1000000) :
    Calls Tryd.prog 82 #[.string s] w fun e w' => ∃ v', e = .returned v' ∧ w'.ownsRow w.heap.size 5 1 v' (64 * nBlocks s.size) (cellsOf (pad s.data.toList)) ∧ Below w.heap.size w w' := by
  obtain ⟨i0, hi, hz0, hz1, hz2⟩ := info_parts info5'
  have hlen : s.data.toList.length = s.size := rfl
  obtain ⟨l, HL⟩ : ∃ l, Hid (l = s.data.toList) := ⟨_, (rfl : s.data.toList = _)⟩
  obtain ⟨z, HZ⟩ : ∃ z, Hid (z = noughtsOf s.size) := ⟨_, (rfl : noughtsOf s.size = _)⟩
  have hz63 : z ≤ 63 := by rw [HZ.out]; exact noughts_le _
  have hll : l.length = s.size := by rw [HL.out]; exact hlen
  go_enter Tryd.func82, Tryd.ntmps82
  go_wp2_with (first
    | (at_builtin; refine Lib.wpList_append_own_string _ rfl (.tmp 6) (.tmp 7) 35 9 rfl w.heap.size 5 i0 Tryd.underlying35 Tryd.underlying9 hi hz0 hz1 hz2 _ _ _ rfl (World.ownsRow_nil w w.heap.size 5 1) s rfl ?d1 ?d2 ?d3 ?_)
    | fail)
  case d1 => unfold maxLen; omega
  case d2 => omega
  case d3 => exact Nat.le_refl _
  intro v1 w1 hown1 hgrow1 _
  replace hown1 : w1.ownsRow w.heap.size 5 1 v1 s.size (cellsOf l) := by rw [HL.out, ← strCells_eq]; simpa using hown1
  have hb1 : Below w.heap.size w w1 := (Below.refl _ _).grown hgrow1 (Nat.le_refl _) (by intro k hk; cases hk)
  clear hgrow1
  have hlt1 := row_lt hown1
  go_wp2_with (first
    | (at_builtin; refine wpList_append_own _ rfl (.tmp 9) (.tmp 10) 35 rfl w.heap.size 5 i0 (.int .u8 0) 1 1 Tryd.underlying35 hi hz0 hz1 hz2 rfl (by decide) _ _ _ rfl (hown1.alloc _) ⟨w1.heap.size, 0, none⟩ 1 1 [.int .u8 128] rfl rfl ?c1 ?c2 ?c3 ?c4 ?c5 ?_)
    | fail)
  case c1 =>
    intro j u hj
    match j, hj with
    | 0, hj => simp at hj; subst hj; simp [Addr.add]
  case c2 => intro u hu; simp at hu; subst hu; rfl
  case c3 => unfold maxLen; omega
  case c4 => omega
  case c5 => simp; exact Nat.le_trans hb1.size (by omega)
  intro v2 w2 hown2 hgrow2 _
  have hb2 : Below w.heap.size w w2 := (hb1.alloc hb1.size _).grown hgrow2 (by simp; exact Nat.le_trans hb1.size (by omega)) hlt1
  have HO2 : Hid (w2.ownsRow w.heap.size 5 1 v2 (s.size + 1 + 0) (cellsOf (l ++ 128 :: List.replicate 0 0))) := by
    show World.ownsRow _ _ _ _ _ _ _
    rw [show cellsOf (l ++ 128 :: List.replicate 0 0) = cellsOf l ++ [.int .u8 128] by simp [cellsOf]]
    exact hown2
  clear hgrow2 hown2 hown1 hlt1 hb1
  have HI : Hid (Tryd.prog.info? 5 = some i0 ∧ i0.zero = some (.int .u8 0) ∧ i0.size = 1 ∧ i0.bytes = 1) := ⟨hi, hz0, hz1, hz2⟩
  clear hi hz0 hz1 hz2
  go_wp2
  go_loopw [3] (fun v wr => ∃ k : Nat, k ≤ z ∧ Hid (wr.ownsRow w.heap.size 5 1 v (s.size + 1 + k) (cellsOf (l ++ 128 :: List.replicate k 0))) ∧ Below w.heap.size w wr) (fun v _ => z + s.size + 1 - (match v with | .slice _ n _ => n | _ => 0))
  case atStart => exact ⟨0, by omega, HO2, hb2⟩
  case round =>
    clear HO2 hb2
    obtain ⟨k, hk, HO, hB⟩ := hrel
    obtain ⟨g, cap, rfl, hcap, hcm⟩ := own_some HO.out (by omega)
    have hlt := row_lt HO.out
    unfold maxLen at hcm
    by_cases hlk : k < z
    · have hm : ((((s.size + 1 + k : Nat) : Int).tmod 64) != 56) = true := by
        have := noughts_more s.size k (by rw [← HZ.out]; exact hlk)
        rw [bne_iff_ne, Int.tmod_eq_emod_of_nonneg (by omega)]
        omega
      have hm2 : ((((s.size + 1 + k : Nat) : Int) % 64) != 56) = true := by
        have := noughts_more s.size k (by rw [← HZ.out]; exact hlk)
        rw [bne_iff_ne]
        omega
      go_wp2_with (first
        | (at_builtin; refine wpList_append_own _ rfl (.tmp 16) (.tmp 17) 35 rfl w.heap.size 5 i0 (.int .u8 0) 1 1 Tryd.underlying35 HI.out.1 HI.out.2.1 HI.out.2.2.1 HI.out.2.2.2 rfl (by decide) _ _ _ rfl (HO.out.alloc _) ⟨wr.heap.size, 0, none⟩ 1 1 [.int .u8 0] rfl rfl ?c1 ?c2 ?c3 ?c4 ?c5 ?_)
        | fail)
      case c1 =>
        intro j u hj
        match j, hj with
        | 0, hj => simp at hj; subst hj; simp [Addr.add]
      case c2 => intro u hu; simp at hu; subst hu; rfl
      case c3 => unfold maxLen; omega
      case c4 => omega
      case c5 => simp; exact Nat.le_trans hB.size (by omega)
      intro v3 w3 hown3 hgrow3 _
      have hb3 : Below w.heap.size w w3 := (hB.alloc hB.size _).grown hgrow3 (by simp; exact Nat.le_trans hB.size (by omega)) hlt
      have HO3 : Hid (w3.ownsRow w.heap.size 5 1 v3 (s.size + 1 + (k + 1)) (cellsOf (l ++ 128 :: List.replicate (k + 1) 0))) := by
        show World.ownsRow _ _ _ _ _ _ _
        rw [show cellsOf (l ++ 128 :: List.replicate (k + 1) 0) = cellsOf (l ++ 128 :: List.replicate k 0) ++ [.int .u8 0] by rw [List.replicate_succ']; simp [cellsOf]]
        exact hown3
      clear hgrow3 hown3 HO hB hlt
      obtain ⟨g3, cap3, e3, _, _⟩ := own_some HO3.out (by omega)
      go_wp2
      go_roundw
      case rel => exact ⟨k + 1, by omega, HO3, hb3⟩
      case measure => rw [e3]; simp; omega
    · obtain rfl : z = k := by omega
      have hm : ((((s.size + 1 + z : Nat) : Int).tmod 64) != 56) = false := by
        have := noughts_end s.size
        rw [← HZ.out] at this
        rw [bne_eq_false_iff_eq, Int.tmod_eq_emod_of_nonneg (by omega)]
        omega
      have hm2 : ((((s.size + 1 + z : Nat) : Int) % 64) != 56) = false := by
        have := noughts_end s.size
        rw [← HZ.out] at this
        rw [bne_eq_false_iff_eq]
        omega
      obtain ⟨N, HN⟩ : ∃ N : Nat, Hid (N = 8 * s.size) := ⟨_, (rfl : 8 * s.size = _)⟩
      have hN : N ≤ 8000000 := by rw [HN.out]; omega
      have HP : Hid (cellsOf (l ++ 128 :: List.replicate z 0) = cellsOf (l ++ 128 :: (List.replicate z 0 ++ (be8 N).take 0))) := by show _ = _; simp
      rw [HP.out] at HO
      clear HP
      have HN8 : Hid ((s.size : Int) * 8 = (N : Int)) := by show _ = _; rw [HN.out]; omega
      go_wp2
      rw [HN8.out]
      have HO0 : Hid (wr.ownsRow w.heap.size 5 1 (.slice (some ⟨g, 0, none⟩) (s.size + 1 + z) cap) (s.size + 1 + z + 0) (cellsOf (l ++ 128 :: (List.replicate z 0 ++ (be8 N).take 0)))) := HO
      clear HO hm hm2 hlt HN8
      generalize (((s.size : Int) + 1 + (z : Int)) % 64 != 56) = bb
      go_loopw [3, 5] (fun v i wt => ∃ (k : Nat) (j : Int), k ≤ 8 ∧ j = 7 - (k : Int) ∧ i = .int .i64 j ∧ Hid (wt.ownsRow w.heap.size 5 1 v (s.size + 1 + z + k) (cellsOf (l ++ 128 :: (List.replicate z 0 ++ (be8 N).take k)))) ∧ Below w.heap.size w wt)
        (fun _ i _ => (intOf i + 1).toNat)
      case atStart => exact ⟨0, 7, by omega, rfl, rfl, HO0, hB⟩
      case round =>
        clear HO0 hB
        obtain ⟨k, j, hk, hj, rfl, HO, hB⟩ := hrel
        obtain ⟨g, cap, rfl, hcap, hcm⟩ := own_some HO.out (by omega)
        have hlt := row_lt HO.out
        unfold maxLen at hcm
        have hk8 : k = 0 ∨ k = 1 ∨ k = 2 ∨ k = 3 ∨ k = 4 ∨ k = 5 ∨ k = 6 ∨ k = 7 ∨ k = 8 := by omega
        rcases hk8 with rfl | rfl | rfl | rfl | rfl | rfl | rfl | rfl | rfl
        · obtain rfl : j = 7 := by omega
          clear hj
          go_wp2_with (first
            | (at_builtin; refine wpList_append_own _ rfl (.tmp 27) (.tmp 33) 35 rfl w.heap.size 5 i0 (.int .u8 0) 1 1 Tryd.underlying35 HI.out.1 HI.out.2.1 HI.out.2.2.1 HI.out.2.2.2 rfl (by decide) _ _ _ rfl (HO.out.alloc _) ⟨wr.heap.size, 0, none⟩ 1 1 [.int .u8 ((N : Int) / 72057594037927936)] rfl rfl ?c1 ?c2 ?c3 ?c4 ?c5 ?_)
            | fail)
          case c1 =>
            intro j u hj
            match j, hj with
            | 0, hj => simp at hj; subst hj; simp [Addr.add]
          case c2 => intro u hu; simp at hu; subst hu; rfl
          case c3 => unfold maxLen; omega
          case c4 => omega
          case c5 => simp; exact Nat.le_trans hB.size (by omega)
          intro v3 w3 hown3 hgrow3 _
          have hb3 : Below w.heap.size w w3 := (hB.alloc hB.size _).grown hgrow3 (by simp; exact Nat.le_trans hB.size (by omega)) hlt
          have HO3 : Hid (w3.ownsRow w.heap.size 5 1 v3 (s.size + 1 + z + 1) (cellsOf (l ++ 128 :: (List.replicate z 0 ++ (be8 N).take 1)))) := by
            show World.ownsRow _ _ _ _ _ _ _
            rw [be_next l z N 0 (by omega), be_cell N 72057594037927936 0 ((N : Int) / 72057594037927936) rfl (by omega), List.take_zero, List.append_nil]
            exact hown3
          clear hgrow3 hown3 HO hB hlt
          go_wp2
          go_roundw
          case rel => exact ⟨1, 6, by omega, rfl, by go_num, HO3, hb3⟩
          case measure => simp [intOf]
        · obtain rfl : j = 6 := by omega
          clear hj
          go_wp2_with (first
            | (at_builtin; refine wpList_append_own _ rfl (.tmp 27) (.tmp 33) 35 rfl w.heap.size 5 i0 (.int .u8 0) 1 1 Tryd.underlying35 HI.out.1 HI.out.2.1 HI.out.2.2.1 HI.out.2.2.2 rfl (by decide) _ _ _ rfl (HO.out.alloc _) ⟨wr.heap.size, 0, none⟩ 1 1 [.int .u8 ((N : Int) / 281474976710656)] rfl rfl ?c1 ?c2 ?c3 ?c4 ?c5 ?_)
            | fail)
          case c1 =>
            intro j u hj
            match j, hj with
            | 0, hj => simp at hj; subst hj; simp [Addr.add]
          case c2 => intro u hu; simp at hu; subst hu; rfl
          case c3 => unfold maxLen; omega
          case c4 => omega
          case c5 => simp; exact Nat.le_trans hB.size (by omega)
          intro v3 w3 hown3 hgrow3 _
          have hb3 : Below w.heap.size w w3 := (hB.alloc hB.size _).grown hgrow3 (by simp; exact Nat.le_trans hB.size (by omega)) hlt
          have HO3 : Hid (w3.ownsRow w.heap.size 5 1 v3 (s.size + 1 + z + 2) (cellsOf (l ++ 128 :: (List.replicate z 0 ++ (be8 N).take 2)))) := by
            show World.ownsRow _ _ _ _ _ _ _
            rw [be_next l z N 1 (by omega), be_cell N 281474976710656 1 ((N : Int) / 281474976710656) rfl (by omega)]
            exact hown3
          clear hgrow3 hown3 HO hB hlt
          go_wp2
          go_roundw
          case rel => exact ⟨2, 5, by omega, rfl, by go_num, HO3, hb3⟩
          case measure => simp [intOf]
        · obtain rfl : j = 5 := by omega
          clear hj
          go_wp2_with (first
            | (at_builtin; refine wpList_append_own _ rfl (.tmp 27) (.tmp 33) 35 rfl w.heap.size 5 i0 (.int .u8 0) 1 1 Tryd.underlying35 HI.out.1 HI.out.2.1 HI.out.2.2.1 HI.out.2.2.2 rfl (by decide) _ _ _ rfl (HO.out.alloc _) ⟨wr.heap.size, 0, none⟩ 1 1 [.int .u8 ((N : Int) / 1099511627776)] rfl rfl ?c1 ?c2 ?c3 ?c4 ?c5 ?_)
            | fail)
          case c1 =>
            intro j u hj
            match j, hj with
            | 0, hj => simp at hj; subst hj; simp [Addr.add]
          case c2 => intro u hu; simp at hu; subst hu; rfl
          case c3 => unfold maxLen; omega
          case c4 => omega
          case c5 => simp; exact Nat.le_trans hB.size (by omega)
          intro v3 w3 hown3 hgrow3 _
          have hb3 : Below w.heap.size w w3 := (hB.alloc hB.size _).grown hgrow3 (by simp; exact Nat.le_trans hB.size (by omega)) hlt
          have HO3 : Hid (w3.ownsRow w.heap.size 5 1 v3 (s.size + 1 + z + 3) (cellsOf (l ++ 128 :: (List.replicate z 0 ++ (be8 N).take 3)))) := by
            show World.ownsRow _ _ _ _ _ _ _
            rw [be_next l z N 2 (by omega), be_cell N 1099511627776 2 ((N : Int) / 1099511627776) rfl (by omega)]
            exact hown3
          clear hgrow3 hown3 HO hB hlt
          go_wp2
          go_roundw
          case rel => exact ⟨3, 4, by omega, rfl, by go_num, HO3, hb3⟩
          case measure => simp [intOf]
        · obtain rfl : j = 4 := by omega
          clear hj
          go_wp2_with (first
            | (at_builtin; refine wpList_append_own _ rfl (.tmp 27) (.tmp 33) 35 rfl w.heap.size 5 i0 (.int .u8 0) 1 1 Tryd.underlying35 HI.out.1 HI.out.2.1 HI.out.2.2.1 HI.out.2.2.2 rfl (by decide) _ _ _ rfl (HO.out.alloc _) ⟨wr.heap.size, 0, none⟩ 1 1 [.int .u8 ((N : Int) / 4294967296)] rfl rfl ?c1 ?c2 ?c3 ?c4 ?c5 ?_)
            | fail)
          case c1 =>
            intro j u hj
            match j, hj with
            | 0, hj => simp at hj; subst hj; simp [Addr.add]
          case c2 => intro u hu; simp at hu; subst hu; rfl
          case c3 => unfold maxLen; omega
          case c4 => omega
          case c5 => simp; exact Nat.le_trans hB.size (by omega)
          intro v3 w3 hown3 hgrow3 _
          have hb3 : Below w.heap.size w w3 := (hB.alloc hB.size _).grown hgrow3 (by simp; exact Nat.le_trans hB.size (by omega)) hlt
          have HO3 : Hid (w3.ownsRow w.heap.size 5 1 v3 (s.size + 1 + z + 4) (cellsOf (l ++ 128 :: (List.replicate z 0 ++ (be8 N).take 4)))) := by
            show World.ownsRow _ _ _ _ _ _ _
            rw [be_next l z N 3 (by omega), be_cell N 4294967296 3 ((N : Int) / 4294967296) rfl (by omega)]
            exact hown3
          clear hgrow3 hown3 HO hB hlt
          go_wp2
          go_roundw
          case rel => exact ⟨4, 3, by omega, rfl, by go_num, HO3, hb3⟩
          case measure => simp [intOf]
        · obtain rfl : j = 3 := by omega
          clear hj
          go_wp2_with (first
            | (at_builtin; refine wpList_append_own _ rfl (.tmp 27) (.tmp 33) 35 rfl w.heap.size 5 i0 (.int .u8 0) 1 1 Tryd.underlying35 HI.out.1 HI.out.2.1 HI.out.2.2.1 HI.out.2.2.2 rfl (by decide) _ _ _ rfl (HO.out.alloc _) ⟨wr.heap.size, 0, none⟩ 1 1 [.int .u8 ((N : Int) / 16777216)] rfl rfl ?c1 ?c2 ?c3 ?c4 ?c5 ?_)
            | fail)
          case c1 =>
            intro j u hj
            match j, hj with
            | 0, hj => simp at hj; subst hj; simp [Addr.add]
          case c2 => intro u hu; simp at hu; subst hu; rfl
          case c3 => unfold maxLen; omega
          case c4 => omega
          case c5 => simp; exact Nat.le_trans hB.size (by omega)
          intro v3 w3 hown3 hgrow3 _
          have hb3 : Below w.heap.size w w3 := (hB.alloc hB.size _).grown hgrow3 (by simp; exact Nat.le_trans hB.size (by omega)) hlt
          have HO3 : Hid (w3.ownsRow w.heap.size 5 1 v3 (s.size + 1 + z + 5) (cellsOf (l ++ 128 :: (List.replicate z 0 ++ (be8 N).take 5)))) := by
            show World.ownsRow _ _ _ _ _ _ _
            rw [be_next l z N 4 (by omega), be_cell N 16777216 4 ((N : Int) / 16777216) rfl (by omega)]
            exact hown3
          clear hgrow3 hown3 HO hB hlt
          go_wp2
          go_roundw
          case rel => exact ⟨5, 2, by omega, rfl, by go_num, HO3, hb3⟩
          case measure => simp [intOf]
        · obtain rfl : j = 2 := by omega
          clear hj
          go_wp2_with (first
            | (at_builtin; refine wpList_append_own _ rfl (.tmp 27) (.tmp 33) 35 rfl w.heap.size 5 i0 (.int .u8 0) 1 1 Tryd.underlying35 HI.out.1 HI.out.2.1 HI.out.2.2.1 HI.out.2.2.2 rfl (by decide) _ _ _ rfl (HO.out.alloc _) ⟨wr.heap.size, 0, none⟩ 1 1 [.int .u8 ((N : Int) / 65536)] rfl rfl ?c1 ?c2 ?c3 ?c4 ?c5 ?_)
            | fail)
          case c1 =>
            intro j u hj
            match j, hj with
            | 0, hj => simp at hj; subst hj; simp [Addr.add]
          case c2 => intro u hu; simp at hu; subst hu; rfl
          case c3 => unfold maxLen; omega
          case c4 => omega
          case c5 => simp; exact Nat.le_trans hB.size (by omega)
          intro v3 w3 hown3 hgrow3 _
          have hb3 : Below w.heap.size w w3 := (hB.alloc hB.size _).grown hgrow3 (by simp; exact Nat.le_trans hB.size (by omega)) hlt
          have HO3 : Hid (w3.ownsRow w.heap.size 5 1 v3 (s.size + 1 + z + 6) (cellsOf (l ++ 128 :: (List.replicate z 0 ++ (be8 N).take 6)))) := by
            show World.ownsRow _ _ _ _ _ _ _
            rw [be_next l z N 5 (by omega), be_cell N 65536 5 ((N : Int) / 65536) rfl (by omega)]
            exact hown3
          clear hgrow3 hown3 HO hB hlt
          go_wp2
          go_roundw
          case rel => exact ⟨6, 1, by omega, rfl, by go_num, HO3, hb3⟩
          case measure => simp [intOf]
        · obtain rfl : j = 1 := by omega
          clear hj
          go_wp2_with (first
            | (at_builtin; refine wpList_append_own _ rfl (.tmp 27) (.tmp 33) 35 rfl w.heap.size 5 i0 (.int .u8 0) 1 1 Tryd.underlying35 HI.out.1 HI.out.2.1 HI.out.2.2.1 HI.out.2.2.2 rfl (by decide) _ _ _ rfl (HO.out.alloc _) ⟨wr.heap.size, 0, none⟩ 1 1 [.int .u8 ((N : Int) / 256 % 256)] rfl rfl ?c1 ?c2 ?c3 ?c4 ?c5 ?_)
            | fail)
          case c1 =>
            intro j u hj
            match j, hj with
            | 0, hj => simp at hj; subst hj; simp [Addr.add]
          case c2 => intro u hu; simp at hu; subst hu; rfl
          case c3 => unfold maxLen; omega
          case c4 => omega
          case c5 => simp; exact Nat.le_trans hB.size (by omega)
          intro v3 w3 hown3 hgrow3 _
          have hb3 : Below w.heap.size w w3 := (hB.alloc hB.size _).grown hgrow3 (by simp; exact Nat.le_trans hB.size (by omega)) hlt
          have HO3 : Hid (w3.ownsRow w.heap.size 5 1 v3 (s.size + 1 + z + 7) (cellsOf (l ++ 128 :: (List.replicate z 0 ++ (be8 N).take 7)))) := by
            show World.ownsRow _ _ _ _ _ _ _
            rw [be_next l z N 6 (by omega), be_cell N 256 6 ((N : Int) / 256 % 256) rfl (by omega)]
            exact hown3
          clear hgrow3 hown3 HO hB hlt
          go_wp2
          go_roundw
          case rel => exact ⟨7, 0, by omega, rfl, by go_num, HO3, hb3⟩
          case measure => simp [intOf]
        · obtain rfl : j = 0 := by omega
          clear hj
          go_wp2_with (first
            | (at_builtin; refine wpList_append_own _ rfl (.tmp 27) (.tmp 33) 35 rfl w.heap.size 5 i0 (.int .u8 0) 1 1 Tryd.underlying35 HI.out.1 HI.out.2.1 HI.out.2.2.1 HI.out.2.2.2 rfl (by decide) _ _ _ rfl (HO.out.alloc _) ⟨wr.heap.size, 0, none⟩ 1 1 [.int .u8 ((N : Int) % 256)] rfl rfl ?c1 ?c2 ?c3 ?c4 ?c5 ?_)
            | fail)
          case c1 =>
            intro j u hj
            match j, hj with
            | 0, hj => simp at hj; subst hj; simp [Addr.add]
          case c2 => intro u hu; simp at hu; subst hu; rfl
          case c3 => unfold maxLen; omega
          case c4 => omega
          case c5 => simp; exact Nat.le_trans hB.size (by omega)
          intro v3 w3 hown3 hgrow3 _
          have hb3 : Below w.heap.size w w3 := (hB.alloc hB.size _).grown hgrow3 (by simp; exact Nat.le_trans hB.size (by omega)) hlt
          have HO3 : Hid (w3.ownsRow w.heap.size 5 1 v3 (s.size + 1 + z + 8) (cellsOf (l ++ 128 :: (List.replicate z 0 ++ (be8 N).take 8)))) := by
            show World.ownsRow _ _ _ _ _ _ _
            rw [be_next l z N 7 (by omega), be_cell N 1 7 ((N : Int) % 256) (by rw [Nat.div_one]; rfl) (by omega)]
            exact hown3
          clear hgrow3 hown3 HO hB hlt
          go_wp2
          go_roundw
          case rel => exact ⟨8, -1, by omega, rfl, by go_num, HO3, hb3⟩
          case measure => simp [intOf]
        · obtain rfl : j = -1 := by omega
          clear hj
          have HO8 : Hid (wr.ownsRow w.heap.size 5 1 (.slice (some ⟨g, 0, none⟩) (s.size + 1 + z + 8) cap) (64 * nBlocks s.size) (cellsOf (pad s.data.toList))) := by
            show World.ownsRow _ _ _ _ _ _ _
            have h1 := HO.out
            have h2 := noughts_at s.size
            rw [← HZ.out] at h2
            have e : pad s.data.toList = l ++ 128 :: (List.replicate z 0 ++ (be8 N).take 8) := by
              unfold pad
              rw [hlen, ← HL.out, HN.out, HZ.out]
              rfl
            rw [e, ← h2]
            exact h1
          go_wp2
          go_ret
          exact ⟨_, rfl, HO8.out, hB⟩
end Go.Proofs.YtdnhnjimhbbabaaDoor

/- What the document's Sum answers: the sum of a text. -/
namespace Go.Proofs.YtdnhnjimhbbabaaDoor
open Go.RowKit Sums
set_option linter.unusedVariables false
set_option linter.unusedSimpArgs false
/-- A digest's first i bytes, and noughts behind them. -/
def dpart (l : List UInt8) (i : Nat) : List UInt8 := l.take i ++ List.replicate (32 - i) 0
theorem dpart_length (l : List UInt8) (i : Nat) (hl : l.length = 32) (hi : i ≤ 32) : (dpart l i).length = 32 := by simp [dpart]; omega
theorem dpart_set (l : List UInt8) (i : Nat) (hl : l.length = 32) (hi : i < 32) (b : UInt8) (hb : l[i]? = some b) : (dpart l i).set i b = dpart l (i + 1) := by
  unfold dpart
  rw [List.set_append, if_neg (by simp; omega), List.length_take, show i - min i l.length = 0 by omega, List.take_add_one, hb, show 32 - i = (32 - (i + 1)) + 1 by omega, List.replicate_succ, List.set_cons_zero]
  simp only [Option.toList_some, List.append_assoc, List.cons_append, List.nil_append]
theorem dpart_all (l : List UInt8) (hl : l.length = 32) : dpart l 32 = l := by
  unfold dpart
  rw [List.take_of_length_le (by omega)]
  simp
theorem flat4_at (l : List Int) (q r : Nat) (hq : q < l.length) (hr : r < 4) : (l.flatMap bytes4)[4 * q + r]? = (bytes4 l[q])[r]? := by
  induction l generalizing q with
  | nil => simp at hq
  | cons z l ih =>
    rw [List.flatMap_cons]
    cases q with
    | zero =>
      rw [List.getElem?_append_left (by show _ < 4; omega)]
      simp
    | succ q =>
      rw [List.getElem?_append_right (by show 4 ≤ _; omega), show 4 * (q + 1) + r - (bytes4 z).length = 4 * q + r by show 4 * (q + 1) + r - 4 = _; omega, ih q (by simpa using hq)]
      simp
theorem idxD (W : World) (g j : Nat) (z : Int) (hz : z = j) (hj : j < 32) : (Instr.indexAt 24 (.pointer (some ⟨g, 0, none⟩)) (.int .i64 z)).run Tryd.prog W = .ok (.pointer (some ⟨g, j, none⟩)) W := by
  subst hz
  have hs : ∀ w, (sizeOf 5).run Tryd.prog w = .ok 1 w := by
    intro w
    have hq : (Tryd.prog.info? 5).map (·.size) = some 1 := by kernel_rfl
    cases h : Tryd.prog.info? 5 with
    | none => simp [h] at hq
    | some i => simp [h] at hq; simp [sizeOf, typeInfo, h, hq]
  simp [Instr.indexAt, run_underlying Tryd.underlying24, Instr.sureAddr, asIntOf, hj, hs, add_plain]
set_option maxHeartbeats 4000000 in
set_option maxRecDepth 100000 in
theorem refSum_any (x : ByteArray) (w : World) (hx : x.size ≤ 1000000) (hK : Table 1 w) (D : Array Value) (HDD : Hid (D = (cellsOf (sumD x.data.toList)).toArray)) :
    Calls Tryd.prog 71 #[.string x] w fun e w' => e = .returned (.agg D) ∧ Below w.heap.size w w' := by
  obtain ⟨Z, HZ, HA, HS, H1, H32⟩ := noughts27
  obtain ⟨Z8, HA8, HS8, H8⟩ := noughts38
  have HSF : Hid ((Tryd.prog.info? 107).map (·.size) = some (wcells first.list).toArray.size) := size38
  have HZF : Hid (Z8.size = (wcells first.list).toArray.size) := H8.out
  have H1F : Hid ((wcells first.list).toArray.all (·.oneCell') = true) := wcells_all _
  obtain ⟨l, HL⟩ : ∃ l, Hid (l = x.data.toList) := ⟨_, (rfl : x.data.toList = _)⟩
  have hll : l.length = x.size := by rw [HL.out]; rfl
  have HM : Hid (∀ w1, Calls Tryd.prog 82 #[.string x] w1 fun e w' => ∃ v', e = .returned v' ∧ w'.ownsRow w1.heap.size 5 1 v' (64 * nBlocks x.size) (cellsOf (pad l)) ∧ Below w1.heap.size w1 w') := fun w1 => by
    rw [HL.out]; exact refMessage_any x w1 hx
  have HTB : Hid (Table 1 w) := hK
  clear hK
  rw [← HL.out] at HDD
  go_enter Tryd.func71, Tryd.ntmps71
  go_wp2_with (first
    | (refine wpList_alloc_row rfl 24 rfl Z HA.out ?_)
    | (refine wpList_alloc_row rfl 107 rfl Z8 HA8.out ?_)
    | (refine wpList_store_row rfl 107 (.tmp 3) (.tmp 8) rfl (w.alloc (.cells Z 24)).heap.size (wcells first.list).toArray rfl (by rfl) 107 Z8 (heap_alloc_new (w.alloc (.cells Z 24)) _) HSF.out HZF.out H1F.out ?_)
    | fail)
  have hB0 : Below w.heap.size w (((w.alloc (.cells Z 24)).alloc (.cells Z8 107)).setRow (w.heap.size + 1) (wcells first.list).toArray) := below_setRow (((Below.refl _ _).alloc (Nat.le_refl _) _).alloc (by simp) _) (by omega) _
  refine (HM.out _).mono ?_
  rintro e w1 ⟨v1, rfl, hown, hb1⟩
  obtain ⟨N, HN⟩ : ∃ N, Hid (N = nBlocks x.size) := ⟨_, (rfl : nBlocks x.size = _)⟩
  rw [← HN.out] at hown
  have hN : N ≤ 20000 ∧ 1 ≤ N := by have := HN.out; unfold nBlocks at *; omega
  obtain ⟨g, cap, cur, rfl, hgs, hg, hcap, hcm, htake⟩ : ∃ g cap cur, v1 = .slice (some ⟨g, 0, none⟩) (64 * N) cap ∧ w.heap.size + 2 ≤ g ∧ w1.heap[g]? = some (.cells cur 5 (0, 0)) ∧ 64 * N ≤ cap ∧ cap ≤ maxLen ∧ cur.toList.take (64 * N) = cellsOf (pad l) := by
    rcases hown.2 with ⟨_, h0⟩ | ⟨g, cap, cur, hv, hb, hg, hn, hm, _, ht⟩
    · omega
    · refine ⟨g, cap, cur, hv, ?_, hg, hn, hm, by simpa using ht⟩
      simp only [setRow_size, World.size_alloc] at hb
      omega
  unfold maxLen at hcm
  have HG0 : Hid (w1.heap[w.heap.size]? = some (.cells Z 24 (0, 0)) ∧ w1.heap[w.heap.size + 1]? = some (.cells (wcells (blocks first (pad l) 0).list).toArray 107 (0, 0)) ∧ w1.heap[g]? = some (.cells cur 5 (0, 0))) := by
    refine ⟨?_, ?_, hg⟩
    · rw [hb1.block _ (by simp only [setRow_size, World.size_alloc]; omega), setRow_other _ _ _ _ (by omega)]; exact heap_alloc2_old w _ _
    · rw [hb1.block _ (by simp only [setRow_size, World.size_alloc]; omega)]; exact setRow_heap _ _ _ _ 107 _ (heap_alloc2_new w _ _)
  have HTK : Hid (cur.toList.take (64 * N) = cellsOf (pad l)) := htake
  have hB1 : Below w.heap.size w w1 := hB0.trans (hb1.mono (by simp only [setRow_size, World.size_alloc]; omega))
  clear hg hb1 hB0 HM hown htake
  go_wp2
  go_loopw [5] (fun v wr => ∃ k : Nat, k ≤ N ∧ v = .int .i64 (64 * (k : Int)) ∧ Hid (wr.heap[w.heap.size]? = some (.cells Z 24 (0, 0)) ∧ wr.heap[w.heap.size + 1]? = some (.cells (wcells (blocks first (pad l) k).list).toArray 107 (0, 0)) ∧
      wr.heap[g]? = some (.cells cur 5 (0, 0))) ∧ Below w.heap.size w wr)
    (fun v _ => 64 * N - (intOf v).toNat)
  case atStart => exact ⟨0, by omega, rfl, HG0, hB1⟩
  case round =>
    clear HG0 hB1
    obtain ⟨k, hk, rfl, HG, hB⟩ := hrel
    by_cases hlt : k < N
    · have hdi : decide ((64 : Int) * (k : Int) < 64 * (N : Int)) = true := by rw [decide_eq_true_eq]; omega
      have hw64 := wrap_int (64 * (k : Int) + 64) (by omega) (by omega)
      obtain ⟨m, HM⟩ : ∃ m, Hid (m = pad l) := ⟨_, (rfl : pad l = _)⟩
      have HML : Hid (m.length = 64 * N) := by show _ = _; rw [HM.out, pad_length, hll, HN.out]
      obtain ⟨s, HSt⟩ : ∃ s, Hid (s = blocks first (pad l) k) := ⟨_, (rfl : blocks first (pad l) k = _)⟩
      obtain ⟨L, HLs, HSL, H1L, H8L⟩ := words_row s.list 107 8 rfl size38
      obtain ⟨L2, HL2, HSL2, H1L2, H8L2⟩ := words_row (block s ((m.drop (64 * k)).take 64)).list 107 8 rfl size38
      have HLL : Hid (L.size = L2.size) := by show _ = _; rw [H8L.out, H8L2.out]
      have HGs : Hid (wr.heap[w.heap.size + 1]? = some (.cells L 107 (0, 0))) := by show _ = _; rw [HLs.out, HSt.out]; exact HG.out.2.1
      have HKM : Hid (∀ w2, Below wr.heap.size wr w2 → Calls Tryd.prog 83 #[.agg L, .slice (some ⟨g, 64 * k, none⟩) 64 (cap - 64 * k)] w2 fun e w' => e = .returned (.agg L2) ∧ Below w2.heap.size w2 w') := by
        intro w2 hb2
        rw [HLs.out, HL2.out]
        have hgr := heap_lt HG.out.2.2
        have hly : Lies wr g 0 m := fun i hi => by
          have hi' : i < 64 * N := by rw [← HML.out]; exact hi
          rw [Nat.zero_add, cell_of_row wr g i _ 5 (0, 0) HG.out.2.2]
          have h1 : (cur.toList.take (64 * N))[i]? = some (.int .u8 m[i].toNat) := by rw [HTK.out, ← HM.out]; exact cellsOf_at m i hi
          rw [List.getElem?_take_of_lt hi'] at h1
          rw [← Array.getElem?_toList]
          exact h1
        have hl2 : Lies w2 g (0 + 64 * k) ((m.drop (64 * k)).take 64) := ((hly.keep hb2 hgr).drop (64 * k)).take 64
        rw [Nat.zero_add] at hl2
        have hlen2 : ((m.drop (64 * k)).take 64).length = 64 := by
          have := HML.out
          simp; omega
        exact refBlock_any s g (64 * k) (cap - 64 * k) _ w2 (by rw [HSt.out]; exact blocks_ok _ _ _ first_ok) hlen2 (by omega) (by omega) (Nat.lt_of_lt_of_le hgr hb2.size) hl2 ((HTB.out.keep hB).keep hb2)
      have hb0 : (0 : Int) ≤ 64 * (k : Int) := by omega
      have hb1 : 64 * (k : Int) ≤ 64 * (k : Int) + 64 := by omega
      have hb2 : 64 * (k : Int) + 64 ≤ (cap : Int) := by omega
      go_wp2
      refine wp_region_held_drew (S := (fun _ => True)) (by kernel_rfl) trivial (fun hHeld => ?_)
      refine wpAnyH_take (i := 1) (oi := { dst := some 18, op := Op.move (Operand.tmp 4), type := 35, pos := "ref.go:72", after := #[], guard := none }) (v := .slice (some ⟨g, 0, none⟩) (64 * N) cap) rfl (by kernel_rfl) (by kernel_rfl) (by kernel_rfl) (fun _ _ _ h => h) (Or.inl ⟨by rfl, by intro w hSw; go_simp⟩) hHeld ?_
      try simp only [Act.put, List.setIfInBounds_toArray, List.set_cons_zero, List.set_cons_succ]
      refine wpAnyH_take (i := 2) (oi := { dst := some 19, op := Op.move (Operand.tmp 5), type := 3, pos := "ref.go:72", after := #[], guard := none }) (v := .int .i64 (64 * (k : Int))) rfl (by kernel_rfl) (by kernel_rfl) (by kernel_rfl) (fun _ _ _ h => h) (Or.inl ⟨by rfl, by intro w hSw; go_simp⟩) hHeld ?_
      try simp only [Act.put, List.setIfInBounds_toArray, List.set_cons_zero, List.set_cons_succ]
      refine wpAnyH_take (i := 3) (oi := { dst := some 20, op := Op.move (Operand.tmp 5), type := 3, pos := "ref.go:72", after := #[], guard := none }) (v := .int .i64 (64 * (k : Int))) rfl (by kernel_rfl) (by kernel_rfl) (by kernel_rfl) (fun _ _ _ h => h) (Or.inl ⟨by rfl, by intro w hSw; go_simp⟩) hHeld ?_
      try simp only [Act.put, List.setIfInBounds_toArray, List.set_cons_zero, List.set_cons_succ]
      refine wpAnyH_take (i := 4) (oi := { dst := some 21, op := Op.binOp BinOp.add 3 (Operand.tmp 20) (Operand.const (Value.int IntKind.i64 64)) 3, type := 3, pos := "ref.go:72", after := #[{ on := 3, ground := Ground.data }], guard := none }) (v := .int .i64 (64 * (k : Int) + 64)) rfl (by kernel_rfl) (by kernel_rfl) (by kernel_rfl) (fun _ _ _ h => h) (Or.inl ⟨by rfl, by intro w hSw; go_simp⟩) hHeld ?_
      try simp only [Act.put, List.setIfInBounds_toArray, List.set_cons_zero, List.set_cons_succ]
      refine wpAnyH_take (i := 5) (oi := { dst := some 22, op := Op.slice 35 (Operand.tmp 18) (some (Operand.tmp 19)) (some (Operand.tmp 21)) none, type := 35, pos := "ref.go:72", after := #[{ on := 1, ground := Ground.data }, { on := 2, ground := Ground.data }, { on := 4, ground := Ground.data }], guard := none }) (v := .slice (some ⟨g, 64 * k, none⟩) 64 (cap - 64 * k)) rfl (by kernel_rfl) (by kernel_rfl) (by kernel_rfl) (fun _ _ _ h => h) (Or.inl ⟨by rfl, by intro W hSw; go_simp; rw [show (64 * (k : Int)).toNat = 64 * k by omega, if_neg (by omega)]; exact ⟨rfl, by omega, rfl⟩⟩) hHeld ?_
      try simp only [Act.put, List.setIfInBounds_toArray, List.set_cons_zero, List.set_cons_succ]
      refine wpAnyH_ready (rs := [0]) (by kernel_rfl) (by simp) ?_
      refine AllReadyH.cons (o := { dst := some 17, op := Op.load 107 (Operand.tmp 3), type := 107, pos := "ref.go:72", after := #[], guard := none }) rfl (fun K hK => ?_) AllReadyH.nil
      refine step_load_row (by rfl) 107 (.tmp 3) rfl (w.heap.size + 1) rfl 107 L (0, 0) _ HGs.out Tryd.underlying107 rfl HSL.out ?_
      refine hK.out _ _ trivial (fun hHeld => ?_)
      clear hK K
      try simp only [Act.put, List.setIfInBounds_toArray, List.set_cons_zero, List.set_cons_succ]
      refine wpAnyH_ready (rs := [6]) (by kernel_rfl) (by simp) ?_
      refine AllReadyH.cons (o := { dst := some 23, op := Op.call { callee := Callee.value (Operand.func 83), args := #[Operand.tmp 17, Operand.tmp 22], argTypes := #[107, 35] }, type := 107, pos := "ref.go:72", after := #[{ on := 0, ground := Ground.data }, { on := 5, ground := Ground.data }], guard := none }) rfl (fun K hK => ?_) AllReadyH.nil
      go_simp
      refine (HKM.out _ (Below.refl _ _).drew).mono ?_
      rintro e w3 ⟨rfl, hb3⟩
      have HG3 : Hid (w3.heap[w.heap.size + 1]? = some (.cells L 107 (0, 0))) := (hb3.block _ (heap_lt HGs.out)).trans HGs.out
      go_wp2_with fail
      refine hK.out _ _ trivial (fun hHeld => ?_)
      clear hK K
      try simp only [Act.put, List.setIfInBounds_toArray, List.set_cons_zero, List.set_cons_succ]
      refine wpAnyH_ready (rs := [7]) (by kernel_rfl) (by simp) ?_
      refine AllReadyH.cons (o := { dst := none, op := Op.store 107 (Operand.tmp 3) (Operand.tmp 23), type := 0, pos := "ref.go:72", after := #[{ on := 6, ground := Ground.data }, { on := 6, ground := Ground.chain }, { on := 0, ground := Ground.phase }, { on := 1, ground := Ground.phase }, { on := 2, ground := Ground.phase }, { on := 3, ground := Ground.phase }, { on := 4, ground := Ground.phase }, { on := 5, ground := Ground.phase }, { on := 6, ground := Ground.phase }], guard := none }) rfl (fun K hK => ?_) AllReadyH.nil
      refine step_store_row (by rfl) 107 (.tmp 3) (.tmp 23) rfl (w.heap.size + 1) L2 rfl rfl 107 L HG3.out HSL2.out HLL.out H1L2.out ?_
      refine hK.out _ _ trivial (fun hHeld => ?_)
      clear hK K
      try simp only [Act.put, List.setIfInBounds_toArray, List.set_cons_zero, List.set_cons_succ]
      refine wpAnyH_done (by kernel_rfl) ?_ _
      have HN2 : Hid ((wcells (blocks first (pad l) (k + 1)).list).toArray = L2) := by
        show _ = _
        rw [HL2.out, HM.out]
        unfold blocks
        rw [← HSt.out]
      go_wp2
      go_roundw
      case rel =>
        refine ⟨k + 1, by omega, by go_num, ⟨?_, ?_, ?_⟩, below_setRow (hB.trans (((Below.refl _ _).drew.trans hb3).mono hB.size)) (by omega) _⟩
        · rw [setRow_other _ _ _ _ (by omega), hb3.block _ (heap_lt HG.out.1)]; exact HG.out.1
        · rw [HN2.out]; exact setRow_heap _ _ _ _ 107 _ HG3.out
        · rw [setRow_other _ _ _ _ (by omega), hb3.block _ (heap_lt HG.out.2.2)]; exact HG.out.2.2
      case measure => simp [intOf]; omega
    · obtain rfl : N = k := by omega
      obtain ⟨s, HSt⟩ : ∃ s, Hid (s = blocks first (pad l) N) := ⟨_, (rfl : blocks first (pad l) N = _)⟩
      have HGs : Hid (wr.heap[w.heap.size + 1]? = some (.cells (wcells s.list).toArray 107 (0, 0))) := by show _ = _; rw [HSt.out]; exact HG.out.2.1
      have HOs : Hid (OkSt s) := by show OkSt _; rw [HSt.out]; exact blocks_ok _ _ _ first_ok
      have HE : Hid (sumD l = s.list.flatMap bytes4) := by
        show _ = _
        unfold sumD endOf
        rw [hll, ← HN.out, ← HSt.out]
      have HSL : Hid ((sumD l).length = 32) := sumD_length _
      go_wp2_with (first
        | (refine wpList_alloc_row rfl 24 rfl Z HA.out ?_)
        | fail)
      have hgd : w.heap.size + 2 ≤ wr.heap.size := by have := heap_lt HG.out.2.2; omega
      have HD0 : Hid ((wr.alloc (.cells Z 24)).heap[wr.heap.size]? = some (.cells (cellsOf (dpart (sumD l) 0)).toArray 24 (0, 0)) ∧ (wr.alloc (.cells Z 24)).heap[w.heap.size]? = some (.cells Z 24 (0, 0)) ∧
          (wr.alloc (.cells Z 24)).heap[w.heap.size + 1]? = some (.cells (wcells s.list).toArray 107 (0, 0))) := by
        refine ⟨?_, heap_keep HG.out.1, heap_keep HGs.out⟩
        have e : (cellsOf (dpart (sumD l) 0)).toArray = Z := by rw [HZ.out]; rfl
        rw [e]
        exact heap_alloc_new wr _
      have hB3 : Below w.heap.size w (wr.alloc (.cells Z 24)) := hB.alloc (by omega) _
      clear HG HGs hB HTK
      generalize wr.heap.size = gd at hgd HD0 ⊢
      generalize wr.alloc (.cells Z 24) = w4 at HD0 hB3 ⊢
      go_loopw [7] (fun v wd => ∃ i : Nat, i ≤ 32 ∧ v = .int .i64 i ∧ Hid (wd.heap[gd]? = some (.cells (cellsOf (dpart (sumD l) i)).toArray 24 (0, 0)) ∧ wd.heap[w.heap.size]? = some (.cells Z 24 (0, 0)) ∧
          wd.heap[w.heap.size + 1]? = some (.cells (wcells s.list).toArray 107 (0, 0))) ∧ Below w.heap.size w wd)
        (fun v _ => 32 - (intOf v).toNat)
      case atStart => exact ⟨0, by omega, rfl, HD0, hB3⟩
      case round =>
        clear HD0 hB3
        obtain ⟨i, hi, rfl, HD, hB⟩ := hrel
        by_cases hlt : i < 32
        · have hdi : decide ((i : Int) < 32) = true := by rw [decide_eq_true_eq]; omega
          obtain ⟨q, r, hr, rfl⟩ : ∃ q r, r < 4 ∧ i = 4 * q + r := ⟨i / 4, i % 4, by omega, by omega⟩
          have hq : q < 8 := by omega
          obtain ⟨y, HY⟩ : ∃ y, Hid (y = s.list[q]'(by rw [list_length]; exact hq)) := ⟨_, (rfl : s.list[q]'(by rw [list_length]; exact hq) = _)⟩
          have hy : 0 ≤ y ∧ y ≤ 4294967295 := by rw [HY.out]; exact HOs.out _ (List.getElem_mem _)
          have cy : wr.cell? ⟨w.heap.size + 1, q, none⟩ = some (.int .u32 y) := by
            rw [wrow_cell HD.out.2.2 q (by rw [list_length]; exact hq), HY.out]
          have HBy : Hid ((sumD l)[4 * q + r]? = (bytes4 y)[r]?) := by show _ = _; rw [HE.out, flat4_at s.list q r (by rw [list_length]; exact hq) hr, HY.out]
          have HPL : Hid ((dpart (sumD l) (4 * q + r)).length = 32) := dpart_length _ _ HSL.out (by omega)
          have hcell : wr.cell? ⟨gd, 4 * q + r, none⟩ = some (.int .u8 (((dpart (sumD l) (4 * q + r))[4 * q + r]'(by rw [HPL.out]; exact hlt)).toNat : Int)) := by
            rw [cell_of_row wr _ _ _ 24 (0, 0) HD.out.1]; simp [cellsOf_at _ (4 * q + r) (show 4 * q + r < (dpart (sumD l) (4 * q + r)).length by rw [HPL.out]; exact hlt)]
          have hfz : wr.frozen? ⟨gd, 4 * q + r, none⟩ = false := frozen_of_row wr _ _ _ 24 HD.out.1
          have ia := fun W => idxE W (w.heap.size + 1) q (q : Int) rfl hq
          have ib := fun W => idxD W gd (4 * q + r) ((4 * q + r : Nat) : Int) rfl hlt
          have hdq : ((4 * q + r : Nat) : Int) / 4 = (q : Int) := by omega
          have hdr : ((4 * q + r : Nat) : Int) % 4 = (r : Int) := by omega
          have hdq' : ((4 * q + r : Nat) : Int).tdiv 4 = (q : Int) := by rw [Int.tdiv_eq_ediv_of_nonneg (by omega)]; omega
          have hdr' : ((4 * q + r : Nat) : Int).tmod 4 = (r : Int) := by rw [Int.tmod_eq_emod_of_nonneg (by omega)]; omega
          obtain ⟨iz, HIZ⟩ : ∃ iz : Int, Hid (iz = ((4 * q + r : Nat) : Int)) := ⟨_, (rfl : ((4 * q + r : Nat) : Int) = _)⟩
          rw [← HIZ.out] at hdq hdr hdq' hdr' ib hdi ⊢
          have hizb : 0 ≤ iz ∧ iz ≤ 31 := by rw [HIZ.out]; omega
          have hr4 : r = 0 ∨ r = 1 ∨ r = 2 ∨ r = 3 := by omega
          rcases hr4 with rfl | rfl | rfl | rfl
          · simp only [Int.cast_ofNat_Int] at hdr hdr'
            simp only [Nat.add_zero] at hcell hfz ib HD HBy HIZ
            have HV : Hid ((UInt8.ofNat (y / 16777216).toNat).toNat = (y / 16777216 : Int)) := by show _ = _; rw [UInt8.toNat_ofNat']; omega
            have HN : Hid ((dpart (sumD l) (4 * q)).set (4 * q) (UInt8.ofNat (y / 16777216).toNat) = dpart (sumD l) (4 * q + 1)) := dpart_set _ _ HSL.out (by omega) _ HBy.out
            go_wp2
            go_roundw
            case rel =>
              refine ⟨4 * q + 1, by omega, by rw [HIZ.out]; go_num, ⟨?_, ?_, ?_⟩, hB.setCell (by simp; omega) _⟩
              · rw [← HV.out, row_set HD.out.1, ← HN.out]
                exact setRow_heap _ _ _ _ 24 _ HD.out.1
              · rw [heap_setCell_other _ _ _ _ (by simp; omega)]; exact HD.out.2.1
              · rw [heap_setCell_other _ _ _ _ (by simp; omega)]; exact HD.out.2.2
            case measure => rw [HIZ.out]; simp [intOf]; omega
          · simp only [Int.cast_ofNat_Int] at hdr hdr'
            have HV : Hid ((UInt8.ofNat (y / 65536).toNat).toNat = (y / 65536 % 256 : Int)) := by show _ = _; rw [UInt8.toNat_ofNat']; omega
            have HN : Hid ((dpart (sumD l) (4 * q + 1)).set (4 * q + 1) (UInt8.ofNat (y / 65536).toNat) = dpart (sumD l) (4 * q + 1 + 1)) := dpart_set _ _ HSL.out (by omega) _ HBy.out
            go_wp2
            go_roundw
            case rel =>
              refine ⟨4 * q + 1 + 1, by omega, by rw [HIZ.out]; go_num, ⟨?_, ?_, ?_⟩, hB.setCell (by simp; omega) _⟩
              · rw [← HV.out, row_set HD.out.1, ← HN.out]
                exact setRow_heap _ _ _ _ 24 _ HD.out.1
              · rw [heap_setCell_other _ _ _ _ (by simp; omega)]; exact HD.out.2.1
              · rw [heap_setCell_other _ _ _ _ (by simp; omega)]; exact HD.out.2.2
            case measure => rw [HIZ.out]; simp [intOf]; omega
          · simp only [Int.cast_ofNat_Int] at hdr hdr'
            have HV : Hid ((UInt8.ofNat (y / 256).toNat).toNat = (y / 256 % 256 : Int)) := by show _ = _; rw [UInt8.toNat_ofNat']; omega
            have HN : Hid ((dpart (sumD l) (4 * q + 2)).set (4 * q + 2) (UInt8.ofNat (y / 256).toNat) = dpart (sumD l) (4 * q + 2 + 1)) := dpart_set _ _ HSL.out (by omega) _ HBy.out
            go_wp2
            go_roundw
            case rel =>
              refine ⟨4 * q + 2 + 1, by omega, by rw [HIZ.out]; go_num, ⟨?_, ?_, ?_⟩, hB.setCell (by simp; omega) _⟩
              · rw [← HV.out, row_set HD.out.1, ← HN.out]
                exact setRow_heap _ _ _ _ 24 _ HD.out.1
              · rw [heap_setCell_other _ _ _ _ (by simp; omega)]; exact HD.out.2.1
              · rw [heap_setCell_other _ _ _ _ (by simp; omega)]; exact HD.out.2.2
            case measure => rw [HIZ.out]; simp [intOf]; omega
          · simp only [Int.cast_ofNat_Int] at hdr hdr'
            have HV : Hid ((UInt8.ofNat y.toNat).toNat = (y % 256 : Int)) := by show _ = _; rw [UInt8.toNat_ofNat']; omega
            have HN : Hid ((dpart (sumD l) (4 * q + 3)).set (4 * q + 3) (UInt8.ofNat y.toNat) = dpart (sumD l) (4 * q + 3 + 1)) := dpart_set _ _ HSL.out (by omega) _ HBy.out
            go_wp2
            go_roundw
            case rel =>
              refine ⟨4 * q + 3 + 1, by omega, by rw [HIZ.out]; go_num, ⟨?_, ?_, ?_⟩, hB.setCell (by simp; omega) _⟩
              · rw [← HV.out, row_set HD.out.1, ← HN.out]
                exact setRow_heap _ _ _ _ 24 _ HD.out.1
              · rw [heap_setCell_other _ _ _ _ (by simp; omega)]; exact HD.out.2.1
              · rw [heap_setCell_other _ _ _ _ (by simp; omega)]; exact HD.out.2.2
            case measure => rw [HIZ.out]; simp [intOf]; omega
        · obtain rfl : i = 32 := by omega
          have HSD : Hid ((Tryd.prog.info? 24).map (·.size) = some D.size) := by show _ = _; rw [size23, HDD.out]; simp [cellsOf_length, sumD_length]
          have H1D : Hid (D.all (·.oneCell') = true) := by show _ = _; rw [HDD.out]; exact cellsOf_all _
          have HZD : Hid (Z.size = D.size) := by show _ = _; rw [H32.out, HDD.out]; simp [cellsOf_length, sumD_length]
          have HDs : Hid (wr.heap[gd]? = some (.cells D 24 (0, 0))) := by
            show _ = _
            have := HD.out.1
            rw [dpart_all _ HSL.out] at this
            rw [HDD.out]
            exact this
          go_wp2_with (first
            | (refine wpList_load_row rfl 24 (.tmp 6) rfl gd rfl 24 D (0, 0) _ HDs.out Tryd.underlying24 rfl HSD.out ?_)
            | (refine wpList_store_row rfl 24 (.tmp 2) (.tmp 40) rfl w.heap.size D rfl rfl 24 Z HD.out.2.1 HSD.out HZD.out H1D.out ?_)
            | fail)
          refine bodyPost_ret (v := .agg D) ?_ rfl ⟨rfl, ?_⟩
          · exact results_cell_row (p := 2) (ty := 24) rfl _ _ w.heap.size 24 D (0, 0) _ rfl (setRow_heap _ _ _ _ 24 _ HD.out.2.1) Tryd.underlying24 rfl HSD.out
          · exact below_setRow hB (Nat.le_refl _) _
end Go.Proofs.YtdnhnjimhbbabaaDoor

/- What the document's Text, Leaf and Knot answer. -/
namespace Go.Proofs.YtdnhnjimhbbabaaDoor
open Go.RowKit Sums
set_option linter.unusedVariables false
set_option linter.unusedSimpArgs false
set_option maxHeartbeats 1000000 in
theorem refText_any (l : List UInt8) (hl : l.length = 32) (w : World) (x : ByteArray) (HX : Hid (x = ⟨l.toArray⟩)) (A : List Value) (HAL : Hid (A = cellsOf l)) :
    Calls Tryd.prog 62 #[.agg A.toArray] w fun e w' => e = .returned (.string x) ∧ Below w.heap.size w w' := by
  have c0 : ∀ W, W.rangeAt w.heap.size 0 A → Sem.run Tryd.prog (convert 35 9 (.slice (some ⟨w.heap.size, 0, none⟩) 32 32)) W = .ok (.string x) W := fun W h => by
    rw [HX.out]; exact conv_dig W _ l hl (by rw [← HAL.out]; exact h)
  have s0 := fun W => slice_all W w.heap.size
  have c1 := c0 (w.alloc (.cells A.toArray 24)) (range_row (heap_alloc_new w _))
  clear c0
  go_enter Tryd.func62, Tryd.ntmps62
  go_wp2
  go_ret
  exact ⟨rfl, (Below.refl _ _).alloc (Nat.le_refl _) _⟩
end Go.Proofs.YtdnhnjimhbbabaaDoor

/- What the document's Mac, Key and Holds answer. -/
namespace Go.Proofs.YtdnhnjimhbbabaaDoor
open Go.RowKit Sums
set_option linter.unusedVariables false
set_option linter.unusedSimpArgs false
set_option maxRecDepth 100000
set_option maxHeartbeats 4000000 in
theorem refBlk_any (key : List UInt8) (turn : UInt8) (w : World) (K : Array Value) (HK : Hid (K = (cellsOf key).toArray)) (hk : key.length = 32) (s : ByteArray) (Hs : Hid (s = ⟨(blockD key turn).toArray⟩)) :
    Calls Tryd.prog 72 #[.agg K, .int .u8 (turn.toNat : Int)] w fun e w' => e = .returned (.string s) ∧ Below w.heap.size w w' := by
  obtain ⟨i0, hi, hz0, hz1, hz2⟩ := info_parts info5'
  have HI := hidk (And.intro hi (And.intro hz0 (And.intro hz1 hz2)))
  have hbl := blockD_length key turn hk
  have HW0 : Hid ((w.alloc (.cells K 23)).heap[w.heap.size]? = some (.cells K 23 (0, 0)) ∧ Below w.heap.size w (w.alloc (.cells K 23))) := ⟨heap_alloc_new w _, (Below.refl _ _).alloc (Nat.le_refl _) _⟩
  have HN0 : Hid ((w.alloc (.cells K 23)).ownsRow (w.heap.size + 1) 5 1 (.slice none 0 0) 0 (cellsOf ((blockD key turn).take 0))) := World.ownsRow_nil _ _ _ _
  clear hi hz0 hz1 hz2
  go_enter Tryd.func72, Tryd.ntmps72
  go_wp2
  go_loopw [5, 6] (fun v i wr => ∃ k : Nat, k ≤ 64 ∧ i = .int .i64 k ∧ Hid (wr.ownsRow (w.heap.size + 1) 5 1 v k (cellsOf ((blockD key turn).take k)) ∧ wr.heap[w.heap.size]? = some (.cells K 23 (0, 0)) ∧ Below w.heap.size w wr)) (fun _ i _ => 64 - (intOf i).toNat)
  case atStart => exact ⟨0, by omega, rfl, HN0.out, HW0.out⟩
  case round =>
    clear HN0 HW0
    obtain ⟨k, hk64, rfl, HO⟩ := hrel
    have hwr : w.heap.size < wr.heap.size := heap_lt HO.out.2.1
    by_cases hlt : k < 64
    · have d0 : decide ((k : Int) < 64) = true := by rw [decide_eq_true_eq]; omega
      have d0' : decide (k < 64) = true := by rw [decide_eq_true_eq]; omega
      obtain ⟨y, HY⟩ : ∃ y : UInt8, Hid (y = (blockD key turn)[k]'(by rw [hbl]; exact hlt)) := ⟨(blockD key turn)[k]'(by rw [hbl]; exact hlt), hidk rfl⟩
      have hyy := blockD_at key turn hk k hlt
      rw [List.getElem?_eq_getElem (by rw [hbl]; exact hlt), ← HY.out, Option.some.injEq] at hyy
      by_cases h32 : k < 32
      · have d1 : decide ((k : Int) < 32) = true := by rw [decide_eq_true_eq]; omega
        have d1' : decide (k < 32) = true := by rw [decide_eq_true_eq]; omega
        have hkk : k < key.length := by omega
        rw [dif_pos hkk] at hyy
        have hx : bits .xor .u8 (key[k].toNat : Int) (turn.toNat : Int) = (y.toNat : Int) := by rw [xor8, hyy]
        have hc : wr.cell? ⟨w.heap.size, k, none⟩ = some (.int .u8 (key[k].toNat : Int)) := by
          rw [cell_of_row wr _ k _ 23 (0, 0) HO.out.2.1, HK.out]
          simp [cellsOf_at key k hkk]
        clear hyy
        go_wp2_with (first
          | (at_builtin; refine wpList_append_own _ rfl (.tmp 17) (.tmp 21) 35 rfl (w.heap.size + 1) 5 i0 (.int .u8 0) 1 1 Tryd.underlying35 HI.out.1 HI.out.2.1 HI.out.2.2.1 HI.out.2.2.2 rfl (by decide) _ _ _ rfl (HO.out.1.alloc _) ⟨wr.heap.size, 0, none⟩ 1 1 [.int .u8 (y.toNat : Int)] rfl rfl ?c1 ?c2 ?c3 ?c4 ?c5 ?_)
          | fail)
        case c1 =>
          intro j u hj
          match j, hj with
          | 0, hj => simp at hj; subst hj; simp [Addr.add]
        case c2 => intro u hu; simp at hu; subst hu; rfl
        case c3 => unfold maxLen; omega
        case c4 => omega
        case c5 => simp; omega
        intro v3 w3 hown3 hgrow3 _
        have HO3 : Hid (w3.ownsRow (w.heap.size + 1) 5 1 v3 (k + 1) (cellsOf ((blockD key turn).take (k + 1))) ∧ w3.heap[w.heap.size]? = some (.cells K 23 (0, 0)) ∧ Below w.heap.size w w3) := by
          refine ⟨?_, ?_, ?_⟩
          · rw [List.take_add_one, List.getElem?_eq_getElem (by rw [hbl]; omega)]
            simp only [Option.toList_some]
            rw [cellsOf_append, show (blockD key turn)[k]'(by rw [hbl]; omega) = y by rw [HY.out]]
            exact hown3
          · rw [hgrow3.block w.heap.size (by simp; omega) (fun e => by have := (HO.out.1.lt _ e.symm).1; omega)]
            exact heap_keep HO.out.2.1
          · exact (HO.out.2.2.alloc HO.out.2.2.size _).grown hgrow3 (by simp; omega) (fun q e => by have := (HO.out.1.lt _ e).1; omega)
        clear hgrow3 hown3 HO hc
        go_wp2
        go_roundw
        case rel => exact ⟨k + 1, by omega, by go_num, HO3⟩
        case measure => simp [intOf]; omega
      · have d1 : decide ((k : Int) < 32) = false := by rw [decide_eq_false_iff_not]; omega
        have d1' : decide (k < 32) = false := by rw [decide_eq_false_iff_not]; omega
        rw [dif_neg (by omega)] at hyy
        have hx : bits .xor .u8 0 (turn.toNat : Int) = (y.toNat : Int) := by
          have := xor8 0 turn
          rw [hyy]
          exact this
        have hc : True := trivial
        clear hyy
        go_wp2_with (first
          | (at_builtin; refine wpList_append_own _ rfl (.tmp 17) (.tmp 21) 35 rfl (w.heap.size + 1) 5 i0 (.int .u8 0) 1 1 Tryd.underlying35 HI.out.1 HI.out.2.1 HI.out.2.2.1 HI.out.2.2.2 rfl (by decide) _ _ _ rfl (HO.out.1.alloc _) ⟨wr.heap.size, 0, none⟩ 1 1 [.int .u8 (y.toNat : Int)] rfl rfl ?c1 ?c2 ?c3 ?c4 ?c5 ?_)
          | fail)
        case c1 =>
          intro j u hj
          match j, hj with
          | 0, hj => simp at hj; subst hj; simp [Addr.add]
        case c2 => intro u hu; simp at hu; subst hu; rfl
        case c3 => unfold maxLen; omega
        case c4 => omega
        case c5 => simp; omega
        intro v3 w3 hown3 hgrow3 _
        have HO3 : Hid (w3.ownsRow (w.heap.size + 1) 5 1 v3 (k + 1) (cellsOf ((blockD key turn).take (k + 1))) ∧ w3.heap[w.heap.size]? = some (.cells K 23 (0, 0)) ∧ Below w.heap.size w w3) := by
          refine ⟨?_, ?_, ?_⟩
          · rw [List.take_add_one, List.getElem?_eq_getElem (by rw [hbl]; omega)]
            simp only [Option.toList_some]
            rw [cellsOf_append, show (blockD key turn)[k]'(by rw [hbl]; omega) = y by rw [HY.out]]
            exact hown3
          · rw [hgrow3.block w.heap.size (by simp; omega) (fun e => by have := (HO.out.1.lt _ e.symm).1; omega)]
            exact heap_keep HO.out.2.1
          · exact (HO.out.2.2.alloc HO.out.2.2.size _).grown hgrow3 (by simp; omega) (fun q e => by have := (HO.out.1.lt _ e).1; omega)
        clear hgrow3 hown3 HO hc
        go_wp2
        go_roundw
        case rel => exact ⟨k + 1, by omega, by go_num, HO3⟩
        case measure => simp [intOf]; omega
    · obtain rfl : k = 64 := by omega
      have HB := hidk HO.out.2.2
      have hoo := HO.out.1
      rw [List.take_of_length_le (by omega)] at hoo
      obtain ⟨g, cap, rfl, hcv⟩ := own_string hoo (by omega)
      rw [← Hs.out] at hcv
      clear hoo HO
      go_wp2
      go_ret
      exact ⟨rfl, HB.out⟩
set_option maxHeartbeats 4000000 in
theorem refMac_any (key : List UInt8) (s : ByteArray) (w : World) (K D : Array Value) (HK : Hid (K = (cellsOf key).toArray)) (hk : key.length = 32) (hs : s.size ≤ 100000) (hT : Table 1 w) (HD : Hid (D = (cellsOf (macD key s.data.toList)).toArray)) :
    Calls Tryd.prog 53 #[.agg K, .string s] w fun e w' => e = .returned (.agg D) ∧ Below w.heap.size w w' := by
  obtain ⟨Z, HZ, HA, HS, H1, H32⟩ := noughts27
  have HSK : Hid ((Tryd.prog.info? 23).map (·.size) = some K.size) := by show _ = _; rw [sizeY, HK.out]; simp [cellsOf_length, hk]
  have HSD : Hid ((Tryd.prog.info? 24).map (·.size) = some D.size) := by show _ = _; rw [size23, HD.out]; simp [cellsOf_length, macD, sumD_length]
  have H1D : Hid (D.all (·.oneCell') = true) := by show _ = _; rw [HD.out]; exact cellsOf_all _
  have HZD : Hid (Z.size = D.size) := by show _ = _; rw [H32.out, HD.out]; simp [cellsOf_length, macD, sumD_length]
  obtain ⟨b1, HB1⟩ : ∃ b : ByteArray, Hid (b = ⟨(blockD key 54).toArray⟩) := ⟨_, (rfl : _ = _)⟩
  obtain ⟨b2, HB2⟩ : ∃ b : ByteArray, Hid (b = ⟨(blockD key 92).toArray⟩) := ⟨_, (rfl : _ = _)⟩
  have hz1 : b1.size = 64 := by rw [HB1.out]; show (blockD key 54).toArray.size = 64; simpa using blockD_length key 54 hk
  have hz2 : b2.size = 64 := by rw [HB2.out]; show (blockD key 92).toArray.size = 64; simpa using blockD_length key 92 hk
  obtain ⟨M, HM, HSM, H1M, H32M⟩ := dig_row' (sumD (blockD key 54 ++ s.data.toList)) (sumD_length _)
  have HZM : Hid (Z.size = M.size) := by show _ = _; rw [H32.out, H32M.out]
  obtain ⟨x, HX⟩ : ∃ x : ByteArray, Hid (x = ⟨(sumD (blockD key 54 ++ s.data.toList)).toArray⟩) := ⟨_, (rfl : _ = _)⟩
  have hzx : x.size = 32 := by rw [HX.out]; show (sumD _).toArray.size = 32; simpa using sumD_length _
  have C1 : Hid (∀ W, Calls Tryd.prog 72 #[.agg K, .int .u8 54] W fun e w' => e = .returned (.string b1) ∧ Below W.heap.size W w') := fun W => refBlk_any key 54 W K HK hk b1 HB1
  have C2 : Hid (∀ W, Calls Tryd.prog 72 #[.agg K, .int .u8 92] W fun e w' => e = .returned (.string b2) ∧ Below W.heap.size W w') := fun W => refBlk_any key 92 W K HK hk b2 HB2
  have S1 : Hid (∀ W, Below w.heap.size w W → Calls Tryd.prog 71 #[.string (b1 ++ s)] W fun e w' => e = .returned (.agg M) ∧ Below W.heap.size W w') := fun W hb => refSum_any (b1 ++ s) W (by rw [ByteArray.size_append]; omega) (hT.keep hb) M (by show _ = _; rw [HM.out, HB1.out]; simp)
  have S2 : Hid (∀ W, Below w.heap.size w W → Calls Tryd.prog 71 #[.string (b2 ++ x)] W fun e w' => e = .returned (.agg D) ∧ Below W.heap.size W w') := fun W hb => refSum_any (b2 ++ x) W (by rw [ByteArray.size_append]; omega) (hT.keep hb) D (by show _ = _; rw [HD.out, HB2.out, HX.out]; simp [macD])
  have X1 : Hid (∀ W, Calls Tryd.prog 62 #[.agg M] W fun e w' => e = .returned (.string x) ∧ Below W.heap.size W w') := fun W => by
    have := refText_any _ (sumD_length _) W x HX M.toList (by show _ = _; rw [HM.out])
    simpa using this
  clear hT HD HX HM HB1 HB2 HK
  go_enter Tryd.func53, Tryd.ntmps53
  go_wp2_with (first
    | (show wpList _ _ _ ({ dst := some 4, op := _, type := _, pos := _, after := _, guard := _ } :: _) _ _; refine wpList_new_var rfl 24 rfl Z HA.out ?_; intro g4 w1 HM4; have HBW1 : Hid (Below w.heap.size w w1) := ((Below.refl _ _).alloc (Nat.le_refl _) _).trans (HM4.out.below.mono (by simp)); have HK1 := hidk ((HM4.out.below.block _ (by simp)).trans (heap_alloc_new w (.cells K 23))); try simp only [Act.put, List.setIfInBounds_toArray, List.set_cons_zero, List.set_cons_succ])
    | (show wpList _ _ _ ({ dst := some 6, op := _, type := _, pos := _, after := _, guard := _ } :: _) _ _; refine wpList_load_row rfl 23 (.tmp 2) rfl w.heap.size rfl 23 K (0, 0) _ HK1.out Tryd.underlying23 rfl HSK.out ?_; try simp only [Act.put, List.setIfInBounds_toArray, List.set_cons_zero, List.set_cons_succ])
    | fail)
  have h4 : w.heap.size < g4 := by have e := HM4.out.new; simp at e; omega
  have HR4 := hidk HM4.out.row
  clear HM4
  refine (C1.out _).mono ?_
  rintro e w2 ⟨rfl, hb2⟩
  have HB2w := hidk (HBW1.out.trans (hb2.mono HBW1.out.size))
  have HK2 := hidk ((hb2.block _ (heap_lt HK1.out)).trans HK1.out)
  have HR42 := hidk ((hb2.block _ (heap_lt HR4.out)).trans HR4.out)
  clear hb2 HBW1 HK1 HR4 C1
  go_wp2_with fail
  refine (S1.out _ HB2w.out).mono ?_
  rintro e w3 ⟨rfl, hb3⟩
  have HB3w := hidk (HB2w.out.trans (hb3.mono HB2w.out.size))
  have HK3 := hidk ((hb3.block _ (heap_lt HK2.out)).trans HK2.out)
  have HR43 := hidk ((hb3.block _ (heap_lt HR42.out)).trans HR42.out)
  clear hb3 HB2w HK2 HR42 S1
  go_wp2_with (first
    | (show wpList _ _ _ ({ dst := some 5, op := _, type := _, pos := _, after := _, guard := _ } :: _) _ _; refine wpList_new_var rfl 24 rfl Z HA.out ?_; intro g5 w4 HM5; try simp only [Act.put, List.setIfInBounds_toArray, List.set_cons_zero, List.set_cons_succ])
    | (refine wpList_set_var rfl 24 (.tmp 5) (.tmp 10) rfl g5 M rfl rfl 24 Z HM5.out.row HSM.out HZM.out H1M.out ?_; intro w5 HW5; try simp only [Act.put, List.setIfInBounds_toArray, List.set_cons_zero, List.set_cons_succ])
    | fail)
  have h5 : g4 < g5 := by rw [HM5.out.new]; exact heap_lt HR43.out
  have HB5 := hidk (HW5.out.below w3.heap.size w3 HM5.out.below (Nat.le_of_eq HM5.out.new.symm))
  have HB5w := hidk (HB3w.out.trans (HB5.out.mono HB3w.out.size))
  have HK5 := hidk ((HB5.out.block _ (heap_lt HK3.out)).trans HK3.out)
  have HR45 := hidk ((HB5.out.block _ (heap_lt HR43.out)).trans HR43.out)
  have HR5 := hidk HW5.out.row
  clear HM5 HW5 HB5 HB3w HK3 HR43
  refine wp_region_held_drew (S := (fun W => W.heap[w.heap.size]? = some (.cells K 23 (0, 0)) ∧ W.heap[g5]? = some (.cells M 24 (0, 0)))) (by kernel_rfl) ⟨HK5.out, HR5.out⟩ (fun hHeld => ?_)
  refine wpAnyH_take (i := 0) (oi := { dst := some 11, op := Op.load 23 (Operand.tmp 2), type := 23, pos := "ref.go:25", after := #[], guard := none }) (v := .agg K) rfl (by kernel_rfl) (by kernel_rfl) (by kernel_rfl) (fun _ _ _ h => h) (yieldsIf_row (by rfl) 23 (.tmp 2) rfl w.heap.size rfl 23 K (0, 0) _ (fun _ h => h.1) Tryd.underlying23 rfl HSK.out) hHeld ?_
  try simp only [Act.put, List.setIfInBounds_toArray, List.set_cons_zero, List.set_cons_succ]
  refine wpAnyH_take (i := 2) (oi := { dst := some 13, op := Op.load 24 (Operand.tmp 5), type := 24, pos := "ref.go:25", after := #[], guard := none }) (v := .agg M) rfl (by kernel_rfl) (by kernel_rfl) (by kernel_rfl) (fun _ _ _ h => h) (yieldsIf_row (by rfl) 24 (.tmp 5) rfl g5 rfl 24 M (0, 0) _ (fun _ h => h.2) Tryd.underlying24 rfl HSM.out) hHeld ?_
  try simp only [Act.put, List.setIfInBounds_toArray, List.set_cons_zero, List.set_cons_succ]
  refine wpAnyH_ready (rs := [1]) (by kernel_rfl) (by simp) ?_
  refine (AllReadyH.cons (o := { dst := some 12, op := Op.call { callee := Callee.value (Operand.func 72), args := #[Operand.tmp 11, Operand.const (Value.int IntKind.u8 92)], argTypes := #[23, 5] }, type := 9, pos := "ref.go:25", after := #[{ on := 0, ground := Ground.data }], guard := none }) rfl (fun K hK => ?_) AllReadyH.nil)
  go_simp
  refine (C2.out _).mono ?_
  rintro e w1 ⟨rfl, hbx⟩
  have HBX := hidk (HB5w.out.drew.trans (hbx.mono HB5w.out.size))
  have HR4x := hidk ((hbx.block _ (heap_lt HR45.out)).trans HR45.out)
  go_wp2_with fail
  refine hK.out _ _ ⟨(hbx.block _ (heap_lt hHeld.1)).trans hHeld.1, (hbx.block _ (heap_lt hHeld.2)).trans hHeld.2⟩ (fun hHeld => ?_)
  clear hK K
  try simp only [Act.put, List.setIfInBounds_toArray, List.set_cons_zero, List.set_cons_succ]
  refine wpAnyH_ready (rs := [3]) (by kernel_rfl) (by simp) ?_
  refine (AllReadyH.cons (o := { dst := some 14, op := Op.call { callee := Callee.value (Operand.func 62), args := #[Operand.tmp 13], argTypes := #[24] }, type := 9, pos := "ref.go:25", after := #[{ on := 2, ground := Ground.data }, { on := 1, ground := Ground.chain }], guard := none }) rfl (fun K hK => ?_) AllReadyH.nil)
  go_simp
  refine (X1.out _).mono ?_
  rintro e w3 ⟨rfl, hby⟩
  have HBY := hidk (HBX.out.trans (hby.mono HBX.out.size))
  have HR4y := hidk ((hby.block _ (heap_lt HR4x.out)).trans HR4x.out)
  go_wp2_with fail
  refine hK.out _ _ ⟨(hby.block _ (heap_lt hHeld.1)).trans hHeld.1, (hby.block _ (heap_lt hHeld.2)).trans hHeld.2⟩ (fun hHeld => ?_)
  clear hK K
  try simp only [Act.put, List.setIfInBounds_toArray, List.set_cons_zero, List.set_cons_succ]
  refine wpAnyH_take (i := 4) (oi := { dst := some 15, op := Op.binOp BinOp.add 9 (Operand.tmp 12) (Operand.tmp 14) 9, type := 9, pos := "ref.go:25", after := #[{ on := 1, ground := Ground.data }, { on := 3, ground := Ground.data }], guard := none }) (v := .string (b2 ++ x)) rfl (by kernel_rfl) (by kernel_rfl) (by kernel_rfl) (fun _ _ _ h => h) (Or.inl ⟨by rfl, by intro W hSw; go_simp⟩) hHeld ?_
  try simp only [Act.put, List.setIfInBounds_toArray, List.set_cons_zero, List.set_cons_succ]
  refine wpAnyH_ready (rs := [5]) (by kernel_rfl) (by simp) ?_
  refine (AllReadyH.cons (o := { dst := some 16, op := Op.call { callee := Callee.value (Operand.func 71), args := #[Operand.tmp 15], argTypes := #[9] }, type := 24, pos := "ref.go:25", after := #[{ on := 4, ground := Ground.data }, { on := 3, ground := Ground.chain }], guard := none }) rfl (fun K hK => ?_) AllReadyH.nil)
  go_simp
  refine (S2.out _ HBY.out).mono ?_
  rintro e w5 ⟨rfl, hbz⟩
  have HBS := hidk (HBY.out.trans (hbz.mono HBY.out.size))
  have HR4z := hidk ((hbz.block _ (heap_lt HR4y.out)).trans HR4y.out)
  go_wp2_with fail
  refine hK.out _ _ ⟨(hbz.block _ (heap_lt hHeld.1)).trans hHeld.1, (hbz.block _ (heap_lt hHeld.2)).trans hHeld.2⟩ (fun hHeld => ?_)
  clear hK K
  try simp only [Act.put, List.setIfInBounds_toArray, List.set_cons_zero, List.set_cons_succ]
  refine wpAnyH_ready (rs := [6]) (by kernel_rfl) (by simp) ?_
  refine (AllReadyH.cons (o := { dst := none, op := Op.store 24 (Operand.tmp 4) (Operand.tmp 16), type := 0, pos := "ref.go:25", after := #[{ on := 5, ground := Ground.data }, { on := 5, ground := Ground.chain }, { on := 0, ground := Ground.phase }, { on := 1, ground := Ground.phase }, { on := 2, ground := Ground.phase }, { on := 3, ground := Ground.phase }, { on := 4, ground := Ground.phase }, { on := 5, ground := Ground.phase }], guard := none }) rfl (fun K hK => ?_) AllReadyH.nil)
  refine step_set_var (by rfl) 24 (.tmp 4) (.tmp 16) rfl g4 D rfl rfl 24 Z HR4z.out HSD.out HZD.out H1D.out ?_
  intro wz HW4
  refine hK.out _ _ ⟨(HW4.out.other w.heap.size (by omega)).trans hHeld.1, (HW4.out.other g5 (by omega)).trans hHeld.2⟩ (fun hHeld => ?_)
  clear hK K
  try simp only [Act.put, List.setIfInBounds_toArray, List.set_cons_zero, List.set_cons_succ]
  refine wpAnyH_done (by kernel_rfl) ?_ _
  go_wp2
  refine bodyPost_ret (v := .agg D) ?_ rfl ⟨rfl, HW4.out.below w.heap.size w HBS.out (by omega)⟩
  exact results_cell_row (p := 4) (ty := 24) rfl _ _ g4 24 D (0, 0) _ rfl HW4.out.row Tryd.underlying24 rfl HSD.out
theorem conv_three (W : World) (r n : Int) (hr : 0 ≤ r ∧ r ≤ 255) (hn : 0 ≤ n ∧ n ≤ 255) : (convert 35 9 (.slice (some ⟨W.heap.size, 0, none⟩) 3 3)).run Tryd.prog (W.alloc (.cells #[.int .u8 75, .int .u8 r, .int .u8 n] 5)) = .ok (.string ⟨#[75, UInt8.ofNat r.toNat, UInt8.ofNat n.toNat]⟩) (W.alloc (.cells #[.int .u8 75, .int .u8 r, .int .u8 n] 5)) := by
  have e1 : ((UInt8.ofNat r.toNat).toNat : Int) = r := by rw [UInt8.toNat_ofNat']; omega
  have e2 : ((UInt8.ofNat n.toNat).toNat : Int) = n := by rw [UInt8.toNat_ofNat']; omega
  have := run_convert_bytes_back (P := Tryd.prog) (W.alloc (.cells #[.int .u8 75, .int .u8 r, .int .u8 n] 5)) 35 9 5 ⟨W.heap.size, 0, none⟩ 3 [75, UInt8.ofNat r.toNat, UInt8.ofNat n.toNat] Tryd.underlying35 Tryd.underlying5 Tryd.underlying9 (fun j hj => by
    rw [add_plain, Nat.zero_add, cell_of_row _ _ j _ 5 (0, 0) (heap_alloc_new W _)]
    match j, hj with
    | 0, _ => rfl
    | 1, _ => show some (Value.int .u8 r) = some (.int .u8 ((UInt8.ofNat r.toNat).toNat : Int)); rw [e1]
    | 2, _ => show some (Value.int .u8 n) = some (.int .u8 ((UInt8.ofNat n.toNat).toNat : Int)); rw [e2])
  exact this
set_option maxHeartbeats 4000000 in
theorem refKey_any (master : List UInt8) (r n : Int) (w : World) (M K : Array Value) (HM : Hid (M = (cellsOf master).toArray)) (hm : master.length = 32) (ho : owner r n = true) (hT : Table 1 w) (HK : Hid (K = (cellsOf (keyD master r n)).toArray)) :
    Calls Tryd.prog 54 #[.agg M, .int .i64 r, .int .i64 n] w fun e w' => e = .returned (.agg K) ∧ Below w.heap.size w w' := by
  obtain ⟨Z, HZ, HA, H32⟩ := noughtsY
  have hb := (owner_iff r n).1 ho
  have HSM : Hid ((Tryd.prog.info? 23).map (·.size) = some M.size) := by show _ = _; rw [sizeY, HM.out]; simp [cellsOf_length, hm]
  have HSK : Hid ((Tryd.prog.info? 23).map (·.size) = some K.size) := by show _ = _; rw [sizeY, HK.out]; simp [cellsOf_length, keyD, macD, sumD_length]
  have H1K : Hid (K.all (·.oneCell') = true) := by show _ = _; rw [HK.out]; exact cellsOf_all _
  have HZK : Hid (Z.size = K.size) := by show _ = _; rw [H32.out, HK.out]; simp [cellsOf_length, keyD, macD, sumD_length]
  have hw1 : IntKind.u8.wrap r = r := by have := IntKind.wrap_u8' r; omega
  have hw2 : IntKind.u8.wrap n = n := by have := IntKind.wrap_u8' n; omega
  obtain ⟨s3, HS3⟩ : ∃ s : ByteArray, Hid (s = ⟨#[75, UInt8.ofNat r.toNat, UInt8.ofNat n.toNat]⟩) := ⟨_, (rfl : _ = _)⟩
  have CV : ∀ W : World, (convert 35 9 (.slice (some ⟨W.heap.size, 0, none⟩) 3 3)).run Tryd.prog (W.alloc (.cells #[.int .u8 75, .int .u8 r, .int .u8 n] 5)) = .ok (.string s3) (W.alloc (.cells #[.int .u8 75, .int .u8 r, .int .u8 n] 5)) := fun W => by rw [HS3.out]; exact conv_three W r n (by omega) (by omega)
  have C1 : Hid (∀ W, Below w.heap.size w W → Calls Tryd.prog 53 #[.agg M, .string s3] W fun e w' => e = .returned (.agg K) ∧ Below W.heap.size W w') := fun W hbw => refMac_any master s3 W M K HM hm (by rw [HS3.out]; show 3 ≤ 100000; decide) (hT.keep hbw) (by show _ = _; rw [HK.out, HS3.out]; rfl)
  clear hT HK HM HS3 ho hb
  go_enter Tryd.func54, Tryd.ntmps54
  go_wp2_with (first
    | (show wpList _ _ _ ({ dst := some 6, op := _, type := _, pos := _, after := _, guard := _ } :: _) _ _; refine wpList_new_var rfl 23 rfl Z HA.out ?_; intro g6 w1 HM6; have HBW1 : Hid (Below w.heap.size w w1) := ((Below.refl _ _).alloc (Nat.le_refl _) _).trans (HM6.out.below.mono (by simp)); have HK1 := hidk ((HM6.out.below.block _ (by simp)).trans (heap_alloc_new w (.cells M 23))); have hcv := CV w1; try simp only [Act.put, List.setIfInBounds_toArray, List.set_cons_zero, List.set_cons_succ])
    | (show wpList _ _ _ ({ dst := some 7, op := _, type := _, pos := _, after := _, guard := _ } :: _) _ _; refine wpList_load_row rfl 23 (.tmp 3) rfl w.heap.size rfl 23 M (0, 0) _ HK1.out Tryd.underlying23 rfl HSM.out ?_; try simp only [Act.put, List.setIfInBounds_toArray, List.set_cons_zero, List.set_cons_succ])
    | fail)
  have h6 : w.heap.size < g6 := by have e := HM6.out.new; simp at e; omega
  have HBW2 : Hid (Below w.heap.size w (w1.alloc (.cells #[.int .u8 75, .int .u8 r, .int .u8 n] 5))) := HBW1.out.alloc HBW1.out.size _
  have HR6 : Hid ((w1.alloc (.cells #[.int .u8 75, .int .u8 r, .int .u8 n] 5)).heap[g6]? = some (.cells Z 23 (0, 0))) := heap_keep HM6.out.row
  refine (C1.out _ HBW2.out).mono ?_
  rintro e w2 ⟨rfl, hb2⟩
  have HB2w := hidk (HBW2.out.trans (hb2.mono HBW2.out.size))
  have HR62 := hidk ((hb2.block _ (heap_lt HR6.out)).trans HR6.out)
  clear hb2 HBW1 HBW2 HK1 HM6 C1 hcv CV HR6
  go_wp2_with (first
    | (refine wpList_set_var rfl 23 (.tmp 6) (.tmp 14) rfl g6 K rfl rfl 23 Z HR62.out HSK.out HZK.out H1K.out ?_; intro w3 HW6; try simp only [Act.put, List.setIfInBounds_toArray, List.set_cons_zero, List.set_cons_succ])
    | fail)
  refine bodyPost_ret (v := .agg K) ?_ rfl ⟨rfl, HW6.out.below w.heap.size w HB2w.out (by omega)⟩
  exact results_cell_row (p := 6) (ty := 23) rfl _ _ g6 23 K (0, 0) _ rfl HW6.out.row Tryd.underlying23 rfl HSK.out
end Go.Proofs.YtdnhnjimhbbabaaDoor

/- The keeper's Kept answers true where lent bytes and the marks behind them are as they were. -/
namespace Go.Proofs.YtdnhnjimhbbabaaDoor
open Go.RowKit Nums
set_option maxRecDepth 100000
theorem conv_reads {w : World} {a : Option Addr} {len cap : Nat} {l : List UInt8} (h : Reads w a len cap l) :
    Sem.run Tryd.prog (convert 35 9 (.slice a len cap)) w = .ok (.string ⟨l.toArray⟩) w := by
  obtain ⟨h1, h2, h3, ⟨rfl, h0⟩ | ⟨ad, rfl, h0⟩ | ⟨b, off, rfl, hlt, hc⟩⟩ := h
  · have hl : l = [] := List.eq_nil_of_length_eq_zero (by omega)
    subst hl
    exact run_convert_bytes_nil (P := Tryd.prog) w 35 5 Tryd.underlying35 Tryd.underlying5 len cap 9 Tryd.underlying9
  · subst h1
    exact run_convert_bytes_back (P := Tryd.prog) w 35 9 5 ad cap l Tryd.underlying35 Tryd.underlying5 Tryd.underlying9 (fun j hj => by omega)
  · subst h1
    exact run_convert_bytes_back (P := Tryd.prog) w 35 9 5 ⟨b, off, none⟩ cap l Tryd.underlying35 Tryd.underlying5 Tryd.underlying9 (fun j hj => by rw [add_plain]; exact hc j hj)
end Go.Proofs.YtdnhnjimhbbabaaDoor

/- What the document's Bytes, May, BytesSigned and Tag answer. -/
namespace Go.Proofs.YtdnhnjimhbbabaaDoor
open Go.RowKit Sums Nums
set_option linter.unusedVariables false
set_option linter.unusedSimpArgs false
set_option maxRecDepth 100000
theorem cell_keep {W W' : World} {p : Addr} {v : Value} (hb : Below W.heap.size W W') (h : W.cell? p = some v) : W'.cell? p = some v := by
  rw [hb.cell (World.block_lt_of_cell? _ _ h)]; exact h
theorem HRow.keep {W W' : World} {g o : Nat} {h : HdT} (hr : HRow W g o h) (hb : Below W.heap.size W W') : HRow W' g o h :=
  ⟨cell_keep hb hr.r, cell_keep hb hr.e, cell_keep hb hr.s, range_keep hb hr.d, cell_keep hb hr.t⟩
theorem sizeH : (Tryd.prog.info? 26).map (·.size) = some 36 := by kernel_rfl
theorem sizeS : (Tryd.prog.info? 28).map (·.size) = some 69 := by kernel_rfl
theorem head_row (h : HdT) (hd : h.d.length = 32) : ∃ C : Array Value, Hid (C = (hcells h).toArray) ∧ Hid ((Tryd.prog.info? 26).map (·.size) = some C.size) ∧ Hid (C.size = 36) := by
  refine ⟨(hcells h).toArray, hidk rfl, ?_, ?_⟩
  · show _ = _
    rw [sizeH]; simp [hcells_length h hd]
  · show _ = _
    simp [hcells_length h hd]
set_option maxHeartbeats 8000000 in
theorem refHB_any (h : HdT) (hd : h.d.length = 32) (w : World) (C : Array Value) (HC : Hid (C = (hcells h).toArray)) :
    Calls Tryd.prog 55 #[.agg C] w fun e w' => ∃ v, e = .returned v ∧ w'.ownsRow w.heap.size 5 1 v (headB h).length (cellsOf (headB h)) ∧ Below w.heap.size w w' := by
  obtain ⟨r, Hr⟩ : ∃ r, Hid (r = h.r) := ⟨h.r, hidk rfl⟩
  obtain ⟨e, He⟩ : ∃ r, Hid (r = h.e) := ⟨h.e, hidk rfl⟩
  obtain ⟨s, Hs⟩ : ∃ r, Hid (r = h.s) := ⟨h.s, hidk rfl⟩
  obtain ⟨t, Ht⟩ : ∃ r, Hid (r = h.t) := ⟨h.t, hidk rfl⟩
  obtain ⟨n1, Hn1⟩ : ∃ s : ByteArray, Hid (s = nOf r) := ⟨nOf r, hidk rfl⟩
  obtain ⟨n2, Hn2⟩ : ∃ s : ByteArray, Hid (s = nOf e) := ⟨nOf e, hidk rfl⟩
  obtain ⟨n3, Hn3⟩ : ∃ x : ByteArray, Hid (x = nOf s) := ⟨nOf s, hidk rfl⟩
  obtain ⟨n5, Hn5⟩ : ∃ s : ByteArray, Hid (s = nOf t) := ⟨nOf t, hidk rfl⟩
  obtain ⟨x4, HX⟩ : ∃ x : ByteArray, Hid (x = ⟨h.d.toArray⟩) := ⟨⟨h.d.toArray⟩, hidk rfl⟩
  obtain ⟨D, HD, HSD, H1D, H32D⟩ := dig_row' h.d hd
  have N1 : Hid (∀ W, Calls Tryd.prog 61 #[.int .i64 r] W fun e w' => e = .returned (.string n1) ∧ Below W.heap.size W w') := fun W => by rw [Hn1.out]; exact refNum_any r W
  have N2 : Hid (∀ W, Calls Tryd.prog 61 #[.int .i64 e] W fun e w' => e = .returned (.string n2) ∧ Below W.heap.size W w') := fun W => by rw [Hn2.out]; exact refNum_any e W
  have N3 : Hid (∀ W, Calls Tryd.prog 61 #[.int .i64 s] W fun e w' => e = .returned (.string n3) ∧ Below W.heap.size W w') := fun W => by rw [Hn3.out]; exact refNum_any s W
  have N5 : Hid (∀ W, Calls Tryd.prog 61 #[.int .i64 t] W fun e w' => e = .returned (.string n5) ∧ Below W.heap.size W w') := fun W => by rw [Hn5.out]; exact refNum_any t W
  have X4 : Hid (∀ W, Calls Tryd.prog 62 #[.agg D] W fun e w' => e = .returned (.string x4) ∧ Below W.heap.size W w') := fun W => by
    have := refText_any h.d hd W x4 HX D.toList (by show _ = _; rw [HD.out])
    simpa using this
  have hL5 : hL h = [n1, n2, n3, x4, n5] := by rw [Hn1.out, Hn2.out, Hn3.out, Hn5.out, HX.out, Hr.out, He.out, Hs.out, Ht.out]; rfl
  have RW : Hid (∀ W, Calls Tryd.prog 60 #[.slice (some ⟨W.heap.size, 0, none⟩) 5 5] (W.alloc (.cells #[.string n1, .string n2, .string n3, .string x4, .string n5] 9)) fun e w' => ∃ v, e = .returned v ∧ w'.ownsRow W.heap.size 5 1 v (headB h).length (cellsOf (headB h)) ∧ Below W.heap.size W w') := fun W => by
    have h1 : ∀ y ∈ [n1, n2, n3, x4, n5], y.size ≤ 65536 := fun y hy => by
      rw [← hL5] at hy
      unfold hL at hy
      simp only [List.mem_cons, List.not_mem_nil, or_false] at hy
      rcases hy with rfl | rfl | rfl | rfl | rfl
      · exact Nat.le_trans (nOf_size _) (by omega)
      · exact Nat.le_trans (nOf_size _) (by omega)
      · exact Nat.le_trans (nOf_size _) (by omega)
      · rw [bA_size]; omega
      · exact Nat.le_trans (nOf_size _) (by omega)
    refine (refRow_any (some ⟨W.heap.size, 0, none⟩) 5 5 [n1, n2, n3, x4, n5] (W.alloc (.cells #[.string n1, .string n2, .string n3, .string x4, .string n5] 9)) (texts_new W [n1, n2, n3, x4, n5] 9) (by omega) h1).mono ?_
    rintro e w' ⟨v, he, ho, hb⟩
    rw [← hL5] at ho
    exact ⟨v, he, own_lower ho (by simp), ((Below.refl _ _).alloc (Nat.le_refl _) _).trans (hb.mono (by simp))⟩
  have HR := hidk (hrow_new w h hd C HC 26)
  have HB : Hid (Below w.heap.size w (w.alloc (.cells C 26))) := (Below.refl _ _).alloc (Nat.le_refl _) _
  have HDL : Hid (D.toList = cellsOf h.d) := by show _ = _; rw [HD.out]
  clear HC HX hL5 HD Hn1 Hn2 Hn3 Hn5
  go_enter Tryd.func55, Tryd.ntmps55
  go_wp2
  refine wp_region_held_drew (S := (fun W => HRow W w.heap.size 0 h)) (by kernel_rfl) (show HRow (w.alloc (.cells C 26)).drew w.heap.size 0 h from HR.out.keep (Below.refl _ _).drew) (fun hHeld => ?_)
  refine wpAnyH_take (i := 0) (oi := { dst := some 3, op := Op.fieldAddr 26 (Operand.tmp 1) 0, type := 0, pos := "ref.go:74", after := #[], guard := none }) (v := .pointer (some ⟨w.heap.size, 0, none⟩)) rfl (by kernel_rfl) (by kernel_rfl) (by kernel_rfl) (fun _ _ _ h => h) (Or.inl ⟨by rfl, by intro W hSw; go_simp⟩) hHeld ?_
  try simp only [Act.put, List.setIfInBounds_toArray, List.set_cons_zero, List.set_cons_succ]
  refine wpAnyH_take (i := 1) (oi := { dst := some 4, op := Op.load 3 (Operand.tmp 3), type := 3, pos := "ref.go:74", after := #[{ on := 0, ground := Ground.data }], guard := none }) (v := .int .i64 r) rfl (by kernel_rfl) (by kernel_rfl) (by kernel_rfl) (fun _ _ _ h => h) (Or.inl ⟨by rfl, by intro W hSw; have h1 := hSw.r; rw [← Hr.out] at h1; go_simp⟩) hHeld ?_
  try simp only [Act.put, List.setIfInBounds_toArray, List.set_cons_zero, List.set_cons_succ]
  refine wpAnyH_take (i := 3) (oi := { dst := some 6, op := Op.fieldAddr 26 (Operand.tmp 1) 1, type := 0, pos := "ref.go:74", after := #[], guard := none }) (v := .pointer (some ⟨w.heap.size, 1, none⟩)) rfl (by kernel_rfl) (by kernel_rfl) (by kernel_rfl) (fun _ _ _ h => h) (Or.inl ⟨by rfl, by intro W hSw; go_simp⟩) hHeld ?_
  try simp only [Act.put, List.setIfInBounds_toArray, List.set_cons_zero, List.set_cons_succ]
  refine wpAnyH_take (i := 4) (oi := { dst := some 7, op := Op.load 3 (Operand.tmp 6), type := 3, pos := "ref.go:74", after := #[{ on := 3, ground := Ground.data }], guard := none }) (v := .int .i64 e) rfl (by kernel_rfl) (by kernel_rfl) (by kernel_rfl) (fun _ _ _ h => h) (Or.inl ⟨by rfl, by intro W hSw; have h1 := hSw.e; rw [← He.out, Nat.zero_add] at h1; go_simp⟩) hHeld ?_
  try simp only [Act.put, List.setIfInBounds_toArray, List.set_cons_zero, List.set_cons_succ]
  refine wpAnyH_take (i := 6) (oi := { dst := some 9, op := Op.fieldAddr 26 (Operand.tmp 1) 2, type := 0, pos := "ref.go:74", after := #[], guard := none }) (v := .pointer (some ⟨w.heap.size, 2, none⟩)) rfl (by kernel_rfl) (by kernel_rfl) (by kernel_rfl) (fun _ _ _ h => h) (Or.inl ⟨by rfl, by intro W hSw; go_simp⟩) hHeld ?_
  try simp only [Act.put, List.setIfInBounds_toArray, List.set_cons_zero, List.set_cons_succ]
  refine wpAnyH_take (i := 7) (oi := { dst := some 10, op := Op.load 3 (Operand.tmp 9), type := 3, pos := "ref.go:74", after := #[{ on := 6, ground := Ground.data }], guard := none }) (v := .int .i64 s) rfl (by kernel_rfl) (by kernel_rfl) (by kernel_rfl) (fun _ _ _ h => h) (Or.inl ⟨by rfl, by intro W hSw; have h1 := hSw.s; rw [← Hs.out, Nat.zero_add] at h1; go_simp⟩) hHeld ?_
  try simp only [Act.put, List.setIfInBounds_toArray, List.set_cons_zero, List.set_cons_succ]
  refine wpAnyH_take (i := 9) (oi := { dst := some 12, op := Op.fieldAddr 26 (Operand.tmp 1) 3, type := 0, pos := "ref.go:74", after := #[], guard := none }) (v := .pointer (some ⟨w.heap.size, 3, none⟩)) rfl (by kernel_rfl) (by kernel_rfl) (by kernel_rfl) (fun _ _ _ h => h) (Or.inl ⟨by rfl, by intro W hSw; go_simp⟩) hHeld ?_
  try simp only [Act.put, List.setIfInBounds_toArray, List.set_cons_zero, List.set_cons_succ]
  refine wpAnyH_take (i := 10) (oi := { dst := some 13, op := Op.load 24 (Operand.tmp 12), type := 24, pos := "ref.go:74", after := #[{ on := 9, ground := Ground.data }], guard := none }) (v := .agg D) rfl (by kernel_rfl) (by kernel_rfl) (by kernel_rfl) (fun _ _ _ h => h) (yieldsIf_mid (by rfl) 24 (.tmp 12) rfl w.heap.size 3 rfl D _ (fun _ h => by rw [HDL.out]; have := h.d; rwa [Nat.zero_add] at this) Tryd.underlying24 rfl HSD.out) hHeld ?_
  try simp only [Act.put, List.setIfInBounds_toArray, List.set_cons_zero, List.set_cons_succ]
  refine wpAnyH_take (i := 12) (oi := { dst := some 15, op := Op.fieldAddr 26 (Operand.tmp 1) 4, type := 0, pos := "ref.go:74", after := #[], guard := none }) (v := .pointer (some ⟨w.heap.size, 35, none⟩)) rfl (by kernel_rfl) (by kernel_rfl) (by kernel_rfl) (fun _ _ _ h => h) (Or.inl ⟨by rfl, by intro W hSw; go_simp⟩) hHeld ?_
  try simp only [Act.put, List.setIfInBounds_toArray, List.set_cons_zero, List.set_cons_succ]
  refine wpAnyH_take (i := 13) (oi := { dst := some 16, op := Op.load 3 (Operand.tmp 15), type := 3, pos := "ref.go:74", after := #[{ on := 12, ground := Ground.data }], guard := none }) (v := .int .i64 t) rfl (by kernel_rfl) (by kernel_rfl) (by kernel_rfl) (fun _ _ _ h => h) (Or.inl ⟨by rfl, by intro W hSw; have h1 := hSw.t; rw [← Ht.out, Nat.zero_add] at h1; go_simp⟩) hHeld ?_
  try simp only [Act.put, List.setIfInBounds_toArray, List.set_cons_zero, List.set_cons_succ]
  refine wpAnyH_ready (rs := [2]) (by kernel_rfl) (by simp) ?_
  refine (AllReadyH.cons (o := { dst := some 5, op := Op.call { callee := Callee.value (Operand.func 61), args := #[Operand.tmp 4], argTypes := #[3] }, type := 9, pos := "ref.go:74", after := #[{ on := 1, ground := Ground.data }], guard := none }) rfl (fun K hK => ?_) AllReadyH.nil)
  go_simp
  refine (N1.out _).mono ?_
  rintro e w2 ⟨rfl, hb1⟩
  have HB1 := hidk (HB.out.drew.trans (hb1.mono HB.out.size))
  go_wp2_with fail
  refine hK.out _ _ (hHeld.keep hb1) (fun hHeld => ?_)
  clear hK K
  try simp only [Act.put, List.setIfInBounds_toArray, List.set_cons_zero, List.set_cons_succ]
  refine wpAnyH_ready (rs := [5]) (by kernel_rfl) (by simp) ?_
  refine (AllReadyH.cons (o := { dst := some 8, op := Op.call { callee := Callee.value (Operand.func 61), args := #[Operand.tmp 7], argTypes := #[3] }, type := 9, pos := "ref.go:74", after := #[{ on := 4, ground := Ground.data }, { on := 2, ground := Ground.chain }], guard := none }) rfl (fun K hK => ?_) AllReadyH.nil)
  go_simp
  refine (N2.out _).mono ?_
  rintro e w5 ⟨rfl, hb2⟩
  have HB2 := hidk (HB1.out.trans (hb2.mono HB1.out.size))
  go_wp2_with fail
  refine hK.out _ _ (hHeld.keep hb2) (fun hHeld => ?_)
  clear hK K
  try simp only [Act.put, List.setIfInBounds_toArray, List.set_cons_zero, List.set_cons_succ]
  refine wpAnyH_ready (rs := [8]) (by kernel_rfl) (by simp) ?_
  refine (AllReadyH.cons (o := { dst := some 11, op := Op.call { callee := Callee.value (Operand.func 61), args := #[Operand.tmp 10], argTypes := #[3] }, type := 9, pos := "ref.go:74", after := #[{ on := 7, ground := Ground.data }, { on := 5, ground := Ground.chain }], guard := none }) rfl (fun K hK => ?_) AllReadyH.nil)
  go_simp
  refine (N3.out _).mono ?_
  rintro e w8 ⟨rfl, hb3⟩
  have HB3 := hidk (HB2.out.trans (hb3.mono HB2.out.size))
  go_wp2_with fail
  refine hK.out _ _ (hHeld.keep hb3) (fun hHeld => ?_)
  clear hK K
  try simp only [Act.put, List.setIfInBounds_toArray, List.set_cons_zero, List.set_cons_succ]
  refine wpAnyH_ready (rs := [11]) (by kernel_rfl) (by simp) ?_
  refine (AllReadyH.cons (o := { dst := some 14, op := Op.call { callee := Callee.value (Operand.func 62), args := #[Operand.tmp 13], argTypes := #[24] }, type := 9, pos := "ref.go:74", after := #[{ on := 10, ground := Ground.data }, { on := 8, ground := Ground.chain }], guard := none }) rfl (fun K hK => ?_) AllReadyH.nil)
  go_simp
  refine (X4.out _).mono ?_
  rintro e w11 ⟨rfl, hb4⟩
  have HB4 := hidk (HB3.out.trans (hb4.mono HB3.out.size))
  go_wp2_with fail
  refine hK.out _ _ (hHeld.keep hb4) (fun hHeld => ?_)
  clear hK K
  try simp only [Act.put, List.setIfInBounds_toArray, List.set_cons_zero, List.set_cons_succ]
  refine wpAnyH_ready (rs := [14]) (by kernel_rfl) (by simp) ?_
  refine (AllReadyH.cons (o := { dst := some 17, op := Op.call { callee := Callee.value (Operand.func 61), args := #[Operand.tmp 16], argTypes := #[3] }, type := 9, pos := "ref.go:74", after := #[{ on := 13, ground := Ground.data }, { on := 11, ground := Ground.chain }], guard := none }) rfl (fun K hK => ?_) AllReadyH.nil)
  go_simp
  refine (N5.out _).mono ?_
  rintro e w14 ⟨rfl, hb5⟩
  have HB5 := hidk (HB4.out.trans (hb5.mono HB4.out.size))
  go_wp2_with fail
  refine hK.out _ _ (hHeld.keep hb5) (fun hHeld => ?_)
  clear hK K
  try simp only [Act.put, List.setIfInBounds_toArray, List.set_cons_zero, List.set_cons_succ]
  refine wpAnyH_ready (rs := [15]) (by kernel_rfl) (by simp) ?_
  refine (AllReadyH.cons (o := { dst := some 18, op := Op.buildSlice 76 5 #[(0, Operand.tmp 5), (1, Operand.tmp 8), (2, Operand.tmp 11), (3, Operand.tmp 14), (4, Operand.tmp 17)], type := 76, pos := "ref.go:74", after := #[{ on := 2, ground := Ground.data }, { on := 5, ground := Ground.data }, { on := 8, ground := Ground.data }, { on := 11, ground := Ground.data }, { on := 14, ground := Ground.data }], guard := none }) rfl (fun K hK => ?_) AllReadyH.nil)
  have HR14 := hidk hHeld
  go_simp
  refine hK.out _ _ (hHeld.keep ((Below.refl _ _).alloc (Nat.le_refl _) _)) (fun hHeld => ?_)
  clear hK K
  try simp only [Act.put, List.setIfInBounds_toArray, List.set_cons_zero, List.set_cons_succ]
  refine wpAnyH_ready (rs := [16]) (by kernel_rfl) (by simp) ?_
  refine (AllReadyH.cons (o := { dst := some 19, op := Op.call { callee := Callee.value (Operand.func 60), args := #[Operand.tmp 18], argTypes := #[76] }, type := 35, pos := "ref.go:74", after := #[{ on := 15, ground := Ground.data }, { on := 14, ground := Ground.chain }], guard := none }) rfl (fun K hK => ?_) AllReadyH.nil)
  go_simp
  refine (RW.out _).mono ?_
  rintro e w16 ⟨v, rfl, ho, hb6⟩
  have HOWN := hidk ho
  have HBF := hidk (HB5.out.trans (hb6.mono HB5.out.size))
  go_wp2_with fail
  refine hK.out _ _ (HR14.out.keep hb6) (fun hHeld => ?_)
  clear hK K
  try simp only [Act.put, List.setIfInBounds_toArray, List.set_cons_zero, List.set_cons_succ]
  refine wpAnyH_take (i := 17) (oi := { dst := some 2, op := Op.assign (Operand.tmp 19), type := 35, pos := "ref.go:74", after := #[{ on := 16, ground := Ground.data }, { on := 16, ground := Ground.chain }, { on := 0, ground := Ground.phase }, { on := 1, ground := Ground.phase }, { on := 2, ground := Ground.phase }, { on := 3, ground := Ground.phase }, { on := 4, ground := Ground.phase }, { on := 5, ground := Ground.phase }, { on := 6, ground := Ground.phase }, { on := 7, ground := Ground.phase }, { on := 8, ground := Ground.phase }, { on := 9, ground := Ground.phase }, { on := 10, ground := Ground.phase }, { on := 11, ground := Ground.phase }, { on := 12, ground := Ground.phase }, { on := 13, ground := Ground.phase }, { on := 14, ground := Ground.phase }, { on := 15, ground := Ground.phase }, { on := 16, ground := Ground.phase }], guard := none }) (v := v) rfl (by kernel_rfl) (by kernel_rfl) (by kernel_rfl) (fun _ _ _ h => h) (Or.inl ⟨by rfl, by intro W hSw; go_simp⟩) hHeld ?_
  try simp only [Act.put, List.setIfInBounds_toArray, List.set_cons_zero, List.set_cons_succ]
  refine wpAnyH_done (by kernel_rfl) ?_ _
  go_wp2
  go_ret
  exact ⟨_, rfl, own_lower HOWN.out HB5.out.size, HBF.out⟩
end Go.Proofs.YtdnhnjimhbbabaaDoor

/- What the document's May, BytesSigned, PutSigned and Tag answer. -/
namespace Go.Proofs.YtdnhnjimhbbabaaDoor
open Go.RowKit Sums Nums
set_option linter.unusedVariables false
set_option linter.unusedSimpArgs false
set_option maxRecDepth 100000
/-- What the parts of a signed head's row read as. -/
structure SRow (W : World) (g o : Nat) (s : SgT) : Prop where
  h : W.rangeAt g o (hcells s.h)
  n : W.cell? ⟨g, o + 36, none⟩ = some (.int .i64 s.n)
  g : W.rangeAt g (o + 37) (cellsOf s.g)
theorem SRow.keep {W W' : World} {g o : Nat} {s : SgT} (hr : SRow W g o s) (hb : Below W.heap.size W W') : SRow W' g o s := ⟨range_keep hb hr.h, cell_keep hb hr.n, range_keep hb hr.g⟩
theorem srow_of {W : World} {g o : Nat} {s : SgT} (hd : s.h.d.length = 32) (hr : W.rangeAt g o (scells s)) : SRow W g o s := by
  have hl := hcells_length s.h hd
  refine ⟨?_, ?_, ?_⟩
  · intro j v hj
    have hlt := (List.getElem?_eq_some_iff.1 hj).1
    exact hr j v (by
      unfold scells
      rw [List.append_assoc, List.getElem?_append_left hlt]; exact hj)
  · exact hr 36 (.int .i64 s.n) (by
      unfold scells
      rw [List.append_assoc, List.getElem?_append_right (by omega), hl]
      rfl)
  · intro j v hj
    have hlt := (List.getElem?_eq_some_iff.1 hj).1
    have := hr (37 + j) v (by
      unfold scells
      rw [List.getElem?_append_right (by rw [List.length_append, hl, List.length_singleton]; omega), List.length_append, hl, List.length_singleton, show 37 + j - (36 + 1) = j by omega]
      exact hj)
    rw [Nat.add_assoc]; exact this
theorem srow_new (w : World) (s : SgT) (hd : s.h.d.length = 32) (C : Array Value) (HC : Hid (C = (scells s).toArray)) (t : TypeId) : SRow (w.alloc (.cells C t)) w.heap.size 0 s := by
  refine srow_of hd ?_
  intro j v hj
  rw [Nat.zero_add, cell_of_row _ _ j _ t (0, 0) (heap_alloc_new w _), HC.out]
  simpa using hj
set_option maxHeartbeats 2000000 in
theorem refMay_any (s : SgT) (hd : s.h.d.length = 32) (w : World) (C : Array Value) (HC : Hid (C = (scells s).toArray)) :
    Calls Tryd.prog 32 #[.agg C] w fun e w' => e = .returned (.bool (mayS s)) ∧ Below w.heap.size w w' := by
  have HR := hidk (srow_new w s hd C HC 28)
  have HB : Hid (Below w.heap.size w (w.alloc (.cells C 28))) := (Below.refl _ _).alloc (Nat.le_refl _) _
  obtain ⟨HCs, HHC, HSH, H36⟩ := head_row s.h hd
  have HRH : Hid ((w.alloc (.cells C 28)).rangeAt w.heap.size 0 HCs.toList) := by rw [HHC.out]; exact HR.out.h
  obtain ⟨n, Hn⟩ : ∃ n, Hid (n = s.n) := ⟨s.n, hidk rfl⟩
  obtain ⟨b1, hb1⟩ : ∃ b, rightH s.h = b := ⟨_, rfl⟩
  obtain ⟨b2, hb2⟩ : ∃ b, (decide (1 ≤ n) && decide (n ≤ 3)) = b := ⟨_, rfl⟩
  have R1 : Hid (∀ W, Calls Tryd.prog 27 #[.agg HCs] W fun e w' => e = .returned (.bool b1) ∧ Below W.heap.size W w') := fun W => by rw [← hb1]; exact refRight_any s.h hd W HCs HHC
  have W2 : Hid (∀ W, Calls Tryd.prog 28 #[.int .i64 n, .int .i64 1, .int .i64 3] W fun e w' => e = .returned (.bool b2) ∧ w' = W) := fun W => by rw [← hb2]; exact within_any n 1 3 W
  have hE : mayS s = (b1 && b2) := by
    rw [← hb1, ← hb2, Hn.out]
    unfold mayS
    rw [Bool.and_assoc]
  rw [hE]
  clear hE hb1 hb2 HC
  cases b1
  · go_enter Tryd.func32, Tryd.ntmps32
    go_wp2_with (first
      | (show wpList _ _ _ ({ dst := some 4, op := _, type := _, pos := _, after := _, guard := _ } :: _) _ _; refine wpList_mid rfl 26 (.tmp 3) rfl w.heap.size 0 rfl HCs _ HRH.out Tryd.underlying26 rfl HSH.out ?_; try simp only [Act.put, List.setIfInBounds_toArray, List.set_cons_zero, List.set_cons_succ])
      | fail)
    refine (R1.out _).mono ?_
    rintro e w1 ⟨rfl, hb⟩
    have HB1 := hidk (HB.out.trans (hb.mono HB.out.size))
    clear hb
    go_wp2
    go_ret
    exact ⟨rfl, HB1.out⟩
  · go_enter Tryd.func32, Tryd.ntmps32
    go_wp2_with (first
      | (show wpList _ _ _ ({ dst := some 4, op := _, type := _, pos := _, after := _, guard := _ } :: _) _ _; refine wpList_mid rfl 26 (.tmp 3) rfl w.heap.size 0 rfl HCs _ HRH.out Tryd.underlying26 rfl HSH.out ?_; try simp only [Act.put, List.setIfInBounds_toArray, List.set_cons_zero, List.set_cons_succ])
      | fail)
    refine (R1.out _).mono ?_
    rintro e w1 ⟨rfl, hb⟩
    have HB1 := hidk (HB.out.trans (hb.mono HB.out.size))
    have hc := (HR.out.keep hb).n
    rw [← Hn.out, Nat.zero_add] at hc
    clear hb
    go_wp2_with fail
    refine (W2.out _).mono ?_
    rintro e w2 ⟨rfl, rfl⟩
    go_wp2
    go_ret
    exact ⟨rfl, HB1.out⟩
end Go.Proofs.YtdnhnjimhbbabaaDoor

/- Structs of numbers and digests: heads and signed heads, built and compared. -/
namespace Go.Proofs.YtdnhnjimhbbabaaDoor
open Go.RowKit Sums Nums
set_option linter.unusedVariables false
set_option linter.unusedSimpArgs false
set_option maxRecDepth 100000
theorem fold_set (D : List Value) : ∀ (k off : Nat) (cs : Array Value) (pre old rest : List Value), cs.toList = pre ++ old ++ rest → pre.length = off + k → old.length = D.length →
    ((D.zipIdx k).foldl (fun cs (c, j) => cs.setIfInBounds (off + j) c) cs).toList = pre ++ D ++ rest := by
  induction D with
  | nil =>
    intro k off cs pre old rest h hp ho
    have : old = [] := List.eq_nil_of_length_eq_zero ho
    subst this
    simpa using h
  | cons d D ih =>
    intro k off cs pre old rest h hp ho
    match old, ho with
    | x :: old, ho =>
      rw [List.zipIdx_cons, List.foldl_cons]
      have := ih (k + 1) off (cs.setIfInBounds (off + k) d) (pre ++ [d]) old rest (by
        rw [Array.toList_setIfInBounds, h, ← hp]
        simp) (by simp; omega) (by simpa using ho)
      rw [this]
      simp
/-- A struct that is built, where the order is drawn. -/
theorem yieldsIf_build {P : Program} {ops : Array Oper} {S : World → Prop} {o : Oper} {a : Act} (hw : Region.wanted o (yielded ops a.tmps) = true) (t : TypeId) (parts : Array (Nat × Operand)) (ho : o.op = .build t parts) (vals : Array (Nat × Value)) (hv : (parts.toList.map fun p => (p.1, a.eval p.2)) = vals.toList)
    (v : Value) (hrun : ∀ W, (Instr.build t vals).run P W = .ok v W) : YieldsIf P ops S o v a :=
  .inl ⟨hw, fun w _ => by
    have hv' : (parts.map fun (i, x) => (i, a.eval x)) = vals := by
      apply Array.ext'
      rw [Array.toList_map, ← hv]
    subst hv'
    unfold execOp
    simp only [ho, Sem.run_bind, hrun, Result.andThen_ok]
    rfl⟩
theorem fill_val (place : Nat → Option (Nat × Nat)) (i off n : Nat) (v : Value) (D cs : Array Value) (pre old post : List Value) (more : List (Nat × Value)) (hv : v.cells = D) (hp : place i = some (off, n)) (hn : D.size = n) (hcs : cs.toList = pre ++ old ++ post) (hpre : pre.length = off) (hold : old.length = n) :
    Instr.fill place cs ((i, v) :: more) = Instr.fill place (pre ++ D.toList ++ post).toArray more := by
  have hcz : cs.size = off + n + post.length := by rw [← Array.length_toList, hcs]; simp only [List.length_append, hpre, hold]
  conv => lhs; unfold Instr.fill
  simp only [hp, hv, hn]
  rw [if_neg (by simp; omega)]
  congr 1
  apply Array.ext'
  have := fold_set D.toList 0 off cs pre old post hcs (by omega) (by rw [hold, Array.length_toList, hn])
  rw [← this, ← Array.foldl_toList]
  congr 2
  simp
def zeroH : HdT := ⟨0, 0, 0, List.replicate 32 0, 0⟩
def zeroS : SgT := ⟨zeroH, 0, List.replicate 32 0⟩
theorem infoH : (Tryd.prog.info? 26).map (fun i => (i.zero, i.size)) = some (some (.agg (hcells zeroH).toArray), 36) := by kernel_rfl
theorem infoS : (Tryd.prog.info? 28).map (fun i => (i.zero, i.size)) = some (some (.agg (scells zeroS).toArray), 69) := by kernel_rfl
theorem builtH0 : Tryd.prog.built 26 [] = some (hcells zeroH).toArray := by kernel_rfl
theorem builtS0 : Tryd.prog.built 28 [] = some (scells zeroS).toArray := by kernel_rfl
theorem one_cells (h : HdT) : (hcells h).toArray.all (·.oneCell') = true := by
  rw [List.all_toArray, List.all_eq_true]
  intro v hv
  unfold hcells at hv
  simp only [List.mem_append, List.mem_cons, List.not_mem_nil, or_false] at hv
  rcases hv with ((rfl | rfl | rfl) | hv) | rfl
  · rfl
  · rfl
  · rfl
  · exact cellsOf_one _ v hv
  · rfl
theorem one_cellsS (s : SgT) : (scells s).toArray.all (·.oneCell') = true := by
  rw [List.all_toArray, List.all_eq_true]
  intro v hv
  unfold scells at hv
  simp only [List.mem_append, List.mem_cons, List.not_mem_nil, or_false] at hv
  rcases hv with (hv | rfl) | hv
  · have := one_cells s.h
    rw [List.all_toArray, List.all_eq_true] at this
    exact this v hv
  · rfl
  · exact cellsOf_one _ v hv
theorem head_row5 (h : HdT) (hd : h.d.length = 32) : ∃ C : Array Value, Hid (C = (hcells h).toArray) ∧ Hid ((Tryd.prog.info? 26).map (·.size) = some C.size) ∧ Hid (C.all (·.oneCell') = true) ∧ Hid (C.size = 36) := by
  refine ⟨(hcells h).toArray, hidk rfl, ?_, one_cells h, ?_⟩
  · show _ = _
    rw [sizeH]; simp [hcells_length h hd]
  · show _ = _
    simp [hcells_length h hd]
theorem sign_row (s : SgT) (hd : s.h.d.length = 32) (hg : s.g.length = 32) : ∃ C : Array Value, Hid (C = (scells s).toArray) ∧ Hid ((Tryd.prog.info? 28).map (·.size) = some C.size) ∧ Hid (C.all (·.oneCell') = true) ∧ Hid (C.size = 69) := by
  refine ⟨(scells s).toArray, hidk rfl, ?_, one_cellsS s, ?_⟩
  · show _ = _
    rw [sizeS]; simp [scells_length s hd hg]
  · show _ = _
    simp [scells_length s hd hg]
theorem noughtsH : ∃ Z : Array Value, Hid (Z = (hcells zeroH).toArray) ∧ Hid ((Tryd.prog.info? 26).map (fun i => (i.zero, i.size)) = some (some (.agg Z), Z.size)) ∧ Hid (Tryd.prog.built 26 [] = some Z) ∧ Hid (Z.size = 36) :=
  ⟨(hcells zeroH).toArray, hidk rfl, infoH, builtH0, hidk rfl⟩
theorem noughtsS : ∃ Z : Array Value, Hid (Z = (scells zeroS).toArray) ∧ Hid ((Tryd.prog.info? 28).map (fun i => (i.zero, i.size)) = some (some (.agg Z), Z.size)) ∧ Hid (Tryd.prog.built 28 [] = some Z) ∧ Hid (Z.size = 69) :=
  ⟨(scells zeroS).toArray, hidk rfl, infoS, builtS0, hidk rfl⟩
theorem builtS (s : SgT) (hd : s.h.d.length = 32) (hg : s.g.length = 32) (C D R : Array Value) (HC : Hid (C = (hcells s.h).toArray)) (HD : Hid (D = (cellsOf s.g).toArray)) (HR : Hid (R = (scells s).toArray)) : Tryd.prog.built 28 [(0, .agg C), (1, .int .i64 s.n), (2, .agg D)] = some R := by
  have hi := infoS
  have hzl := hcells_length zeroH rfl
  cases hq : Tryd.prog.info? 28 with
  | none => rw [hq] at hi; cases hi
  | some i =>
    rw [hq] at hi
    simp only [Option.map_some, Option.some.injEq, Prod.mk.injEq] at hi
    have hH := sizeH
    have hD := size23
    have h3 : (Tryd.prog.info? 3).map (·.size) = some 1 := by kernel_rfl
    cases hqH : Tryd.prog.info? 26 with
    | none => rw [hqH] at hH; cases hH
    | some iH =>
      cases hqD : Tryd.prog.info? 24 with
      | none => rw [hqD] at hD; cases hD
      | some iD =>
        cases hq3 : Tryd.prog.info? 3 with
        | none => rw [hq3] at h3; cases h3
        | some i3 =>
          rw [hqH] at hH
          rw [hqD] at hD
          rw [hq3] at h3
          simp only [Option.map_some, Option.some.injEq] at hH hD h3
          unfold Program.built
          simp only [hq, Tryd.underlying28, hi.1, List.mapM_cons, List.mapM_nil, hqH, hqD, hq3, hH, hD, h3, Option.map_some, Option.bind_eq_bind, Option.bind_some, Option.pure_def]
          show Instr.fill _ (scells zeroS).toArray _ = some R
          have hc36 : C.size = 36 := by rw [HC.out]; simp [hcells_length s.h hd]
          have hd32 : D.size = 32 := by rw [HD.out]; simp [cellsOf_length, hg]
          refine (fill_val _ 0 0 36 (.agg C) C _ [] (hcells zeroH) ([.int .i64 0] ++ cellsOf (List.replicate 32 0)) _ rfl rfl hc36 (by simp [scells, zeroS]) rfl hzl).trans ?_
          refine (fill_val _ 1 36 1 (.int .i64 s.n) #[.int .i64 s.n] _ C.toList [.int .i64 0] (cellsOf (List.replicate 32 0)) _ rfl rfl rfl (by simp) (by simpa using hc36) rfl).trans ?_
          refine (fill_val _ 2 37 32 (.agg D) D _ (C.toList ++ [.int .i64 s.n]) (cellsOf (List.replicate 32 0)) [] _ rfl rfl hd32 (by simp) (by simp [hc36]) (by simp [cellsOf_length])).trans ?_
          simp only [Instr.fill, List.append_nil, Option.some.injEq]
          rw [HR.out, HC.out, HD.out]
          rfl
end Go.Proofs.YtdnhnjimhbbabaaDoor
