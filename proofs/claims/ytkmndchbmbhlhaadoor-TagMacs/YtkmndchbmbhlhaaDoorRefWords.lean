/- What the document's words answers: W 0 to 63 of a block. -/
import Derived.Test.YtkmndchbmbhlhaaDoorSched
import Derived.Test.YtkmndchbmbhlhaaDoorRefTurn
namespace Go.Proofs.YtkmndchbmbhlhaaDoor
open Go.RowKit Sums
set_option linter.unusedVariables false
set_option linter.unusedSimpArgs false

theorem drew_drewN (w : World) (n : Nat) : w.drew.drewN n = w.drewN (1 + n) := World.drewN_drewN w 1 n
theorem idxB (W : World) (b off len cap j : Nat) (z : Int) (hz : z = j) (hj : j < len) : (Instr.indexAt 38 (.slice (some ⟨b, off, none⟩) len cap) (.int .i64 z)).run Tryd.prog W = .ok (.pointer (some ⟨b, off + j, none⟩)) W := by
  subst hz
  have hs : ∀ w, (sizeOf 5).run Tryd.prog w = .ok 1 w := by
    intro w
    have hq : (Tryd.prog.info? 5).map (·.size) = some 1 := by kernel_rfl
    cases h : Tryd.prog.info? 5 with
    | none => simp [h] at hq
    | some i => simp [h] at hq; simp [sizeOf, typeInfo, h, hq]
  simp [Instr.indexAt, run_underlying Tryd.underlying38, Instr.sureAddr, asIntOf, hj, hs, add_plain]

/-- The first j bytes of a word. -/
def wpart (b : List UInt8) (t : Nat) : Nat → Nat
  | 0 => 0
  | j + 1 => wpart b t j * 256 + (b.getD (4 * t + j) 0).toNat
theorem wpart_lt (b : List UInt8) (t j : Nat) (hj : j ≤ 3) : wpart b t j < 16777216 := by
  have h0 := (b.getD (4 * t + 0) 0).toNat_lt
  have h1 := (b.getD (4 * t + 1) 0).toNat_lt
  have h2 := (b.getD (4 * t + 2) 0).toNat_lt
  have : j = 0 ∨ j = 1 ∨ j = 2 ∨ j = 3 := by omega
  rcases this with rfl | rfl | rfl | rfl <;> simp only [wpart] <;> omega
theorem wpart_all (b : List UInt8) (t : Nat) : (wpart b t 4 : Int) = wordAt b t := by
  unfold wordAt
  simp only [wpart, Nat.add_zero]
  omega

set_option maxHeartbeats 4000000 in
set_option maxRecDepth 100000 in
theorem refWords_any (b off cap : Nat) (bl : List UInt8) (w : World) (hl : bl.length = 64) (hc : 64 ≤ cap) (hc2 : cap ≤ 9223372036854775807) (hb : b < w.heap.size) (hL : Lies w b off bl) :
    Calls Tryd.prog 30 #[.slice (some ⟨b, off, none⟩) 64 cap] w fun e w' => e = .returned (.agg (wcells (sched bl)).toArray) ∧ Below w.heap.size w w' := by
  obtain ⟨Z, HZ, HA, HS, H1, HZ64⟩ := noughts45
  have HL : Hid (Lies w b off bl) := hL
  have HLL : Hid (bl.length = 64) := hl
  clear hL hl
  go_enter Tryd.func30, Tryd.ntmps30
  go_wp2_with (first
    | (refine wpList_alloc_row rfl 55 rfl Z HA.out ?_)
    | fail)
  go_loopw [4] (fun i wr => ∃ k : Nat, k ≤ 16 ∧ i = .int .i64 k ∧ Hid (wr.heap[w.heap.size]? = some (.cells Z 55 (0, 0))) ∧
      Hid (wr.heap[w.heap.size + 1]? = some (.cells (wcells (fill ((words16 bl).take k))).toArray 55 (0, 0))) ∧ Below w.heap.size w wr)
    (fun i _ => 16 - (intOf i).toNat)
  case atStart =>
    refine ⟨0, by omega, rfl, heap_alloc2_old w _ _, ?_, ((Below.refl _ _).alloc (Nat.le_refl _) _).alloc (by simp) _⟩
    show _ = _
    have e : (wcells (fill ((words16 bl).take 0))).toArray = Z := by rw [HZ.out]; rfl
    rw [e]
    exact heap_alloc2_new w _ _
  case round =>
    obtain ⟨k, hk, rfl, HR, HD, hB⟩ := hrel
    by_cases hlt : k < 16
    · have hdi : decide ((k : Int) < 16) = true := by rw [decide_eq_true_eq]; omega
      have HT : Hid (((words16 bl).take k).length = k) := by show _ = _; simp [words16_length]; omega
      obtain ⟨F, HF⟩ : ∃ F, Hid (F = fill ((words16 bl).take k)) := ⟨_, (rfl : fill ((words16 bl).take k) = _)⟩
      have HFL : Hid (F.length = 64) := by show _ = _; rw [HF.out]; exact fill_length _ (by rw [HT.out]; omega)
      have HF0 : Hid (F.set k 0 = F) := by
        show _ = _
        have h0 := HFL.out
        have e : F[k]'(by omega) = 0 := by
          have h1 : F[k]? = some 0 := by
            rw [HF.out]
            unfold fill
            rw [List.getElem?_append_right (by rw [HT.out]; omega), HT.out, Nat.sub_self, List.getElem?_replicate, if_pos (by omega)]
          rw [List.getElem?_eq_getElem (by omega)] at h1
          exact Option.some.inj h1
        rw [← e]
        exact List.set_getElem_self (by omega)
      have HD0 : Hid (wr.heap[w.heap.size + 1]? = some (.cells (wcells (F.set k ((wpart bl k 0 : Nat) : Int))).toArray 55 (0, 0))) := by
        show _ = _
        rw [show ((wpart bl k 0 : Nat) : Int) = 0 from rfl, HF0.out, HF.out]; exact HD.out
      clear HD
      go_wp2
      go_loopw [5] (fun v wi => ∃ j : Nat, j ≤ 4 ∧ v = .int .i64 j ∧ Hid (wi.heap[w.heap.size]? = some (.cells Z 55 (0, 0))) ∧
          Hid (wi.heap[w.heap.size + 1]? = some (.cells (wcells (F.set k ((wpart bl k j : Nat) : Int))).toArray 55 (0, 0))) ∧ Below w.heap.size w wi)
        (fun v _ => 4 - (intOf v).toNat)
      case atStart => exact ⟨0, by omega, rfl, HR, HD0, hB⟩
      case round =>
        clear HR HD0 hB
        obtain ⟨j, hj, rfl, HR, HD, hB⟩ := hrel
        by_cases hlj : j < 4
        · have hdj : decide ((j : Int) < 4) = true := by rw [decide_eq_true_eq]; omega
          obtain ⟨x, HX⟩ : ∃ x : Nat, Hid (x = wpart bl k j) := ⟨_, (rfl : wpart bl k j = _)⟩
          obtain ⟨c, HC⟩ : ∃ c : Nat, Hid (c = (bl.getD (4 * k + j) 0).toNat) := ⟨_, (rfl : (bl.getD (4 * k + j) 0).toNat = _)⟩
          have hx : x < 16777216 := by rw [HX.out]; exact wpart_lt bl k j (by omega)
          have hcc : c < 256 := by rw [HC.out]; exact (bl.getD (4 * k + j) 0).toNat_lt
          have HN : Hid (x * 256 + c = wpart bl k (j + 1)) := by show _ = _; rw [HX.out, HC.out]; rfl
          rw [← HX.out] at HD
          have cx : wr.cell? ⟨w.heap.size + 1, k, none⟩ = some (.int .u32 (x : Int)) := by
            have h0 := HFL.out
            rw [wrow_cell HD.out k (by simp; omega)]
            simp
          have cb : wr.cell? ⟨b, off + (4 * k + j), none⟩ = some (.int .u8 (c : Int)) := by
            have h0 := HLL.out
            rw [(HL.out.keep hB hb) (4 * k + j) (by omega), HC.out]
            simp [List.getD, List.getElem?_eq_getElem (show 4 * k + j < bl.length by omega)]
          have hfz : wr.frozen? ⟨w.heap.size + 1, k, none⟩ = false := frozen_of_row wr _ k _ 55 HD.out
          have hw4 := wrap_int (4 * (k : Int)) (by omega) (by omega)
          have hw4j := wrap_int (4 * (k : Int) + (j : Int)) (by omega) (by omega)
          have ia := fun W => idxW W (w.heap.size + 1) k (k : Int) rfl (by omega)
          have ib := fun W => idxB W b off 64 cap (4 * k + j) (4 * (k : Int) + (j : Int)) (by omega) (by omega)
          go_wp2
          have hw256 : IntKind.u32.wrap ((x : Int) * 256) = (x : Int) * 256 := by rw [u32w]; omega
          have hwc : IntKind.u32.wrap (c : Int) = (c : Int) := by rw [u32w]; omega
          have hwn : IntKind.u32.wrap ((x : Int) * 256 + (c : Int)) = (x : Int) * 256 + (c : Int) := by rw [u32w]; omega
          refine wp_region_held_drew (S := (fun _ => True)) (by kernel_rfl) trivial (fun hHeld => ?_)
          refine wpAnyH_take (i := 0) (oi := { dst := some 17, op := Op.move (Operand.tmp 4), type := 3, pos := "ref.go:41", after := #[], guard := none }) (v := .int .i64 (k : Int)) rfl (by kernel_rfl) (by kernel_rfl) (by kernel_rfl) (fun _ _ _ h => h) (Or.inl ⟨by rfl, by intro W hSw; go_simp⟩) hHeld ?_
          try simp only [Act.put, List.setIfInBounds_toArray, List.set_cons_zero, List.set_cons_succ]
          refine wpAnyH_take (i := 1) (oi := { dst := some 18, op := Op.move (Operand.tmp 4), type := 3, pos := "ref.go:41", after := #[], guard := none }) (v := .int .i64 (k : Int)) rfl (by kernel_rfl) (by kernel_rfl) (by kernel_rfl) (fun _ _ _ h => h) (Or.inl ⟨by rfl, by intro W hSw; go_simp⟩) hHeld ?_
          try simp only [Act.put, List.setIfInBounds_toArray, List.set_cons_zero, List.set_cons_succ]
          refine wpAnyH_take (i := 2) (oi := { dst := some 19, op := Op.indexAddr 55 (Operand.tmp 3) (Operand.tmp 18), type := 0, pos := "ref.go:41", after := #[{ on := 1, ground := Ground.data }], guard := none }) (v := .pointer (some ⟨w.heap.size + 1, k, none⟩)) rfl (by kernel_rfl) (by kernel_rfl) (by kernel_rfl) (fun _ _ _ h => h) (Or.inl ⟨by rfl, by intro W hSw; go_simp⟩) hHeld ?_
          try simp only [Act.put, List.setIfInBounds_toArray, List.set_cons_zero, List.set_cons_succ]
          refine wpAnyH_take (i := 5) (oi := { dst := some 22, op := Op.move (Operand.tmp 0), type := 38, pos := "ref.go:41", after := #[], guard := none }) (v := .slice (some ⟨b, off, none⟩) 64 cap) rfl (by kernel_rfl) (by kernel_rfl) (by kernel_rfl) (fun _ _ _ h => h) (Or.inl ⟨by rfl, by intro W hSw; go_simp⟩) hHeld ?_
          try simp only [Act.put, List.setIfInBounds_toArray, List.set_cons_zero, List.set_cons_succ]
          refine wpAnyH_take (i := 6) (oi := { dst := some 23, op := Op.move (Operand.tmp 4), type := 3, pos := "ref.go:41", after := #[], guard := none }) (v := .int .i64 (k : Int)) rfl (by kernel_rfl) (by kernel_rfl) (by kernel_rfl) (fun _ _ _ h => h) (Or.inl ⟨by rfl, by intro W hSw; go_simp⟩) hHeld ?_
          try simp only [Act.put, List.setIfInBounds_toArray, List.set_cons_zero, List.set_cons_succ]
          refine wpAnyH_take (i := 7) (oi := { dst := some 24, op := Op.binOp BinOp.mul 3 (Operand.const (Value.int IntKind.i64 4)) (Operand.tmp 23) 3, type := 3, pos := "ref.go:41", after := #[{ on := 6, ground := Ground.data }], guard := none }) (v := .int .i64 (4 * (k : Int))) rfl (by kernel_rfl) (by kernel_rfl) (by kernel_rfl) (fun _ _ _ h => h) (Or.inl ⟨by rfl, by intro W hSw; go_simp⟩) hHeld ?_
          try simp only [Act.put, List.setIfInBounds_toArray, List.set_cons_zero, List.set_cons_succ]
          refine wpAnyH_take (i := 8) (oi := { dst := some 25, op := Op.move (Operand.tmp 5), type := 3, pos := "ref.go:41", after := #[], guard := none }) (v := .int .i64 (j : Int)) rfl (by kernel_rfl) (by kernel_rfl) (by kernel_rfl) (fun _ _ _ h => h) (Or.inl ⟨by rfl, by intro W hSw; go_simp⟩) hHeld ?_
          try simp only [Act.put, List.setIfInBounds_toArray, List.set_cons_zero, List.set_cons_succ]
          refine wpAnyH_take (i := 9) (oi := { dst := some 26, op := Op.binOp BinOp.add 3 (Operand.tmp 24) (Operand.tmp 25) 3, type := 3, pos := "ref.go:41", after := #[{ on := 7, ground := Ground.data }, { on := 8, ground := Ground.data }], guard := none }) (v := .int .i64 (4 * (k : Int) + (j : Int))) rfl (by kernel_rfl) (by kernel_rfl) (by kernel_rfl) (fun _ _ _ h => h) (Or.inl ⟨by rfl, by intro W hSw; go_simp⟩) hHeld ?_
          try simp only [Act.put, List.setIfInBounds_toArray, List.set_cons_zero, List.set_cons_succ]
          refine wpAnyH_take (i := 10) (oi := { dst := some 27, op := Op.indexAddr 38 (Operand.tmp 22) (Operand.tmp 26), type := 0, pos := "ref.go:41", after := #[{ on := 5, ground := Ground.data }, { on := 9, ground := Ground.data }], guard := none }) (v := .pointer (some ⟨b, off + (4 * k + j), none⟩)) rfl (by kernel_rfl) (by kernel_rfl) (by kernel_rfl) (fun _ _ _ h => h) (Or.inl ⟨by rfl, by intro W hSw; go_simp⟩) hHeld ?_
          try simp only [Act.put, List.setIfInBounds_toArray, List.set_cons_zero, List.set_cons_succ]
          refine wpAnyH_ready (rs := [3, 11]) (by kernel_rfl) (by simp) ?_
          refine (AllReadyH.cons (o := { dst := some 20, op := Op.load 46 (Operand.tmp 19), type := 46, pos := "ref.go:41", after := #[{ on := 2, ground := Ground.data }], guard := none }) rfl (fun K hK => ?_) (AllReadyH.cons (o := { dst := some 28, op := Op.load 5 (Operand.tmp 27), type := 5, pos := "ref.go:41", after := #[{ on := 10, ground := Ground.data }], guard := none }) rfl (fun K hK => ?_) AllReadyH.nil))
          · go_simp
            refine hK.out _ _ trivial (fun hHeld => ?_)
            clear hK K
            try simp only [Act.put, List.setIfInBounds_toArray, List.set_cons_zero, List.set_cons_succ]
            refine wpAnyH_take (i := 4) (oi := { dst := some 21, op := Op.binOp BinOp.mul 46 (Operand.tmp 20) (Operand.const (Value.int IntKind.u32 256)) 46, type := 46, pos := "ref.go:41", after := #[{ on := 3, ground := Ground.data }], guard := none }) (v := .int .u32 ((x : Int) * 256)) rfl (by kernel_rfl) (by kernel_rfl) (by kernel_rfl) (fun _ _ _ h => h) (Or.inl ⟨by rfl, by intro W hSw; go_simp⟩) hHeld ?_
            try simp only [Act.put, List.setIfInBounds_toArray, List.set_cons_zero, List.set_cons_succ]
            refine wpAnyH_ready (rs := [11]) (by kernel_rfl) (by simp) ?_
            refine (AllReadyH.cons (o := { dst := some 28, op := Op.load 5 (Operand.tmp 27), type := 5, pos := "ref.go:41", after := #[{ on := 10, ground := Ground.data }], guard := none }) rfl (fun K hK => ?_) AllReadyH.nil)
            go_simp
            refine hK.out _ _ trivial (fun hHeld => ?_)
            clear hK K
            try simp only [Act.put, List.setIfInBounds_toArray, List.set_cons_zero, List.set_cons_succ]
            refine wpAnyH_take (i := 12) (oi := { dst := some 29, op := Op.convert 5 46 (Operand.tmp 28), type := 46, pos := "ref.go:41", after := #[{ on := 11, ground := Ground.data }], guard := none }) (v := .int .u32 (c : Int)) rfl (by kernel_rfl) (by kernel_rfl) (by kernel_rfl) (fun _ _ _ h => h) (Or.inl ⟨by rfl, by intro W hSw; go_simp⟩) hHeld ?_
            try simp only [Act.put, List.setIfInBounds_toArray, List.set_cons_zero, List.set_cons_succ]
            refine wpAnyH_take (i := 13) (oi := { dst := some 30, op := Op.binOp BinOp.add 46 (Operand.tmp 21) (Operand.tmp 29) 46, type := 46, pos := "ref.go:41", after := #[{ on := 4, ground := Ground.data }, { on := 12, ground := Ground.data }], guard := none }) (v := .int .u32 ((x : Int) * 256 + (c : Int))) rfl (by kernel_rfl) (by kernel_rfl) (by kernel_rfl) (fun _ _ _ h => h) (Or.inl ⟨by rfl, by intro W hSw; go_simp⟩) hHeld ?_
            try simp only [Act.put, List.setIfInBounds_toArray, List.set_cons_zero, List.set_cons_succ]
            refine wpAnyH_take (i := 14) (oi := { dst := some 31, op := Op.indexAddr 55 (Operand.tmp 3) (Operand.tmp 17), type := 0, pos := "ref.go:41", after := #[{ on := 0, ground := Ground.data }, { on := 0, ground := Ground.phase }, { on := 1, ground := Ground.phase }, { on := 2, ground := Ground.phase }, { on := 3, ground := Ground.phase }, { on := 4, ground := Ground.phase }, { on := 5, ground := Ground.phase }, { on := 6, ground := Ground.phase }, { on := 7, ground := Ground.phase }, { on := 8, ground := Ground.phase }, { on := 9, ground := Ground.phase }, { on := 10, ground := Ground.phase }, { on := 11, ground := Ground.phase }, { on := 12, ground := Ground.phase }, { on := 13, ground := Ground.phase }], guard := none }) (v := .pointer (some ⟨w.heap.size + 1, k, none⟩)) rfl (by kernel_rfl) (by kernel_rfl) (by kernel_rfl) (fun _ _ _ h => h) (Or.inl ⟨by rfl, by intro W hSw; go_simp⟩) hHeld ?_
            try simp only [Act.put, List.setIfInBounds_toArray, List.set_cons_zero, List.set_cons_succ]
            refine wpAnyH_ready (rs := [15]) (by kernel_rfl) (by simp) ?_
            refine (AllReadyH.cons (o := { dst := none, op := Op.store 46 (Operand.tmp 31) (Operand.tmp 30), type := 0, pos := "ref.go:41", after := #[{ on := 14, ground := Ground.data }, { on := 13, ground := Ground.data }, { on := 0, ground := Ground.phase }, { on := 1, ground := Ground.phase }, { on := 2, ground := Ground.phase }, { on := 3, ground := Ground.phase }, { on := 4, ground := Ground.phase }, { on := 5, ground := Ground.phase }, { on := 6, ground := Ground.phase }, { on := 7, ground := Ground.phase }, { on := 8, ground := Ground.phase }, { on := 9, ground := Ground.phase }, { on := 10, ground := Ground.phase }, { on := 11, ground := Ground.phase }, { on := 12, ground := Ground.phase }, { on := 13, ground := Ground.phase }], guard := none }) rfl (fun K hK => ?_) AllReadyH.nil)
            go_simp
            refine hK.out _ _ trivial (fun hHeld => ?_)
            clear hK K
            try simp only [Act.put, List.setIfInBounds_toArray, List.set_cons_zero, List.set_cons_succ]
            refine wpAnyH_done (by kernel_rfl) ?_ _
            go_wp2
            go_roundw
            case rel => exact ⟨j + 1, by omega, by go_num, ((heap_setCell_other wr _ _ _ (by simp)).trans HR.out), (by show _ = _; rw [← HN.out, show F.set k ((x * 256 + c : Nat) : Int) = (F.set k (x : Int)).set k ((x : Int) * 256 + (c : Int)) by rw [List.set_set]; congr 1]; exact wrow_set (w := wr) HD.out k _), (hB.setCell (by simp) _).drew⟩
            case measure => simp [intOf]; omega
          · go_simp
            refine hK.out _ _ trivial (fun hHeld => ?_)
            clear hK K
            try simp only [Act.put, List.setIfInBounds_toArray, List.set_cons_zero, List.set_cons_succ]
            refine wpAnyH_take (i := 12) (oi := { dst := some 29, op := Op.convert 5 46 (Operand.tmp 28), type := 46, pos := "ref.go:41", after := #[{ on := 11, ground := Ground.data }], guard := none }) (v := .int .u32 (c : Int)) rfl (by kernel_rfl) (by kernel_rfl) (by kernel_rfl) (fun _ _ _ h => h) (Or.inl ⟨by rfl, by intro W hSw; go_simp⟩) hHeld ?_
            try simp only [Act.put, List.setIfInBounds_toArray, List.set_cons_zero, List.set_cons_succ]
            refine wpAnyH_ready (rs := [3]) (by kernel_rfl) (by simp) ?_
            refine (AllReadyH.cons (o := { dst := some 20, op := Op.load 46 (Operand.tmp 19), type := 46, pos := "ref.go:41", after := #[{ on := 2, ground := Ground.data }], guard := none }) rfl (fun K hK => ?_) AllReadyH.nil)
            go_simp
            refine hK.out _ _ trivial (fun hHeld => ?_)
            clear hK K
            try simp only [Act.put, List.setIfInBounds_toArray, List.set_cons_zero, List.set_cons_succ]
            refine wpAnyH_take (i := 4) (oi := { dst := some 21, op := Op.binOp BinOp.mul 46 (Operand.tmp 20) (Operand.const (Value.int IntKind.u32 256)) 46, type := 46, pos := "ref.go:41", after := #[{ on := 3, ground := Ground.data }], guard := none }) (v := .int .u32 ((x : Int) * 256)) rfl (by kernel_rfl) (by kernel_rfl) (by kernel_rfl) (fun _ _ _ h => h) (Or.inl ⟨by rfl, by intro W hSw; go_simp⟩) hHeld ?_
            try simp only [Act.put, List.setIfInBounds_toArray, List.set_cons_zero, List.set_cons_succ]
            refine wpAnyH_take (i := 13) (oi := { dst := some 30, op := Op.binOp BinOp.add 46 (Operand.tmp 21) (Operand.tmp 29) 46, type := 46, pos := "ref.go:41", after := #[{ on := 4, ground := Ground.data }, { on := 12, ground := Ground.data }], guard := none }) (v := .int .u32 ((x : Int) * 256 + (c : Int))) rfl (by kernel_rfl) (by kernel_rfl) (by kernel_rfl) (fun _ _ _ h => h) (Or.inl ⟨by rfl, by intro W hSw; go_simp⟩) hHeld ?_
            try simp only [Act.put, List.setIfInBounds_toArray, List.set_cons_zero, List.set_cons_succ]
            refine wpAnyH_take (i := 14) (oi := { dst := some 31, op := Op.indexAddr 55 (Operand.tmp 3) (Operand.tmp 17), type := 0, pos := "ref.go:41", after := #[{ on := 0, ground := Ground.data }, { on := 0, ground := Ground.phase }, { on := 1, ground := Ground.phase }, { on := 2, ground := Ground.phase }, { on := 3, ground := Ground.phase }, { on := 4, ground := Ground.phase }, { on := 5, ground := Ground.phase }, { on := 6, ground := Ground.phase }, { on := 7, ground := Ground.phase }, { on := 8, ground := Ground.phase }, { on := 9, ground := Ground.phase }, { on := 10, ground := Ground.phase }, { on := 11, ground := Ground.phase }, { on := 12, ground := Ground.phase }, { on := 13, ground := Ground.phase }], guard := none }) (v := .pointer (some ⟨w.heap.size + 1, k, none⟩)) rfl (by kernel_rfl) (by kernel_rfl) (by kernel_rfl) (fun _ _ _ h => h) (Or.inl ⟨by rfl, by intro W hSw; go_simp⟩) hHeld ?_
            try simp only [Act.put, List.setIfInBounds_toArray, List.set_cons_zero, List.set_cons_succ]
            refine wpAnyH_ready (rs := [15]) (by kernel_rfl) (by simp) ?_
            refine (AllReadyH.cons (o := { dst := none, op := Op.store 46 (Operand.tmp 31) (Operand.tmp 30), type := 0, pos := "ref.go:41", after := #[{ on := 14, ground := Ground.data }, { on := 13, ground := Ground.data }, { on := 0, ground := Ground.phase }, { on := 1, ground := Ground.phase }, { on := 2, ground := Ground.phase }, { on := 3, ground := Ground.phase }, { on := 4, ground := Ground.phase }, { on := 5, ground := Ground.phase }, { on := 6, ground := Ground.phase }, { on := 7, ground := Ground.phase }, { on := 8, ground := Ground.phase }, { on := 9, ground := Ground.phase }, { on := 10, ground := Ground.phase }, { on := 11, ground := Ground.phase }, { on := 12, ground := Ground.phase }, { on := 13, ground := Ground.phase }], guard := none }) rfl (fun K hK => ?_) AllReadyH.nil)
            go_simp
            refine hK.out _ _ trivial (fun hHeld => ?_)
            clear hK K
            try simp only [Act.put, List.setIfInBounds_toArray, List.set_cons_zero, List.set_cons_succ]
            refine wpAnyH_done (by kernel_rfl) ?_ _
            go_wp2
            go_roundw
            case rel => exact ⟨j + 1, by omega, by go_num, ((heap_setCell_other wr _ _ _ (by simp)).trans HR.out), (by show _ = _; rw [← HN.out, show F.set k ((x * 256 + c : Nat) : Int) = (F.set k (x : Int)).set k ((x : Int) * 256 + (c : Int)) by rw [List.set_set]; congr 1]; exact wrow_set (w := wr) HD.out k _), (hB.setCell (by simp) _).drew⟩
            case measure => simp [intOf]; omega
        · obtain rfl : j = 4 := by omega
          have HN : Hid (fill ((words16 bl).take (k + 1)) = F.set k ((wpart bl k 4 : Nat) : Int)) := by
            show _ = _
            have h16 := words16_length bl
            have e : (words16 bl).take (k + 1) = (words16 bl).take k ++ [wordAt bl k] := by
              rw [List.take_add_one, List.getElem?_eq_getElem (by omega)]
              simp [words16]
            have := fill_set ((words16 bl).take k) (wordAt bl k) (by rw [HT.out]; omega)
            rw [HT.out] at this
            rw [e, ← this, HF.out, wpart_all]
          rw [← HN.out] at HD
          go_wp2
          go_roundw
          case rel => exact ⟨k + 1, by omega, by go_num, HR, HD, hB⟩
          case measure => simp [intOf]; omega
    · obtain rfl : k = 16 := by omega
      have HD16 : Hid (wr.heap[w.heap.size + 1]? = some (.cells (wcells (fill (grow (words16 bl) 0))).toArray 55 (0, 0))) := by
        have := HD.out
        rw [List.take_of_length_le (by rw [words16_length]; exact Nat.le_refl _)] at this
        exact this
      clear HD
      simp only [Int.cast_ofNat_Int]
      go_wp2
      go_loopw [6] (fun i wt => ∃ k : Nat, k ≤ 48 ∧ i = .int .i64 ((k : Int) + 16) ∧ Hid (wt.heap[w.heap.size]? = some (.cells Z 55 (0, 0))) ∧
          Hid (wt.heap[w.heap.size + 1]? = some (.cells (wcells (fill (grow (words16 bl) k))).toArray 55 (0, 0))) ∧ Below w.heap.size w wt)
        (fun i _ => 64 - (intOf i).toNat)
      case atStart => exact ⟨0, by omega, rfl, HR, HD16, hB⟩
      case round =>
        clear HD16 HR hB
        obtain ⟨k, hk, rfl, HR, HD, hB⟩ := hrel
        by_cases hlt : k < 48
        · have hdi : decide ((k : Int) + 16 < 64) = true := by rw [decide_eq_true_eq]; omega
          have hw15 := wrap_int ((k : Int) + 16 - 15) (by omega) (by omega)
          have hw2 := wrap_int ((k : Int) + 16 - 2) (by omega) (by omega)
          have hw16 := wrap_int ((k : Int) + 16 - 16) (by omega) (by omega)
          have hw7 := wrap_int ((k : Int) + 16 - 7) (by omega) (by omega)
          rw [show (k : Int) + 16 - 15 = (k : Int) + 1 by omega] at hw15
          obtain ⟨l, HLW⟩ : ∃ l, Hid (l = grow (words16 bl) k) := ⟨_, (rfl : grow (words16 bl) k = _)⟩
          have HLn : Hid (l.length = k + 16) := by show _ = _; rw [HLW.out, grow_length, words16_length]; omega
          have HOK : Hid (Ok l) := by show Ok _; rw [HLW.out]; exact grow_ok _ _ (ok16 bl)
          rw [← HLW.out] at HD
          have HF : Hid ((fill l).length = 64) := fill_length _ (by have := HLn.out; omega)
          obtain ⟨x16, X16⟩ : ∃ x, Hid (x = l.getD k 0) := ⟨_, (rfl : l.getD k 0 = _)⟩
          obtain ⟨x15, X15⟩ : ∃ x, Hid (x = l.getD (k + 1) 0) := ⟨_, (rfl : l.getD (k + 1) 0 = _)⟩
          obtain ⟨x7, X7⟩ : ∃ x, Hid (x = l.getD (k + 9) 0) := ⟨_, (rfl : l.getD (k + 9) 0 = _)⟩
          obtain ⟨x2, X2⟩ : ∃ x, Hid (x = l.getD (k + 14) 0) := ⟨_, (rfl : l.getD (k + 14) 0 = _)⟩
          have at_ : ∀ j, j < k + 16 → wr.cell? ⟨w.heap.size + 1, j, none⟩ = some (.int .u32 (l.getD j 0)) := fun j hj => by
            have h1 := HLn.out
            have h2 := HF.out
            rw [wrow_cell HD.out j (by omega), fill_at l j (by omega)]
          have range : ∀ j, j < k + 16 → 0 ≤ l.getD j 0 ∧ l.getD j 0 ≤ 4294967295 := fun j hj => by
            have h1 := HLn.out
            simp only [List.getD, List.getElem?_eq_getElem (show j < l.length by omega), Option.getD_some]
            exact HOK.out _ (List.getElem_mem _)
          have c16 := at_ k (by omega)
          have c15 := at_ (k + 1) (by omega)
          have c7 := at_ (k + 9) (by omega)
          have c2 := at_ (k + 14) (by omega)
          have r15 := range (k + 1) (by omega)
          have r2 := range (k + 14) (by omega)
          rw [← X16.out] at c16
          rw [← X15.out] at c15 r15
          rw [← X7.out] at c7
          rw [← X2.out] at c2 r2
          have ho := wrow_cell HD.out (k + 16) (by have := HF.out; omega)
          have hfz : wr.frozen? ⟨w.heap.size + 1, k + 16, none⟩ = false := frozen_of_row wr _ _ _ 55 HD.out
          clear at_ range
          have T7 : Hid _ := fun w => refTurn_any x15 7 128 33554432 w r15.1 r15.2 (by unfold Turn; decide)
          have T18 : Hid _ := fun w => refTurn_any x15 18 262144 16384 w r15.1 r15.2 (by unfold Turn; decide)
          have T17 : Hid _ := fun w => refTurn_any x2 17 131072 32768 w r2.1 r2.2 (by unfold Turn; decide)
          have T19 : Hid _ := fun w => refTurn_any x2 19 524288 8192 w r2.1 r2.2 (by unfold Turn; decide)
          go_wp2
          have hv16 : IntKind.i64.wrap ((k : Int) + 16 - 16) = (k : Int) := by rw [show (k : Int) + 16 - 16 = (k : Int) by omega]; exact wrap_int _ (by omega) (by omega)
          have hv7 : IntKind.i64.wrap ((k : Int) + 16 - 7) = (k : Int) + 9 := by rw [show (k : Int) + 16 - 7 = (k : Int) + 9 by omega]; exact wrap_int _ (by omega) (by omega)
          have ia := fun W => idxW W (w.heap.size + 1) k (k : Int) rfl (by omega)
          have ib := fun W => idxW W (w.heap.size + 1) (k + 9) ((k : Int) + 9) (by omega) (by omega)
          have ic := fun W => idxW W (w.heap.size + 1) (k + 16) ((k : Int) + 16) (by omega) (by omega)
          refine wp_region_held_drew (S := (fun W => W.cell? ⟨w.heap.size + 1, k, none⟩ = some (.int .u32 x16) ∧ W.cell? ⟨w.heap.size + 1, k + 9, none⟩ = some (.int .u32 x7))) (by kernel_rfl) ⟨c16, c7⟩ (fun hHeld => ?_)
          refine wpAnyH_take (i := 0) (oi := { dst := some 44, op := Op.move (Operand.tmp 6), type := 3, pos := "ref.go:47", after := #[], guard := none }) (v := .int .i64 ((k : Int) + 16)) rfl (by kernel_rfl) (by kernel_rfl) (by kernel_rfl) (fun _ _ _ h => h) (Or.inl ⟨by rfl, by intro W hSw; go_simp⟩) hHeld ?_
          try simp only [Act.put, List.setIfInBounds_toArray, List.set_cons_zero, List.set_cons_succ]
          refine wpAnyH_take (i := 1) (oi := { dst := some 45, op := Op.move (Operand.tmp 6), type := 3, pos := "ref.go:47", after := #[], guard := none }) (v := .int .i64 ((k : Int) + 16)) rfl (by kernel_rfl) (by kernel_rfl) (by kernel_rfl) (fun _ _ _ h => h) (Or.inl ⟨by rfl, by intro W hSw; go_simp⟩) hHeld ?_
          try simp only [Act.put, List.setIfInBounds_toArray, List.set_cons_zero, List.set_cons_succ]
          refine wpAnyH_take (i := 2) (oi := { dst := some 46, op := Op.binOp BinOp.sub 3 (Operand.tmp 45) (Operand.const (Value.int IntKind.i64 16)) 3, type := 3, pos := "ref.go:47", after := #[{ on := 1, ground := Ground.data }], guard := none }) (v := .int .i64 ((k : Int))) rfl (by kernel_rfl) (by kernel_rfl) (by kernel_rfl) (fun _ _ _ h => h) (Or.inl ⟨by rfl, by intro W hSw; go_simp; first | done | exact u32w _ | (rw [u32w]; first | rfl | omega) | omega | exact wrap_int _ (by omega) (by omega)⟩) hHeld ?_
          try simp only [Act.put, List.setIfInBounds_toArray, List.set_cons_zero, List.set_cons_succ]
          refine wpAnyH_take (i := 3) (oi := { dst := some 47, op := Op.indexAddr 55 (Operand.tmp 3) (Operand.tmp 46), type := 0, pos := "ref.go:47", after := #[{ on := 2, ground := Ground.data }], guard := none }) (v := .pointer (some ⟨w.heap.size + 1, k, none⟩)) rfl (by kernel_rfl) (by kernel_rfl) (by kernel_rfl) (fun _ _ _ h => h) (Or.inl ⟨by rfl, by intro W hSw; go_simp⟩) hHeld ?_
          try simp only [Act.put, List.setIfInBounds_toArray, List.set_cons_zero, List.set_cons_succ]
          refine wpAnyH_take (i := 4) (oi := { dst := some 48, op := Op.load 46 (Operand.tmp 47), type := 46, pos := "ref.go:47", after := #[{ on := 3, ground := Ground.data }], guard := none }) (v := .int .u32 (x16)) rfl (by kernel_rfl) (by kernel_rfl) (by kernel_rfl) (fun _ _ _ h => h) (Or.inl ⟨by rfl, by intro W hSw; obtain ⟨s1, s2⟩ := hSw; go_simp⟩) hHeld ?_
          try simp only [Act.put, List.setIfInBounds_toArray, List.set_cons_zero, List.set_cons_succ]
          refine wpAnyH_take (i := 5) (oi := { dst := some 49, op := Op.move (Operand.tmp 6), type := 3, pos := "ref.go:47", after := #[], guard := none }) (v := .int .i64 ((k : Int) + 16)) rfl (by kernel_rfl) (by kernel_rfl) (by kernel_rfl) (fun _ _ _ h => h) (Or.inl ⟨by rfl, by intro W hSw; go_simp⟩) hHeld ?_
          try simp only [Act.put, List.setIfInBounds_toArray, List.set_cons_zero, List.set_cons_succ]
          refine wpAnyH_take (i := 6) (oi := { dst := some 50, op := Op.binOp BinOp.sub 3 (Operand.tmp 49) (Operand.const (Value.int IntKind.i64 7)) 3, type := 3, pos := "ref.go:47", after := #[{ on := 5, ground := Ground.data }], guard := none }) (v := .int .i64 ((k : Int) + 9)) rfl (by kernel_rfl) (by kernel_rfl) (by kernel_rfl) (fun _ _ _ h => h) (Or.inl ⟨by rfl, by intro W hSw; go_simp; first | done | exact u32w _ | (rw [u32w]; first | rfl | omega) | omega | exact wrap_int _ (by omega) (by omega)⟩) hHeld ?_
          try simp only [Act.put, List.setIfInBounds_toArray, List.set_cons_zero, List.set_cons_succ]
          refine wpAnyH_take (i := 7) (oi := { dst := some 51, op := Op.indexAddr 55 (Operand.tmp 3) (Operand.tmp 50), type := 0, pos := "ref.go:47", after := #[{ on := 6, ground := Ground.data }], guard := none }) (v := .pointer (some ⟨w.heap.size + 1, k + 9, none⟩)) rfl (by kernel_rfl) (by kernel_rfl) (by kernel_rfl) (fun _ _ _ h => h) (Or.inl ⟨by rfl, by intro W hSw; go_simp⟩) hHeld ?_
          try simp only [Act.put, List.setIfInBounds_toArray, List.set_cons_zero, List.set_cons_succ]
          refine wpAnyH_take (i := 8) (oi := { dst := some 52, op := Op.load 46 (Operand.tmp 51), type := 46, pos := "ref.go:47", after := #[{ on := 7, ground := Ground.data }], guard := none }) (v := .int .u32 (x7)) rfl (by kernel_rfl) (by kernel_rfl) (by kernel_rfl) (fun _ _ _ h => h) (Or.inl ⟨by rfl, by intro W hSw; obtain ⟨s1, s2⟩ := hSw; go_simp⟩) hHeld ?_
          try simp only [Act.put, List.setIfInBounds_toArray, List.set_cons_zero, List.set_cons_succ]
          refine wpAnyH_take (i := 9) (oi := { dst := some 53, op := Op.binOp BinOp.add 46 (Operand.tmp 48) (Operand.tmp 52) 46, type := 46, pos := "ref.go:47", after := #[{ on := 4, ground := Ground.data }, { on := 8, ground := Ground.data }], guard := none }) (v := .int .u32 (((x16) + (x7)) % 4294967296)) rfl (by kernel_rfl) (by kernel_rfl) (by kernel_rfl) (fun _ _ _ h => h) (Or.inl ⟨by rfl, by intro W hSw; go_simp; first | done | exact u32w _ | (rw [u32w]; first | rfl | omega) | omega | exact wrap_int _ (by omega) (by omega)⟩) hHeld ?_
          try simp only [Act.put, List.setIfInBounds_toArray, List.set_cons_zero, List.set_cons_succ]
          refine wpAnyH_take (i := 10) (oi := { dst := some 54, op := Op.move (Operand.tmp 7), type := 46, pos := "ref.go:47", after := #[], guard := none }) (v := .int .u32 (x15)) rfl (by kernel_rfl) (by kernel_rfl) (by kernel_rfl) (fun _ _ _ h => h) (Or.inl ⟨by rfl, by intro W hSw; go_simp⟩) hHeld ?_
          try simp only [Act.put, List.setIfInBounds_toArray, List.set_cons_zero, List.set_cons_succ]
          refine wpAnyH_take (i := 12) (oi := { dst := some 56, op := Op.move (Operand.tmp 7), type := 46, pos := "ref.go:47", after := #[], guard := none }) (v := .int .u32 (x15)) rfl (by kernel_rfl) (by kernel_rfl) (by kernel_rfl) (fun _ _ _ h => h) (Or.inl ⟨by rfl, by intro W hSw; go_simp⟩) hHeld ?_
          try simp only [Act.put, List.setIfInBounds_toArray, List.set_cons_zero, List.set_cons_succ]
          refine wpAnyH_take (i := 15) (oi := { dst := some 59, op := Op.move (Operand.tmp 7), type := 46, pos := "ref.go:47", after := #[], guard := none }) (v := .int .u32 (x15)) rfl (by kernel_rfl) (by kernel_rfl) (by kernel_rfl) (fun _ _ _ h => h) (Or.inl ⟨by rfl, by intro W hSw; go_simp⟩) hHeld ?_
          try simp only [Act.put, List.setIfInBounds_toArray, List.set_cons_zero, List.set_cons_succ]
          refine wpAnyH_take (i := 16) (oi := { dst := some 60, op := Op.binOp BinOp.shr 46 (Operand.tmp 59) (Operand.const (Value.int IntKind.u64 3)) 51, type := 46, pos := "ref.go:47", after := #[{ on := 15, ground := Ground.data }], guard := none }) (v := .int .u32 ((x15) / 8)) rfl (by kernel_rfl) (by kernel_rfl) (by kernel_rfl) (fun _ _ _ h => h) (Or.inl ⟨by rfl, by intro W hSw; go_simp; first | done | exact u32w _ | (rw [u32w]; first | rfl | omega) | omega | exact wrap_int _ (by omega) (by omega)⟩) hHeld ?_
          try simp only [Act.put, List.setIfInBounds_toArray, List.set_cons_zero, List.set_cons_succ]
          refine wpAnyH_take (i := 19) (oi := { dst := some 63, op := Op.move (Operand.tmp 8), type := 46, pos := "ref.go:47", after := #[], guard := none }) (v := .int .u32 (x2)) rfl (by kernel_rfl) (by kernel_rfl) (by kernel_rfl) (fun _ _ _ h => h) (Or.inl ⟨by rfl, by intro W hSw; go_simp⟩) hHeld ?_
          try simp only [Act.put, List.setIfInBounds_toArray, List.set_cons_zero, List.set_cons_succ]
          refine wpAnyH_take (i := 21) (oi := { dst := some 65, op := Op.move (Operand.tmp 8), type := 46, pos := "ref.go:47", after := #[], guard := none }) (v := .int .u32 (x2)) rfl (by kernel_rfl) (by kernel_rfl) (by kernel_rfl) (fun _ _ _ h => h) (Or.inl ⟨by rfl, by intro W hSw; go_simp⟩) hHeld ?_
          try simp only [Act.put, List.setIfInBounds_toArray, List.set_cons_zero, List.set_cons_succ]
          refine wpAnyH_take (i := 24) (oi := { dst := some 68, op := Op.move (Operand.tmp 8), type := 46, pos := "ref.go:47", after := #[], guard := none }) (v := .int .u32 (x2)) rfl (by kernel_rfl) (by kernel_rfl) (by kernel_rfl) (fun _ _ _ h => h) (Or.inl ⟨by rfl, by intro W hSw; go_simp⟩) hHeld ?_
          try simp only [Act.put, List.setIfInBounds_toArray, List.set_cons_zero, List.set_cons_succ]
          refine wpAnyH_take (i := 25) (oi := { dst := some 69, op := Op.binOp BinOp.shr 46 (Operand.tmp 68) (Operand.const (Value.int IntKind.u64 10)) 51, type := 46, pos := "ref.go:47", after := #[{ on := 24, ground := Ground.data }], guard := none }) (v := .int .u32 ((x2) / 1024)) rfl (by kernel_rfl) (by kernel_rfl) (by kernel_rfl) (fun _ _ _ h => h) (Or.inl ⟨by rfl, by intro W hSw; go_simp; first | done | exact u32w _ | (rw [u32w]; first | rfl | omega) | omega | exact wrap_int _ (by omega) (by omega)⟩) hHeld ?_
          try simp only [Act.put, List.setIfInBounds_toArray, List.set_cons_zero, List.set_cons_succ]
          refine wpAnyH_ready (rs := [11]) (by kernel_rfl) (by simp) ?_
          refine AllReadyH.cons (o := { dst := some 55, op := Op.call { callee := Callee.value (Operand.func 31), args := #[Operand.tmp 54, Operand.const (Value.int IntKind.i64 7)], argTypes := #[46, 3] }, type := 46, pos := "ref.go:47", after := #[{ on := 10, ground := Ground.data }], guard := none }) rfl (fun K hK => ?_) AllReadyH.nil
          go_simp
          refine (T7.out _).mono ?_
          rintro e w' ⟨rfl, n1, rfl⟩
          go_wp2_with fail
          refine hK.out _ _ hHeld (fun hHeld => ?_)
          clear hK K
          try simp only [Act.put, List.setIfInBounds_toArray, List.set_cons_zero, List.set_cons_succ]
          refine wpAnyH_ready (rs := [13]) (by kernel_rfl) (by simp) ?_
          refine AllReadyH.cons (o := { dst := some 57, op := Op.call { callee := Callee.value (Operand.func 31), args := #[Operand.tmp 56, Operand.const (Value.int IntKind.i64 18)], argTypes := #[46, 3] }, type := 46, pos := "ref.go:47", after := #[{ on := 12, ground := Ground.data }, { on := 11, ground := Ground.chain }], guard := none }) rfl (fun K hK => ?_) AllReadyH.nil
          go_simp
          refine (T18.out _).mono ?_
          rintro e w' ⟨rfl, n1, rfl⟩
          go_wp2_with fail
          refine hK.out _ _ hHeld (fun hHeld => ?_)
          clear hK K
          try simp only [Act.put, List.setIfInBounds_toArray, List.set_cons_zero, List.set_cons_succ]
          refine wpAnyH_take (i := 14) (oi := { dst := some 58, op := Op.binOp BinOp.xor 46 (Operand.tmp 55) (Operand.tmp 57) 46, type := 46, pos := "ref.go:47", after := #[{ on := 11, ground := Ground.data }, { on := 13, ground := Ground.data }], guard := none }) (v := .int .u32 (bits .xor .u32 (rot (x15) 128 33554432) (rot (x15) 262144 16384))) rfl (by kernel_rfl) (by kernel_rfl) (by kernel_rfl) (fun _ _ _ h => h) (Or.inl ⟨by rfl, by intro W hSw; go_simp; first | done | exact u32w _ | (rw [u32w]; first | rfl | omega) | omega | exact wrap_int _ (by omega) (by omega)⟩) hHeld ?_
          try simp only [Act.put, List.setIfInBounds_toArray, List.set_cons_zero, List.set_cons_succ]
          refine wpAnyH_take (i := 17) (oi := { dst := some 61, op := Op.binOp BinOp.xor 46 (Operand.tmp 58) (Operand.tmp 60) 46, type := 46, pos := "ref.go:47", after := #[{ on := 14, ground := Ground.data }, { on := 16, ground := Ground.data }], guard := none }) (v := .int .u32 (bits .xor .u32 (bits .xor .u32 (rot (x15) 128 33554432) (rot (x15) 262144 16384)) ((x15) / 8))) rfl (by kernel_rfl) (by kernel_rfl) (by kernel_rfl) (fun _ _ _ h => h) (Or.inl ⟨by rfl, by intro W hSw; go_simp; first | done | exact u32w _ | (rw [u32w]; first | rfl | omega) | omega | exact wrap_int _ (by omega) (by omega)⟩) hHeld ?_
          try simp only [Act.put, List.setIfInBounds_toArray, List.set_cons_zero, List.set_cons_succ]
          refine wpAnyH_take (i := 18) (oi := { dst := some 62, op := Op.binOp BinOp.add 46 (Operand.tmp 53) (Operand.tmp 61) 46, type := 46, pos := "ref.go:47", after := #[{ on := 9, ground := Ground.data }, { on := 17, ground := Ground.data }], guard := none }) (v := .int .u32 (((((x16) + (x7)) % 4294967296) + (bits .xor .u32 (bits .xor .u32 (rot (x15) 128 33554432) (rot (x15) 262144 16384)) ((x15) / 8))) % 4294967296)) rfl (by kernel_rfl) (by kernel_rfl) (by kernel_rfl) (fun _ _ _ h => h) (Or.inl ⟨by rfl, by intro W hSw; go_simp; first | done | exact u32w _ | (rw [u32w]; first | rfl | omega) | omega | exact wrap_int _ (by omega) (by omega)⟩) hHeld ?_
          try simp only [Act.put, List.setIfInBounds_toArray, List.set_cons_zero, List.set_cons_succ]
          refine wpAnyH_ready (rs := [20]) (by kernel_rfl) (by simp) ?_
          refine AllReadyH.cons (o := { dst := some 64, op := Op.call { callee := Callee.value (Operand.func 31), args := #[Operand.tmp 63, Operand.const (Value.int IntKind.i64 17)], argTypes := #[46, 3] }, type := 46, pos := "ref.go:47", after := #[{ on := 19, ground := Ground.data }, { on := 13, ground := Ground.chain }], guard := none }) rfl (fun K hK => ?_) AllReadyH.nil
          go_simp
          refine (T17.out _).mono ?_
          rintro e w' ⟨rfl, n1, rfl⟩
          go_wp2_with fail
          refine hK.out _ _ hHeld (fun hHeld => ?_)
          clear hK K
          try simp only [Act.put, List.setIfInBounds_toArray, List.set_cons_zero, List.set_cons_succ]
          refine wpAnyH_ready (rs := [22]) (by kernel_rfl) (by simp) ?_
          refine AllReadyH.cons (o := { dst := some 66, op := Op.call { callee := Callee.value (Operand.func 31), args := #[Operand.tmp 65, Operand.const (Value.int IntKind.i64 19)], argTypes := #[46, 3] }, type := 46, pos := "ref.go:47", after := #[{ on := 21, ground := Ground.data }, { on := 20, ground := Ground.chain }], guard := none }) rfl (fun K hK => ?_) AllReadyH.nil
          go_simp
          refine (T19.out _).mono ?_
          rintro e w' ⟨rfl, n1, rfl⟩
          go_wp2_with fail
          refine hK.out _ _ hHeld (fun hHeld => ?_)
          clear hK K
          try simp only [Act.put, List.setIfInBounds_toArray, List.set_cons_zero, List.set_cons_succ]
          refine wpAnyH_take (i := 23) (oi := { dst := some 67, op := Op.binOp BinOp.xor 46 (Operand.tmp 64) (Operand.tmp 66) 46, type := 46, pos := "ref.go:47", after := #[{ on := 20, ground := Ground.data }, { on := 22, ground := Ground.data }], guard := none }) (v := .int .u32 (bits .xor .u32 (rot (x2) 131072 32768) (rot (x2) 524288 8192))) rfl (by kernel_rfl) (by kernel_rfl) (by kernel_rfl) (fun _ _ _ h => h) (Or.inl ⟨by rfl, by intro W hSw; go_simp; first | done | exact u32w _ | (rw [u32w]; first | rfl | omega) | omega | exact wrap_int _ (by omega) (by omega)⟩) hHeld ?_
          try simp only [Act.put, List.setIfInBounds_toArray, List.set_cons_zero, List.set_cons_succ]
          refine wpAnyH_take (i := 26) (oi := { dst := some 70, op := Op.binOp BinOp.xor 46 (Operand.tmp 67) (Operand.tmp 69) 46, type := 46, pos := "ref.go:47", after := #[{ on := 23, ground := Ground.data }, { on := 25, ground := Ground.data }], guard := none }) (v := .int .u32 (bits .xor .u32 (bits .xor .u32 (rot (x2) 131072 32768) (rot (x2) 524288 8192)) ((x2) / 1024))) rfl (by kernel_rfl) (by kernel_rfl) (by kernel_rfl) (fun _ _ _ h => h) (Or.inl ⟨by rfl, by intro W hSw; go_simp; first | done | exact u32w _ | (rw [u32w]; first | rfl | omega) | omega | exact wrap_int _ (by omega) (by omega)⟩) hHeld ?_
          try simp only [Act.put, List.setIfInBounds_toArray, List.set_cons_zero, List.set_cons_succ]
          refine wpAnyH_take (i := 27) (oi := { dst := some 71, op := Op.binOp BinOp.add 46 (Operand.tmp 62) (Operand.tmp 70) 46, type := 46, pos := "ref.go:47", after := #[{ on := 18, ground := Ground.data }, { on := 26, ground := Ground.data }], guard := none }) (v := .int .u32 (((((((x16) + (x7)) % 4294967296) + (bits .xor .u32 (bits .xor .u32 (rot (x15) 128 33554432) (rot (x15) 262144 16384)) ((x15) / 8))) % 4294967296) + (bits .xor .u32 (bits .xor .u32 (rot (x2) 131072 32768) (rot (x2) 524288 8192)) ((x2) / 1024))) % 4294967296)) rfl (by kernel_rfl) (by kernel_rfl) (by kernel_rfl) (fun _ _ _ h => h) (Or.inl ⟨by rfl, by intro W hSw; go_simp; first | done | exact u32w _ | (rw [u32w]; first | rfl | omega) | omega | exact wrap_int _ (by omega) (by omega)⟩) hHeld ?_
          try simp only [Act.put, List.setIfInBounds_toArray, List.set_cons_zero, List.set_cons_succ]
          refine wpAnyH_take (i := 28) (oi := { dst := some 72, op := Op.indexAddr 55 (Operand.tmp 3) (Operand.tmp 44), type := 0, pos := "ref.go:47", after := #[{ on := 0, ground := Ground.data }, { on := 0, ground := Ground.phase }, { on := 1, ground := Ground.phase }, { on := 2, ground := Ground.phase }, { on := 3, ground := Ground.phase }, { on := 4, ground := Ground.phase }, { on := 5, ground := Ground.phase }, { on := 6, ground := Ground.phase }, { on := 7, ground := Ground.phase }, { on := 8, ground := Ground.phase }, { on := 9, ground := Ground.phase }, { on := 10, ground := Ground.phase }, { on := 11, ground := Ground.phase }, { on := 12, ground := Ground.phase }, { on := 13, ground := Ground.phase }, { on := 14, ground := Ground.phase }, { on := 15, ground := Ground.phase }, { on := 16, ground := Ground.phase }, { on := 17, ground := Ground.phase }, { on := 18, ground := Ground.phase }, { on := 19, ground := Ground.phase }, { on := 20, ground := Ground.phase }, { on := 21, ground := Ground.phase }, { on := 22, ground := Ground.phase }, { on := 23, ground := Ground.phase }, { on := 24, ground := Ground.phase }, { on := 25, ground := Ground.phase }, { on := 26, ground := Ground.phase }, { on := 27, ground := Ground.phase }], guard := none }) (v := .pointer (some ⟨w.heap.size + 1, k + 16, none⟩)) rfl (by kernel_rfl) (by kernel_rfl) (by kernel_rfl) (fun _ _ _ h => h) (Or.inl ⟨by rfl, by intro W hSw; go_simp⟩) hHeld ?_
          try simp only [Act.put, List.setIfInBounds_toArray, List.set_cons_zero, List.set_cons_succ]
          refine wpAnyH_ready (rs := [29]) (by kernel_rfl) (by simp) ?_
          refine AllReadyH.cons (o := { dst := none, op := Op.store 46 (Operand.tmp 72) (Operand.tmp 71), type := 0, pos := "ref.go:47", after := #[{ on := 28, ground := Ground.data }, { on := 27, ground := Ground.data }, { on := 22, ground := Ground.chain }, { on := 0, ground := Ground.phase }, { on := 1, ground := Ground.phase }, { on := 2, ground := Ground.phase }, { on := 3, ground := Ground.phase }, { on := 4, ground := Ground.phase }, { on := 5, ground := Ground.phase }, { on := 6, ground := Ground.phase }, { on := 7, ground := Ground.phase }, { on := 8, ground := Ground.phase }, { on := 9, ground := Ground.phase }, { on := 10, ground := Ground.phase }, { on := 11, ground := Ground.phase }, { on := 12, ground := Ground.phase }, { on := 13, ground := Ground.phase }, { on := 14, ground := Ground.phase }, { on := 15, ground := Ground.phase }, { on := 16, ground := Ground.phase }, { on := 17, ground := Ground.phase }, { on := 18, ground := Ground.phase }, { on := 19, ground := Ground.phase }, { on := 20, ground := Ground.phase }, { on := 21, ground := Ground.phase }, { on := 22, ground := Ground.phase }, { on := 23, ground := Ground.phase }, { on := 24, ground := Ground.phase }, { on := 25, ground := Ground.phase }, { on := 26, ground := Ground.phase }, { on := 27, ground := Ground.phase }], guard := none }) rfl (fun K hK => ?_) AllReadyH.nil
          go_simp
          try go_wp2_with fail
          refine hK.out _ _ ⟨(World.cell?_setCell_other _ _ _ _ (by simp)).trans c16, (World.cell?_setCell_other _ _ _ _ (by simp)).trans c7⟩ (fun hHeld => ?_)
          clear hK K
          try simp only [Act.put, List.setIfInBounds_toArray, List.set_cons_zero, List.set_cons_succ]
          refine wpAnyH_done (by kernel_rfl) ?_ _
          have HN : Hid ((x16 + x7 + bits .xor .u32 (bits .xor .u32 (rot x15 128 33554432) (rot x15 262144 16384)) (x15 / 8) + bits .xor .u32 (bits .xor .u32 (rot x2 131072 32768) (rot x2 524288 8192)) (x2 / 1024)) % 4294967296 = nextW l) := by
            show _ = _
            have h1 := HLn.out
            unfold nextW
            rw [h1, show k + 16 - 16 = k by omega, show k + 16 - 7 = k + 9 by omega, show k + 16 - 15 = k + 1 by omega, show k + 16 - 2 = k + 14 by omega, ← X16.out, ← X7.out, ← X15.out, ← X2.out]
            unfold add32 xor32
            omega
          have HFS : Hid (fill (grow (words16 bl) (k + 1)) = (fill l).set (k + 16) (nextW l)) := by
            show _ = _
            have h1 := HLn.out
            have := fill_set l (nextW l) (by omega)
            rw [h1] at this
            rw [this]
            unfold grow
            rw [← HLW.out]
          go_wp2
          rw [HN.out]
          go_roundw
          case rel =>
            refine ⟨k + 1, by omega, by go_num, ?_, ?_, (below_drewN hB _).setCell (by simp) _⟩
            · show _ = _
              rw [heap_setCell_other _ _ _ _ (by simp)]
              exact HR.out
            · show _ = _
              rw [HFS.out]
              exact wrow_set (w := wr.drewN _) HD.out (k + 16) _
          case measure => simp [intOf]; omega
        · obtain rfl : k = 48 := by omega
          obtain ⟨D, HDD⟩ : ∃ D, Hid (D = (wcells (sched bl)).toArray) := ⟨_, (rfl : (wcells (sched bl)).toArray = _)⟩
          have HDL : Hid (wr.heap[w.heap.size + 1]? = some (.cells D 55 (0, 0))) := by
            show _ = _
            rw [HDD.out]
            have := HD.out
            have e : fill (grow (words16 bl) 48) = sched bl := by
              unfold fill sched
              rw [grow_length, words16_length]
              simp
            rw [e] at this
            exact this
          have HD64 : Hid (Z.size = D.size) := by
            show _ = _
            rw [HZ64.out, HDD.out]
            simp [wcells_length, sched, grow_length, words16_length]
          have HSD : Hid ((Tryd.prog.info? 55).map (·.size) = some D.size) := by
            show _ = _
            rw [← HD64.out]; exact HS.out
          have H1D : Hid (D.all (·.oneCell') = true) := by
            show _ = _
            rw [HDD.out]; exact wcells_all _
          go_wp2_with (first
            | (refine wpList_load_row rfl 55 (.tmp 3) rfl (w.heap.size + 1) rfl 55 D (0, 0) _ HDL.out Tryd.underlying55 rfl HSD.out ?_)
            | (refine wpList_store_row rfl 55 (.tmp 2) (.tmp 73) rfl w.heap.size D rfl rfl 55 Z HR.out HSD.out HD64.out H1D.out ?_)
            | fail)
          refine bodyPost_ret (v := .agg D) ?_ rfl ⟨?_, ?_⟩
          · exact results_cell_row (p := 2) (ty := 55) rfl _ _ w.heap.size 55 D (0, 0) _ rfl (setRow_heap _ _ _ _ 55 _ HR.out) Tryd.underlying55 rfl HSD.out
          · rw [HDD.out]
          · exact below_setRow hB (Nat.le_refl _) _
end Go.Proofs.YtkmndchbmbhlhaaDoor
