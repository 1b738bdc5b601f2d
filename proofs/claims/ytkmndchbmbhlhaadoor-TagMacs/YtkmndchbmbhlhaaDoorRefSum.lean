/- What the document's Sum answers: the sum of a text. -/
import Derived.Test.YtkmndchbmbhlhaaDoorOf
import Derived.Test.YtkmndchbmbhlhaaDoorRefBlock
import Derived.Test.YtkmndchbmbhlhaaDoorRefMsg
namespace Go.Proofs.YtkmndchbmbhlhaaDoor
open Go.RowKit Sums
set_option linter.unusedVariables false
set_option linter.unusedSimpArgs false

/-- A digest's first i bytes, and noughts behind them. -/
def dpart (l : List UInt8) (i : Nat) : List UInt8 := l.take i ++ List.replicate (32 - i) 0
theorem dpart_length (l : List UInt8) (i : Nat) (hl : l.length = 32) (hi : i ≤ 32) : (dpart l i).length = 32 := by simp [dpart]; omega
theorem dpart_set (l : List UInt8) (i : Nat) (hl : l.length = 32) (hi : i < 32) (b : UInt8) (hb : l[i]? = some b) : (dpart l i).set i b = dpart l (i + 1) := by
  unfold dpart
  rw [List.set_append, if_neg (by simp; omega), List.length_take, show i - min i l.length = 0 by omega, List.take_add_one, hb, show 32 - i = (32 - (i + 1)) + 1 by omega, List.replicate_succ, List.set_cons_zero]
  simp only [Option.toList_some, List.append_assoc, List.cons_append, List.nil_append]
theorem dpart_all (l : List UInt8) (hl : l.length = 32) : dpart l 32 = l := by
  unfold dpart
  rw [List.take_of_length_le (by omega)]
  simp
theorem flat4_at (l : List Int) (q r : Nat) (hq : q < l.length) (hr : r < 4) : (l.flatMap bytes4)[4 * q + r]? = (bytes4 l[q])[r]? := by
  induction l generalizing q with
  | nil => simp at hq
  | cons z l ih =>
    rw [List.flatMap_cons]
    cases q with
    | zero =>
      rw [List.getElem?_append_left (by show _ < 4; omega)]
      simp
    | succ q =>
      rw [List.getElem?_append_right (by show 4 ≤ _; omega), show 4 * (q + 1) + r - (bytes4 z).length = 4 * q + r by show 4 * (q + 1) + r - 4 = _; omega, ih q (by simpa using hq)]
      simp

theorem idxD (W : World) (g j : Nat) (z : Int) (hz : z = j) (hj : j < 32) : (Instr.indexAt 24 (.pointer (some ⟨g, 0, none⟩)) (.int .i64 z)).run Tryd.prog W = .ok (.pointer (some ⟨g, j, none⟩)) W := by
  subst hz
  have hs : ∀ w, (sizeOf 5).run Tryd.prog w = .ok 1 w := by
    intro w
    have hq : (Tryd.prog.info? 5).map (·.size) = some 1 := by kernel_rfl
    cases h : Tryd.prog.info? 5 with
    | none => simp [h] at hq
    | some i => simp [h] at hq; simp [sizeOf, typeInfo, h, hq]
  simp [Instr.indexAt, run_underlying Tryd.underlying24, Instr.sureAddr, asIntOf, hj, hs, add_plain]

set_option maxHeartbeats 4000000 in
set_option maxRecDepth 100000 in
theorem refSum_any (x : ByteArray) (w : World) (hx : x.size ≤ 1000000) (hK : Table 1 w) (D : Array Value) (HDD : Hid (D = (cellsOf (sumD x.data.toList)).toArray)) :
    Calls Tryd.prog 20 #[.string x] w fun e w' => e = .returned (.agg D) ∧ Below w.heap.size w w' := by
  obtain ⟨Z, HZ, HA, HS, H1, H32⟩ := noughts27
  obtain ⟨Z8, HA8, HS8, H8⟩ := noughts38
  have HSF : Hid ((Tryd.prog.info? 47).map (·.size) = some (wcells first.list).toArray.size) := size38
  have HZF : Hid (Z8.size = (wcells first.list).toArray.size) := H8.out
  have H1F : Hid ((wcells first.list).toArray.all (·.oneCell') = true) := wcells_all _
  obtain ⟨l, HL⟩ : ∃ l, Hid (l = x.data.toList) := ⟨_, (rfl : x.data.toList = _)⟩
  have hll : l.length = x.size := by rw [HL.out]; rfl
  have HM : Hid (∀ w1, Calls Tryd.prog 26 #[.string x] w1 fun e w' => ∃ v', e = .returned v' ∧ w'.ownsRow w1.heap.size 5 1 v' (64 * nBlocks x.size) (cellsOf (pad l)) ∧ Below w1.heap.size w1 w') := fun w1 => by
    rw [HL.out]; exact refMessage_any x w1 hx
  have HTB : Hid (Table 1 w) := hK
  clear hK
  rw [← HL.out] at HDD
  go_enter Tryd.func20, Tryd.ntmps20
  go_wp2_with (first
    | (refine wpList_alloc_row rfl 24 rfl Z HA.out ?_)
    | (refine wpList_alloc_row rfl 47 rfl Z8 HA8.out ?_)
    | (refine wpList_store_row rfl 47 (.tmp 3) (.tmp 8) rfl (w.alloc (.cells Z 24)).heap.size (wcells first.list).toArray rfl (by rfl) 47 Z8 (heap_alloc_new (w.alloc (.cells Z 24)) _) HSF.out HZF.out H1F.out ?_)
    | fail)
  have hB0 : Below w.heap.size w (((w.alloc (.cells Z 24)).alloc (.cells Z8 47)).setRow (w.heap.size + 1) (wcells first.list).toArray) := below_setRow (((Below.refl _ _).alloc (Nat.le_refl _) _).alloc (by simp) _) (by omega) _
  refine (HM.out _).mono ?_
  rintro e w1 ⟨v1, rfl, hown, hb1⟩
  obtain ⟨N, HN⟩ : ∃ N, Hid (N = nBlocks x.size) := ⟨_, (rfl : nBlocks x.size = _)⟩
  rw [← HN.out] at hown
  have hN : N ≤ 20000 ∧ 1 ≤ N := by have := HN.out; unfold nBlocks at *; omega
  obtain ⟨g, cap, cur, rfl, hgs, hg, hcap, hcm, htake⟩ : ∃ g cap cur, v1 = .slice (some ⟨g, 0, none⟩) (64 * N) cap ∧ w.heap.size + 2 ≤ g ∧ w1.heap[g]? = some (.cells cur 5 (0, 0)) ∧ 64 * N ≤ cap ∧ cap ≤ maxLen ∧ cur.toList.take (64 * N) = cellsOf (pad l) := by
    rcases hown.2 with ⟨_, h0⟩ | ⟨g, cap, cur, hv, hb, hg, hn, hm, _, ht⟩
    · omega
    · refine ⟨g, cap, cur, hv, ?_, hg, hn, hm, by simpa using ht⟩
      simp only [setRow_size, World.size_alloc] at hb
      omega
  unfold maxLen at hcm
  have HG0 : Hid (w1.heap[w.heap.size]? = some (.cells Z 24 (0, 0)) ∧ w1.heap[w.heap.size + 1]? = some (.cells (wcells (blocks first (pad l) 0).list).toArray 47 (0, 0)) ∧ w1.heap[g]? = some (.cells cur 5 (0, 0))) := by
    refine ⟨?_, ?_, hg⟩
    · rw [hb1.block _ (by simp only [setRow_size, World.size_alloc]; omega), setRow_other _ _ _ _ (by omega)]; exact heap_alloc2_old w _ _
    · rw [hb1.block _ (by simp only [setRow_size, World.size_alloc]; omega)]; exact setRow_heap _ _ _ _ 47 _ (heap_alloc2_new w _ _)
  have HTK : Hid (cur.toList.take (64 * N) = cellsOf (pad l)) := htake
  have hB1 : Below w.heap.size w w1 := hB0.trans (hb1.mono (by simp only [setRow_size, World.size_alloc]; omega))
  clear hg hb1 hB0 HM hown htake
  go_wp2
  go_loopw [5] (fun v wr => ∃ k : Nat, k ≤ N ∧ v = .int .i64 (64 * (k : Int)) ∧ Hid (wr.heap[w.heap.size]? = some (.cells Z 24 (0, 0)) ∧ wr.heap[w.heap.size + 1]? = some (.cells (wcells (blocks first (pad l) k).list).toArray 47 (0, 0)) ∧
      wr.heap[g]? = some (.cells cur 5 (0, 0))) ∧ Below w.heap.size w wr)
    (fun v _ => 64 * N - (intOf v).toNat)
  case atStart => exact ⟨0, by omega, rfl, HG0, hB1⟩
  case round =>
    clear HG0 hB1
    obtain ⟨k, hk, rfl, HG, hB⟩ := hrel
    by_cases hlt : k < N
    · have hdi : decide ((64 : Int) * (k : Int) < 64 * (N : Int)) = true := by rw [decide_eq_true_eq]; omega
      have hw64 := wrap_int (64 * (k : Int) + 64) (by omega) (by omega)
      obtain ⟨m, HM⟩ : ∃ m, Hid (m = pad l) := ⟨_, (rfl : pad l = _)⟩
      have HML : Hid (m.length = 64 * N) := by show _ = _; rw [HM.out, pad_length, hll, HN.out]
      obtain ⟨s, HSt⟩ : ∃ s, Hid (s = blocks first (pad l) k) := ⟨_, (rfl : blocks first (pad l) k = _)⟩
      obtain ⟨L, HLs, HSL, H1L, H8L⟩ := words_row s.list 47 8 rfl size38
      obtain ⟨L2, HL2, HSL2, H1L2, H8L2⟩ := words_row (block s ((m.drop (64 * k)).take 64)).list 47 8 rfl size38
      have HLL : Hid (L.size = L2.size) := by show _ = _; rw [H8L.out, H8L2.out]
      have HGs : Hid (wr.heap[w.heap.size + 1]? = some (.cells L 47 (0, 0))) := by show _ = _; rw [HLs.out, HSt.out]; exact HG.out.2.1
      have HKM : Hid (∀ w2, Below wr.heap.size wr w2 → Calls Tryd.prog 27 #[.agg L, .slice (some ⟨g, 64 * k, none⟩) 64 (cap - 64 * k)] w2 fun e w' => e = .returned (.agg L2) ∧ Below w2.heap.size w2 w') := by
        intro w2 hb2
        rw [HLs.out, HL2.out]
        have hgr := heap_lt HG.out.2.2
        have hly : Lies wr g 0 m := fun i hi => by
          have hi' : i < 64 * N := by rw [← HML.out]; exact hi
          rw [Nat.zero_add, cell_of_row wr g i _ 5 (0, 0) HG.out.2.2]
          have h1 : (cur.toList.take (64 * N))[i]? = some (.int .u8 m[i].toNat) := by rw [HTK.out, ← HM.out]; exact cellsOf_at m i hi
          rw [List.getElem?_take_of_lt hi'] at h1
          rw [← Array.getElem?_toList]
          exact h1
        have hl2 : Lies w2 g (0 + 64 * k) ((m.drop (64 * k)).take 64) := ((hly.keep hb2 hgr).drop (64 * k)).take 64
        rw [Nat.zero_add] at hl2
        have hlen2 : ((m.drop (64 * k)).take 64).length = 64 := by
          have := HML.out
          simp; omega
        exact refBlock_any s g (64 * k) (cap - 64 * k) _ w2 (by rw [HSt.out]; exact blocks_ok _ _ _ first_ok) hlen2 (by omega) (by omega) (Nat.lt_of_lt_of_le hgr hb2.size) hl2 ((HTB.out.keep hB).keep hb2)
      have hb0 : (0 : Int) ≤ 64 * (k : Int) := by omega
      have hb1 : 64 * (k : Int) ≤ 64 * (k : Int) + 64 := by omega
      have hb2 : 64 * (k : Int) + 64 ≤ (cap : Int) := by omega
      go_wp2
      refine wp_region_held_drew (S := (fun _ => True)) (by kernel_rfl) trivial (fun hHeld => ?_)
      refine wpAnyH_take (i := 1) (oi := { dst := some 18, op := Op.move (Operand.tmp 4), type := 38, pos := "ref.go:72", after := #[], guard := none }) (v := .slice (some ⟨g, 0, none⟩) (64 * N) cap) rfl (by kernel_rfl) (by kernel_rfl) (by kernel_rfl) (fun _ _ _ h => h) (Or.inl ⟨by rfl, by intro w hSw; go_simp⟩) hHeld ?_
      try simp only [Act.put, List.setIfInBounds_toArray, List.set_cons_zero, List.set_cons_succ]
      refine wpAnyH_take (i := 2) (oi := { dst := some 19, op := Op.move (Operand.tmp 5), type := 3, pos := "ref.go:72", after := #[], guard := none }) (v := .int .i64 (64 * (k : Int))) rfl (by kernel_rfl) (by kernel_rfl) (by kernel_rfl) (fun _ _ _ h => h) (Or.inl ⟨by rfl, by intro w hSw; go_simp⟩) hHeld ?_
      try simp only [Act.put, List.setIfInBounds_toArray, List.set_cons_zero, List.set_cons_succ]
      refine wpAnyH_take (i := 3) (oi := { dst := some 20, op := Op.move (Operand.tmp 5), type := 3, pos := "ref.go:72", after := #[], guard := none }) (v := .int .i64 (64 * (k : Int))) rfl (by kernel_rfl) (by kernel_rfl) (by kernel_rfl) (fun _ _ _ h => h) (Or.inl ⟨by rfl, by intro w hSw; go_simp⟩) hHeld ?_
      try simp only [Act.put, List.setIfInBounds_toArray, List.set_cons_zero, List.set_cons_succ]
      refine wpAnyH_take (i := 4) (oi := { dst := some 21, op := Op.binOp BinOp.add 3 (Operand.tmp 20) (Operand.const (Value.int IntKind.i64 64)) 3, type := 3, pos := "ref.go:72", after := #[{ on := 3, ground := Ground.data }], guard := none }) (v := .int .i64 (64 * (k : Int) + 64)) rfl (by kernel_rfl) (by kernel_rfl) (by kernel_rfl) (fun _ _ _ h => h) (Or.inl ⟨by rfl, by intro w hSw; go_simp⟩) hHeld ?_
      try simp only [Act.put, List.setIfInBounds_toArray, List.set_cons_zero, List.set_cons_succ]
      refine wpAnyH_take (i := 5) (oi := { dst := some 22, op := Op.slice 38 (Operand.tmp 18) (some (Operand.tmp 19)) (some (Operand.tmp 21)) none, type := 38, pos := "ref.go:72", after := #[{ on := 1, ground := Ground.data }, { on := 2, ground := Ground.data }, { on := 4, ground := Ground.data }], guard := none }) (v := .slice (some ⟨g, 64 * k, none⟩) 64 (cap - 64 * k)) rfl (by kernel_rfl) (by kernel_rfl) (by kernel_rfl) (fun _ _ _ h => h) (Or.inl ⟨by rfl, by intro W hSw; go_simp; rw [show (64 * (k : Int)).toNat = 64 * k by omega, if_neg (by omega)]; exact ⟨rfl, by omega, rfl⟩⟩) hHeld ?_
      try simp only [Act.put, List.setIfInBounds_toArray, List.set_cons_zero, List.set_cons_succ]
      refine wpAnyH_ready (rs := [0]) (by kernel_rfl) (by simp) ?_
      refine AllReadyH.cons (o := { dst := some 17, op := Op.load 47 (Operand.tmp 3), type := 47, pos := "ref.go:72", after := #[], guard := none }) rfl (fun K hK => ?_) AllReadyH.nil
      refine step_load_row (by rfl) 47 (.tmp 3) rfl (w.heap.size + 1) rfl 47 L (0, 0) _ HGs.out Tryd.underlying47 rfl HSL.out ?_
      refine hK.out _ _ trivial (fun hHeld => ?_)
      clear hK K
      try simp only [Act.put, List.setIfInBounds_toArray, List.set_cons_zero, List.set_cons_succ]
      refine wpAnyH_ready (rs := [6]) (by kernel_rfl) (by simp) ?_
      refine AllReadyH.cons (o := { dst := some 23, op := Op.call { callee := Callee.value (Operand.func 27), args := #[Operand.tmp 17, Operand.tmp 22], argTypes := #[47, 38] }, type := 47, pos := "ref.go:72", after := #[{ on := 0, ground := Ground.data }, { on := 5, ground := Ground.data }], guard := none }) rfl (fun K hK => ?_) AllReadyH.nil
      go_simp
      refine (HKM.out _ (Below.refl _ _).drew).mono ?_
      rintro e w3 ⟨rfl, hb3⟩
      have HG3 : Hid (w3.heap[w.heap.size + 1]? = some (.cells L 47 (0, 0))) := (hb3.block _ (heap_lt HGs.out)).trans HGs.out
      go_wp2_with fail
      refine hK.out _ _ trivial (fun hHeld => ?_)
      clear hK K
      try simp only [Act.put, List.setIfInBounds_toArray, List.set_cons_zero, List.set_cons_succ]
      refine wpAnyH_ready (rs := [7]) (by kernel_rfl) (by simp) ?_
      refine AllReadyH.cons (o := { dst := none, op := Op.store 47 (Operand.tmp 3) (Operand.tmp 23), type := 0, pos := "ref.go:72", after := #[{ on := 6, ground := Ground.data }, { on := 6, ground := Ground.chain }, { on := 0, ground := Ground.phase }, { on := 1, ground := Ground.phase }, { on := 2, ground := Ground.phase }, { on := 3, ground := Ground.phase }, { on := 4, ground := Ground.phase }, { on := 5, ground := Ground.phase }, { on := 6, ground := Ground.phase }], guard := none }) rfl (fun K hK => ?_) AllReadyH.nil
      refine step_store_row (by rfl) 47 (.tmp 3) (.tmp 23) rfl (w.heap.size + 1) L2 rfl rfl 47 L HG3.out HSL2.out HLL.out H1L2.out ?_
      refine hK.out _ _ trivial (fun hHeld => ?_)
      clear hK K
      try simp only [Act.put, List.setIfInBounds_toArray, List.set_cons_zero, List.set_cons_succ]
      refine wpAnyH_done (by kernel_rfl) ?_ _
      have HN2 : Hid ((wcells (blocks first (pad l) (k + 1)).list).toArray = L2) := by
        show _ = _
        rw [HL2.out, HM.out]
        unfold blocks
        rw [← HSt.out]
      go_wp2
      go_roundw
      case rel =>
        refine ⟨k + 1, by omega, by go_num, ⟨?_, ?_, ?_⟩, below_setRow (hB.trans (((Below.refl _ _).drew.trans hb3).mono hB.size)) (by omega) _⟩
        · rw [setRow_other _ _ _ _ (by omega), hb3.block _ (heap_lt HG.out.1)]; exact HG.out.1
        · rw [HN2.out]; exact setRow_heap _ _ _ _ 47 _ HG3.out
        · rw [setRow_other _ _ _ _ (by omega), hb3.block _ (heap_lt HG.out.2.2)]; exact HG.out.2.2
      case measure => simp [intOf]; omega
    · obtain rfl : N = k := by omega
      obtain ⟨s, HSt⟩ : ∃ s, Hid (s = blocks first (pad l) N) := ⟨_, (rfl : blocks first (pad l) N = _)⟩
      have HGs : Hid (wr.heap[w.heap.size + 1]? = some (.cells (wcells s.list).toArray 47 (0, 0))) := by show _ = _; rw [HSt.out]; exact HG.out.2.1
      have HOs : Hid (OkSt s) := by show OkSt _; rw [HSt.out]; exact blocks_ok _ _ _ first_ok
      have HE : Hid (sumD l = s.list.flatMap bytes4) := by
        show _ = _
        unfold sumD endOf
        rw [hll, ← HN.out, ← HSt.out]
      have HSL : Hid ((sumD l).length = 32) := sumD_length _
      go_wp2_with (first
        | (refine wpList_alloc_row rfl 24 rfl Z HA.out ?_)
        | fail)
      have hgd : w.heap.size + 2 ≤ wr.heap.size := by have := heap_lt HG.out.2.2; omega
      have HD0 : Hid ((wr.alloc (.cells Z 24)).heap[wr.heap.size]? = some (.cells (cellsOf (dpart (sumD l) 0)).toArray 24 (0, 0)) ∧ (wr.alloc (.cells Z 24)).heap[w.heap.size]? = some (.cells Z 24 (0, 0)) ∧
          (wr.alloc (.cells Z 24)).heap[w.heap.size + 1]? = some (.cells (wcells s.list).toArray 47 (0, 0))) := by
        refine ⟨?_, heap_keep HG.out.1, heap_keep HGs.out⟩
        have e : (cellsOf (dpart (sumD l) 0)).toArray = Z := by rw [HZ.out]; rfl
        rw [e]
        exact heap_alloc_new wr _
      have hB3 : Below w.heap.size w (wr.alloc (.cells Z 24)) := hB.alloc (by omega) _
      clear HG HGs hB HTK
      generalize wr.heap.size = gd at hgd HD0 ⊢
      generalize wr.alloc (.cells Z 24) = w4 at HD0 hB3 ⊢
      go_loopw [7] (fun v wd => ∃ i : Nat, i ≤ 32 ∧ v = .int .i64 i ∧ Hid (wd.heap[gd]? = some (.cells (cellsOf (dpart (sumD l) i)).toArray 24 (0, 0)) ∧ wd.heap[w.heap.size]? = some (.cells Z 24 (0, 0)) ∧
          wd.heap[w.heap.size + 1]? = some (.cells (wcells s.list).toArray 47 (0, 0))) ∧ Below w.heap.size w wd)
        (fun v _ => 32 - (intOf v).toNat)
      case atStart => exact ⟨0, by omega, rfl, HD0, hB3⟩
      case round =>
        clear HD0 hB3
        obtain ⟨i, hi, rfl, HD, hB⟩ := hrel
        by_cases hlt : i < 32
        · have hdi : decide ((i : Int) < 32) = true := by rw [decide_eq_true_eq]; omega
          obtain ⟨q, r, hr, rfl⟩ : ∃ q r, r < 4 ∧ i = 4 * q + r := ⟨i / 4, i % 4, by omega, by omega⟩
          have hq : q < 8 := by omega
          obtain ⟨y, HY⟩ : ∃ y, Hid (y = s.list[q]'(by rw [list_length]; exact hq)) := ⟨_, (rfl : s.list[q]'(by rw [list_length]; exact hq) = _)⟩
          have hy : 0 ≤ y ∧ y ≤ 4294967295 := by rw [HY.out]; exact HOs.out _ (List.getElem_mem _)
          have cy : wr.cell? ⟨w.heap.size + 1, q, none⟩ = some (.int .u32 y) := by
            rw [wrow_cell HD.out.2.2 q (by rw [list_length]; exact hq), HY.out]
          have HBy : Hid ((sumD l)[4 * q + r]? = (bytes4 y)[r]?) := by show _ = _; rw [HE.out, flat4_at s.list q r (by rw [list_length]; exact hq) hr, HY.out]
          have HPL : Hid ((dpart (sumD l) (4 * q + r)).length = 32) := dpart_length _ _ HSL.out (by omega)
          have hcell : wr.cell? ⟨gd, 4 * q + r, none⟩ = some (.int .u8 (((dpart (sumD l) (4 * q + r))[4 * q + r]'(by rw [HPL.out]; exact hlt)).toNat : Int)) := by
            rw [cell_of_row wr _ _ _ 24 (0, 0) HD.out.1]; simp [cellsOf_at _ (4 * q + r) (show 4 * q + r < (dpart (sumD l) (4 * q + r)).length by rw [HPL.out]; exact hlt)]
          have hfz : wr.frozen? ⟨gd, 4 * q + r, none⟩ = false := frozen_of_row wr _ _ _ 24 HD.out.1
          have ia := fun W => idxE W (w.heap.size + 1) q (q : Int) rfl hq
          have ib := fun W => idxD W gd (4 * q + r) ((4 * q + r : Nat) : Int) rfl hlt
          have hdq : ((4 * q + r : Nat) : Int) / 4 = (q : Int) := by omega
          have hdr : ((4 * q + r : Nat) : Int) % 4 = (r : Int) := by omega
          have hdq' : ((4 * q + r : Nat) : Int).tdiv 4 = (q : Int) := by rw [Int.tdiv_eq_ediv_of_nonneg (by omega)]; omega
          have hdr' : ((4 * q + r : Nat) : Int).tmod 4 = (r : Int) := by rw [Int.tmod_eq_emod_of_nonneg (by omega)]; omega
          obtain ⟨iz, HIZ⟩ : ∃ iz : Int, Hid (iz = ((4 * q + r : Nat) : Int)) := ⟨_, (rfl : ((4 * q + r : Nat) : Int) = _)⟩
          rw [← HIZ.out] at hdq hdr hdq' hdr' ib hdi ⊢
          have hizb : 0 ≤ iz ∧ iz ≤ 31 := by rw [HIZ.out]; omega
          have hr4 : r = 0 ∨ r = 1 ∨ r = 2 ∨ r = 3 := by omega
          rcases hr4 with rfl | rfl | rfl | rfl
          · simp only [Int.cast_ofNat_Int] at hdr hdr'
            simp only [Nat.add_zero] at hcell hfz ib HD HBy HIZ
            have HV : Hid ((UInt8.ofNat (y / 16777216).toNat).toNat = (y / 16777216 : Int)) := by show _ = _; rw [UInt8.toNat_ofNat']; omega
            have HN : Hid ((dpart (sumD l) (4 * q)).set (4 * q) (UInt8.ofNat (y / 16777216).toNat) = dpart (sumD l) (4 * q + 1)) := dpart_set _ _ HSL.out (by omega) _ HBy.out
            go_wp2
            go_roundw
            case rel =>
              refine ⟨4 * q + 1, by omega, by rw [HIZ.out]; go_num, ⟨?_, ?_, ?_⟩, hB.setCell (by simp; omega) _⟩
              · rw [← HV.out, row_set HD.out.1, ← HN.out]
                exact setRow_heap _ _ _ _ 24 _ HD.out.1
              · rw [heap_setCell_other _ _ _ _ (by simp; omega)]; exact HD.out.2.1
              · rw [heap_setCell_other _ _ _ _ (by simp; omega)]; exact HD.out.2.2
            case measure => rw [HIZ.out]; simp [intOf]; omega
          · simp only [Int.cast_ofNat_Int] at hdr hdr'
            have HV : Hid ((UInt8.ofNat (y / 65536).toNat).toNat = (y / 65536 % 256 : Int)) := by show _ = _; rw [UInt8.toNat_ofNat']; omega
            have HN : Hid ((dpart (sumD l) (4 * q + 1)).set (4 * q + 1) (UInt8.ofNat (y / 65536).toNat) = dpart (sumD l) (4 * q + 1 + 1)) := dpart_set _ _ HSL.out (by omega) _ HBy.out
            go_wp2
            go_roundw
            case rel =>
              refine ⟨4 * q + 1 + 1, by omega, by rw [HIZ.out]; go_num, ⟨?_, ?_, ?_⟩, hB.setCell (by simp; omega) _⟩
              · rw [← HV.out, row_set HD.out.1, ← HN.out]
                exact setRow_heap _ _ _ _ 24 _ HD.out.1
              · rw [heap_setCell_other _ _ _ _ (by simp; omega)]; exact HD.out.2.1
              · rw [heap_setCell_other _ _ _ _ (by simp; omega)]; exact HD.out.2.2
            case measure => rw [HIZ.out]; simp [intOf]; omega
          · simp only [Int.cast_ofNat_Int] at hdr hdr'
            have HV : Hid ((UInt8.ofNat (y / 256).toNat).toNat = (y / 256 % 256 : Int)) := by show _ = _; rw [UInt8.toNat_ofNat']; omega
            have HN : Hid ((dpart (sumD l) (4 * q + 2)).set (4 * q + 2) (UInt8.ofNat (y / 256).toNat) = dpart (sumD l) (4 * q + 2 + 1)) := dpart_set _ _ HSL.out (by omega) _ HBy.out
            go_wp2
            go_roundw
            case rel =>
              refine ⟨4 * q + 2 + 1, by omega, by rw [HIZ.out]; go_num, ⟨?_, ?_, ?_⟩, hB.setCell (by simp; omega) _⟩
              · rw [← HV.out, row_set HD.out.1, ← HN.out]
                exact setRow_heap _ _ _ _ 24 _ HD.out.1
              · rw [heap_setCell_other _ _ _ _ (by simp; omega)]; exact HD.out.2.1
              · rw [heap_setCell_other _ _ _ _ (by simp; omega)]; exact HD.out.2.2
            case measure => rw [HIZ.out]; simp [intOf]; omega
          · simp only [Int.cast_ofNat_Int] at hdr hdr'
            have HV : Hid ((UInt8.ofNat y.toNat).toNat = (y % 256 : Int)) := by show _ = _; rw [UInt8.toNat_ofNat']; omega
            have HN : Hid ((dpart (sumD l) (4 * q + 3)).set (4 * q + 3) (UInt8.ofNat y.toNat) = dpart (sumD l) (4 * q + 3 + 1)) := dpart_set _ _ HSL.out (by omega) _ HBy.out
            go_wp2
            go_roundw
            case rel =>
              refine ⟨4 * q + 3 + 1, by omega, by rw [HIZ.out]; go_num, ⟨?_, ?_, ?_⟩, hB.setCell (by simp; omega) _⟩
              · rw [← HV.out, row_set HD.out.1, ← HN.out]
                exact setRow_heap _ _ _ _ 24 _ HD.out.1
              · rw [heap_setCell_other _ _ _ _ (by simp; omega)]; exact HD.out.2.1
              · rw [heap_setCell_other _ _ _ _ (by simp; omega)]; exact HD.out.2.2
            case measure => rw [HIZ.out]; simp [intOf]; omega
        · obtain rfl : i = 32 := by omega
          have HSD : Hid ((Tryd.prog.info? 24).map (·.size) = some D.size) := by show _ = _; rw [size23, HDD.out]; simp [cellsOf_length, sumD_length]
          have H1D : Hid (D.all (·.oneCell') = true) := by show _ = _; rw [HDD.out]; exact cellsOf_all _
          have HZD : Hid (Z.size = D.size) := by show _ = _; rw [H32.out, HDD.out]; simp [cellsOf_length, sumD_length]
          have HDs : Hid (wr.heap[gd]? = some (.cells D 24 (0, 0))) := by
            show _ = _
            have := HD.out.1
            rw [dpart_all _ HSL.out] at this
            rw [HDD.out]
            exact this
          go_wp2_with (first
            | (refine wpList_load_row rfl 24 (.tmp 6) rfl gd rfl 24 D (0, 0) _ HDs.out Tryd.underlying24 rfl HSD.out ?_)
            | (refine wpList_store_row rfl 24 (.tmp 2) (.tmp 40) rfl w.heap.size D rfl rfl 24 Z HD.out.2.1 HSD.out HZD.out H1D.out ?_)
            | fail)
          refine bodyPost_ret (v := .agg D) ?_ rfl ⟨rfl, ?_⟩
          · exact results_cell_row (p := 2) (ty := 24) rfl _ _ w.heap.size 24 D (0, 0) _ rfl (setRow_heap _ _ _ _ 24 _ HD.out.2.1) Tryd.underlying24 rfl HSD.out
          · exact below_setRow hB (Nat.le_refl _) _
end Go.Proofs.YtkmndchbmbhlhaaDoor
