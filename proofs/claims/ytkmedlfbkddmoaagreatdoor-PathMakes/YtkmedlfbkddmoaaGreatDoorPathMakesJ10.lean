/- Texts of our own that the row of PathMakes leans on, part 10. -/
import Derived.Test.YtkmedlfbkddmoaaGreatDoorPathMakesJ0
import Derived.Test.YtkmedlfbkddmoaaGreatDoorPathMakesJ1
import Derived.Test.YtkmedlfbkddmoaaGreatDoorPathMakesJ6
import Derived.Test.YtkmedlfbkddmoaaGreatDoorPathMakesJ7
import Derived.Test.YtkmedlfbkddmoaaGreatDoorPathMakesJ9
import Derived.BigQuiet
import Derived.Stop.BytesEq
import Derived.Deep.MidRow
import Derived.OneCell
import Derived.Laws.BitsAllLaws
import Derived.OwnWalk
/- What sha.Of answers: the sum of the parts' bytes, one part behind the other. -/
namespace Go.Proofs.YtkmedlfbkddmoaaGreatDoor
open Go.RowKit Sums
set_option maxRecDepth 100000
set_option linter.unusedVariables false
set_option linter.unusedSimpArgs false
theorem zero27 : (Tryz.prog.info? 24).map (fun i => (i.zero, i.size)) = some (some (.agg (cellsOf (List.replicate 32 0)).toArray), 32) := by kernel_rfl
theorem noughts27 : ∃ Z : Array Value, Hid (Z = (cellsOf (List.replicate 32 0)).toArray) ∧ Hid ((Tryz.prog.info? 24).map (fun i => (i.zero, i.size)) = some (some (.agg Z), Z.size)) ∧
    Hid ((Tryz.prog.info? 24).map (·.size) = some Z.size) ∧ Hid (Z.all (·.oneCell') = true) ∧ Hid (Z.size = 32) :=
  ⟨(cellsOf (List.replicate 32 0)).toArray, (rfl : _ = _), zero27, size23, cellsOf_all _, (rfl : _ = _)⟩
theorem dig_row' (l : List UInt8) (hl : l.length = 32) : ∃ D : Array Value, Hid (D = (cellsOf l).toArray) ∧ Hid ((Tryz.prog.info? 24).map (·.size) = some D.size) ∧ Hid (D.all (·.oneCell') = true) ∧ Hid (D.size = 32) := by
  refine ⟨(cellsOf l).toArray, (rfl : _ = _), ?_, cellsOf_all l, ?_⟩
  · show _ = _
    rw [size23]; simp [cellsOf_length, hl]
  · show _ = _
    simp [cellsOf_length, hl]
theorem step_load_row {P : Program} {ops : Array Oper} {o : Oper} {a : Act} {w : World} {K : Act → World → Prop} {Q : Exit → Act → World → Prop} {E : Prop} (hw : Region.wanted o (yielded ops a.tmps) = true) (ty : TypeId) (x : Operand) (ho : o.op = .load ty x)
    (g : Nat) (hx : a.eval x = .pointer (some ⟨g, 0, none⟩)) (t : TypeId) (cs : Array Value) (fr : Nat × Nat) (d : TypeDesc) (hg : w.heap[g]? = some (.cells cs t fr))
    (hu : P.underlying ty = some d) (hd : (match d with | .struct _ | .array _ _ => true | _ => false) = true) (hi : (P.info? ty).map (·.size) = some cs.size)
    (h : K (a.put o.dst (.agg cs)) w) : if Region.wanted o (yielded ops a.tmps) = true then Oper.wp P o a w K Q else E := by
  rw [if_pos hw]
  exact wp_load_row ty x ho g hx t cs fr d hg hu hd hi h
theorem step_store_row {P : Program} {ops : Array Oper} {o : Oper} {a : Act} {w : World} {K : Act → World → Prop} {Q : Exit → Act → World → Prop} {E : Prop} (hw : Region.wanted o (yielded ops a.tmps) = true) (ty : TypeId) (x y : Operand) (ho : o.op = .store ty x y)
    (g : Nat) (cells : Array Value) (hx : a.eval x = .pointer (some ⟨g, 0, none⟩)) (hy : a.eval y = .agg cells)
    (t : TypeId) (old : Array Value) (hg : w.heap[g]? = some (.cells old t (0, 0))) (hi : (P.info? ty).map (·.size) = some cells.size)
    (hold : old.size = cells.size) (h1 : cells.all (·.oneCell') = true)
    (h : K (a.put o.dst undef) (w.setRow g cells)) : if Region.wanted o (yielded ops a.tmps) = true then Oper.wp P o a w K Q else E := by
  rw [if_pos hw]
  exact wp_store_row ty x y ho g cells hx hy t old hg hi hold h1 h
theorem pad_length (l : List UInt8) : (pad l).length = 64 * nBlocks l.length := by
  unfold pad be8
  simp
  unfold nBlocks
  omega
theorem first_ok : OkSt first := by
  intro z hz
  simp only [first, St.list, List.mem_cons, List.not_mem_nil, or_false] at hz
  rcases hz with rfl | rfl | rfl | rfl | rfl | rfl | rfl | rfl <;> omega
theorem blocks_ok (s : St) (m : List UInt8) (n : Nat) (h : OkSt s) : OkSt (blocks s m n) := by
  induction n with
  | zero => exact h
  | succ n ih => exact plus_ok _ _
theorem slice_from (w : World) (g i : Nat) (hi : i < 8) :
    (Instr.sliceAt 24 (.pointer (some ⟨g, 0, none⟩)) (some (.int .i64 (4 * (i : Int)))) none none).run Tryz.prog w = .ok (.slice (some ⟨g, 4 * i, none⟩) (32 - 4 * i) (32 - 4 * i)) w := by
  have h1 : 4 * (i : Int) ≤ 32 := by omega
  have h2 : 0 ≤ 4 * (i : Int) := by omega
  simp [Instr.sliceAt, Instr.slice, Instr.sliceBounds, Instr.sliceBound, asIntOf, run_underlying Tryz.underlying24, Instr.sureAddr, h1, h2]
  rw [show (4 * (i : Int)).toNat = 4 * i by omega, if_neg (by omega), add_plain]
  simp
theorem slice_all (w : World) (g : Nat) : (Instr.sliceAt 24 (.pointer (some ⟨g, 0, none⟩)) none none none).run Tryz.prog w = .ok (.slice (some ⟨g, 0, none⟩) 32 32) w := by
  simp [Instr.sliceAt, Instr.slice, Instr.sliceBounds, run_underlying Tryz.underlying24, Instr.sureAddr]
  rw [add_plain]
theorem flat4_length (l : List Int) : (l.flatMap bytes4).length = 4 * l.length := by
  induction l with
  | nil => rfl
  | cons z l ih => simp [bytes4] at ih ⊢; omega
def part (l : List Int) (i : Nat) : List UInt8 := (l.take i).flatMap bytes4 ++ List.replicate (32 - 4 * i) 0
theorem part_length (l : List Int) (i : Nat) (hl : l.length = 8) (hi : i ≤ 8) : (part l i).length = 32 := by
  unfold part
  rw [List.length_append, flat4_length, List.length_take, List.length_replicate]
  omega
theorem part_put (l : List Int) (i : Nat) (hl : l.length = 8) (hi : i < 8) : put4 (part l i) (4 * i) l[i] = part l (i + 1) := by
  unfold part put4
  have h1 : ((l.take i).flatMap bytes4).length = 4 * i := by rw [flat4_length, List.length_take]; omega
  rw [List.take_left' h1, ← List.drop_drop, List.drop_left' h1, List.take_add_one, List.getElem?_eq_getElem (by omega), List.flatMap_append]
  simp
  omega
theorem part_all (l : List Int) (hl : l.length = 8) : part l 8 = l.flatMap bytes4 := by
  unfold part
  rw [List.take_of_length_le (by omega)]
  simp
theorem sumD_length (l : List UInt8) : (sumD l).length = 32 := by
  unfold sumD
  rw [flat4_length]
  rfl
set_option maxHeartbeats 2000000 in
set_option maxRecDepth 100000 in
theorem of_any (a : Option Addr) (len cap : Nat) (ss : List ByteArray) (w : World) (hT : Texts w a len ss) (ht : total ss ≤ 1000000) (hlen : len ≤ 9223372036854775807) (hK : Table 1 w) :
    Calls Tryz.prog 93 #[.slice a len cap] w fun e w' => e = .returned (digV (sumD (joinL ss))) ∧ Below w.heap.size w w' := by
  obtain ⟨Z, HZ, HA, HS, H1, H32⟩ := noughts27
  obtain ⟨Z8, HA8, HS8, H8⟩ := noughts38
  have HSF : Hid ((Tryz.prog.info? 132).map (·.size) = some (wcells first.list).toArray.size) := size38
  have HZF : Hid (Z8.size = (wcells first.list).toArray.size) := H8.out
  have H1F : Hid ((wcells first.list).toArray.all (·.oneCell') = true) := wcells_all _
  have HM : Hid (∀ w1, Below w.heap.size w w1 → Calls Tryz.prog 117 #[.slice a len cap] w1 fun e w' => ∃ g, e = .returned (.slice (some ⟨g, 0, none⟩) (64 * nBlocks (total ss)) (64 * nBlocks (total ss))) ∧
      w'.heap[g]? = some (.cells (cellsOf (pad (joinL ss))).toArray 5 (0, 0)) ∧ w1.heap.size ≤ g ∧ Below w1.heap.size w1 w') := fun w1 hb1 => message_any a len cap ss w1 (hT.keep hb1) ht hlen
  have HTB : Hid (Table 1 w) := hK
  have HTT : Hid (total ss ≤ 1000000) := ht
  clear hT hK ht
  go_enter Tryz.func93, Tryz.ntmps93
  go_wp2_with (first
    | (refine wpList_alloc_row rfl 24 rfl Z HA.out ?_)
    | (refine wpList_alloc_row rfl 132 rfl Z8 HA8.out ?_)
    | (refine wpList_store_row rfl 132 (.tmp 3) (.tmp 9) rfl (w.alloc (.cells Z 24)).heap.size (wcells first.list).toArray rfl (by rfl) 132 Z8 (heap_alloc_new (w.alloc (.cells Z 24)) _) HSF.out HZF.out H1F.out ?_)
    | fail)
  have hB0 : Below w.heap.size w (((w.alloc (.cells Z 24)).alloc (.cells Z8 132)).setRow (w.heap.size + 1) (wcells first.list).toArray) := below_setRow (((Below.refl _ _).alloc (Nat.le_refl _) _).alloc (by simp) _) (by omega) _
  refine (HM.out _ hB0).mono ?_
  rintro e w1 ⟨g, rfl, hg, hgs, hb1⟩
  have hgs' : w.heap.size + 2 ≤ g := by simp only [setRow_size, World.size_alloc] at hgs; omega
  obtain ⟨N, HN⟩ : ∃ N, Hid (N = nBlocks (total ss)) := ⟨_, (rfl : nBlocks (total ss) = _)⟩
  rw [← HN.out]
  have hN : N ≤ 20000 := by have := HN.out; have := HTT.out; unfold nBlocks at *; omega
  have HG0 : Hid (w1.heap[w.heap.size]? = some (.cells Z 24 (0, 0)) ∧ w1.heap[w.heap.size + 1]? = some (.cells (wcells (blocks first (pad (joinL ss)) 0).list).toArray 132 (0, 0))) := by
    refine ⟨?_, ?_⟩
    · rw [hb1.block _ (by simp only [setRow_size, World.size_alloc]; omega), setRow_other _ _ _ _ (by omega)]; exact heap_alloc2_old w _ _
    · rw [hb1.block _ (by simp only [setRow_size, World.size_alloc]; omega)]; exact setRow_heap _ _ _ _ 132 _ (heap_alloc2_new w _ _)
  have HGM : Hid (w1.heap[g]? = some (.cells (cellsOf (pad (joinL ss))).toArray 5 (0, 0))) := hg
  have hB1 : Below w.heap.size w w1 := hB0.trans (hb1.mono (by simp only [setRow_size, World.size_alloc]; omega))
  have hgw : g < w1.heap.size := heap_lt hg
  clear hg hgs hb1 hB0 HM
  go_wp2
  go_loopw [5] (fun v wr => ∃ k : Nat, k ≤ N ∧ v = .int .i64 (64 * (k : Int)) ∧ Hid (wr.heap[w.heap.size]? = some (.cells Z 24 (0, 0)) ∧ wr.heap[w.heap.size + 1]? = some (.cells (wcells (blocks first (pad (joinL ss)) k).list).toArray 132 (0, 0)) ∧
      wr.heap[g]? = some (.cells (cellsOf (pad (joinL ss))).toArray 5 (0, 0))) ∧ Below w.heap.size w wr)
    (fun v _ => 64 * N - (intOf v).toNat)
  case atStart => exact ⟨0, by omega, rfl, ⟨HG0.out.1, HG0.out.2, HGM.out⟩, hB1⟩
  case round =>
    clear HG0 HGM hB1
    obtain ⟨k, hk, rfl, HG, hB⟩ := hrel
    by_cases hlt : k < N
    · have hdi : decide ((64 : Int) * (k : Int) < 64 * (N : Int)) = true := by rw [decide_eq_true_eq]; omega
      have hw64 := wrap_int (64 * (k : Int) + 64) (by omega) (by omega)
      obtain ⟨m, HM⟩ : ∃ m, Hid (m = pad (joinL ss)) := ⟨_, (rfl : pad (joinL ss) = _)⟩
      have HML : Hid (m.length = 64 * N) := by show _ = _; rw [HM.out, pad_length, joinL_length, HN.out]
      obtain ⟨s, HSt⟩ : ∃ s, Hid (s = blocks first (pad (joinL ss)) k) := ⟨_, (rfl : blocks first (pad (joinL ss)) k = _)⟩
      obtain ⟨L, HL, HSL, H1L, H8L⟩ := words_row s.list 132 8 rfl size38
      obtain ⟨L2, HL2, HSL2, H1L2, H8L2⟩ := words_row (block s ((m.drop (64 * k)).take 64)).list 132 8 rfl size38
      have HLL : Hid (L.size = L2.size) := by show _ = _; rw [H8L.out, H8L2.out]
      have HGs : Hid (wr.heap[w.heap.size + 1]? = some (.cells L 132 (0, 0))) := by show _ = _; rw [HL.out, HSt.out]; exact HG.out.2.1
      have HKM : Hid (∀ w2, Below wr.heap.size wr w2 → Calls Tryz.prog 118 #[.agg L, .slice (some ⟨g, 64 * k, none⟩) 64 (64 * N - 64 * k)] w2 fun e w' => e = .returned (.agg L2) ∧ Below w2.heap.size w2 w') := by
        intro w2 hb2
        rw [HL.out, HL2.out]
        have hgr := heap_lt HG.out.2.2
        have hly : Lies wr g 0 m := fun i hi => by
          rw [Nat.zero_add, cell_of_row wr g i _ 5 (0, 0) HG.out.2.2, ← HM.out]
          simp [cellsOf_at m i hi]
        have hl2 : Lies w2 g (0 + 64 * k) ((m.drop (64 * k)).take 64) := ((hly.keep hb2 hgr).drop (64 * k)).take 64
        rw [Nat.zero_add] at hl2
        have hlen2 : ((m.drop (64 * k)).take 64).length = 64 := by
          have := HML.out
          simp; omega
        exact mixed_any s g (64 * k) (64 * N - 64 * k) _ w2 (by rw [HSt.out]; exact blocks_ok _ _ _ first_ok) hlen2 (by omega) (by omega) (Nat.lt_of_lt_of_le hgr hb2.size) hl2 ((HTB.out.keep hB).keep hb2)
      have hb0 : (0 : Int) ≤ 64 * (k : Int) := by omega
      have hb1 : 64 * (k : Int) ≤ 64 * (k : Int) + 64 := by omega
      have hb2 : 64 * (k : Int) + 64 ≤ 64 * (N : Int) := by omega
      go_wp2
      refine wp_region_held_drew (S := (fun _ => True)) (by kernel_rfl) trivial (fun hHeld => ?_)
      refine zW 1 (.slice (some ⟨g, 0, none⟩) (64 * N) (64 * N)) rfl (Or.inl ⟨by rfl, by intro w hSw; go_simp⟩) hHeld ?_
      try simp only [Act.put, pS1, pS2, pS3]
      refine zW 2 (.int .i64 (64 * (k : Int))) rfl (Or.inl ⟨by rfl, by intro w hSw; go_simp⟩) hHeld ?_
      try simp only [Act.put, pS1, pS2, pS3]
      refine zW 3 (.int .i64 (64 * (k : Int))) rfl (Or.inl ⟨by rfl, by intro w hSw; go_simp⟩) hHeld ?_
      try simp only [Act.put, pS1, pS2, pS3]
      refine zW 4 (.int .i64 (64 * (k : Int) + 64)) rfl (Or.inl ⟨by rfl, by intro w hSw; go_simp⟩) hHeld ?_
      try simp only [Act.put, pS1, pS2, pS3]
      refine zW 5 (.slice (some ⟨g, 64 * k, none⟩) 64 (64 * N - 64 * k)) rfl (Or.inl ⟨by rfl, by intro W hSw; go_simp; rw [show (64 * (k : Int)).toNat = 64 * k by omega, if_neg (by omega)]; exact ⟨rfl, by omega, rfl⟩⟩) hHeld ?_
      try simp only [Act.put, pS1, pS2, pS3]
      refine wpAnyH_ready (rs := [0]) (by kernel_rfl) (by simp) ?_
      refine AllReadyH.cons (o := { dst := some 18, op := .load 132 (.tmp 3), type := 132, pos := "sha.go:33", after := #[], guard := none }) rfl (fun K hK => ?_) AllReadyH.nil
      refine step_load_row (by rfl) 132 (.tmp 3) rfl (w.heap.size + 1) rfl 132 L (0, 0) _ HGs.out Tryz.underlying132 rfl HSL.out ?_
      refine hK.out _ _ trivial (fun hHeld => ?_)
      clear hK K
      try simp only [Act.put, pS1, pS2, pS3]
      refine wpAnyH_ready (rs := [6]) (by kernel_rfl) (by simp) ?_
      refine AllReadyH.cons (o := { dst := some 24, op := .call { callee := .value (.func 118), args := #[.tmp 18, .tmp 23], argTypes := #[132, 69] }, type := 132, pos := "sha.go:33", after := #[zD 0, zD 5], guard := none }) rfl (fun K hK => ?_) AllReadyH.nil
      go_simp
      refine (HKM.out _ (Below.refl _ _).drew).mono ?_
      rintro e w3 ⟨rfl, hb3⟩
      have HG3 : Hid (w3.heap[w.heap.size + 1]? = some (.cells L 132 (0, 0))) := (hb3.block _ (heap_lt HGs.out)).trans HGs.out
      go_wp2_with fail
      refine hK.out _ _ trivial (fun hHeld => ?_)
      clear hK K
      try simp only [Act.put, pS1, pS2, pS3]
      refine wpAnyH_ready (rs := [7]) (by kernel_rfl) (by simp) ?_
      refine AllReadyH.cons (o := { dst := none, op := .store 132 (.tmp 3) (.tmp 24), type := 0, pos := "sha.go:33", after := #[zD 6, zC 6, zP 0, zP 1, zP 2, zP 3, zP 4, zP 5, zP 6], guard := none }) rfl (fun K hK => ?_) AllReadyH.nil
      refine step_store_row (by rfl) 132 (.tmp 3) (.tmp 24) rfl (w.heap.size + 1) L2 rfl rfl 132 L HG3.out HSL2.out HLL.out H1L2.out ?_
      refine hK.out _ _ trivial (fun hHeld => ?_)
      clear hK K
      try simp only [Act.put, pS1, pS2, pS3]
      refine wpAnyH_done (by kernel_rfl) ?_ _
      have HN2 : Hid ((wcells (blocks first (pad (joinL ss)) (k + 1)).list).toArray = L2) := by
        show _ = _
        rw [HL2.out, HM.out]
        unfold blocks
        rw [← HSt.out]
      go_wp2
      go_roundw
      case rel =>
        refine ⟨k + 1, by omega, by go_num, ⟨?_, ?_, ?_⟩, below_setRow (hB.trans (((Below.refl _ _).drew.trans hb3).mono hB.size)) (by omega) _⟩
        · rw [setRow_other _ _ _ _ (by omega), hb3.block _ (heap_lt HG.out.1)]; exact HG.out.1
        · rw [HN2.out]; exact setRow_heap _ _ _ _ 132 _ HG3.out
        · rw [setRow_other _ _ _ _ (by omega), hb3.block _ (heap_lt HG.out.2.2)]; exact HG.out.2.2
      case measure => simp [intOf]; omega
    · obtain rfl : N = k := by omega
      obtain ⟨s, HSt⟩ : ∃ s, Hid (s = blocks first (pad (joinL ss)) N) := ⟨_, (rfl : blocks first (pad (joinL ss)) N = _)⟩
      obtain ⟨L, HL, HSL, H1L, H8L⟩ := words_row s.list 132 8 rfl size38
      have HGs : Hid (wr.heap[w.heap.size + 1]? = some (.cells L 132 (0, 0))) := by show _ = _; rw [HL.out, HSt.out]; exact HG.out.2.1
      have HOs : Hid (OkSt s) := by show OkSt _; rw [HSt.out]; exact blocks_ok _ _ _ first_ok
      have HE : Hid (sumD (joinL ss) = s.list.flatMap bytes4) := by
        show _ = _
        unfold sumD endOf
        rw [joinL_length, ← HN.out, ← HSt.out]
      go_wp2_with (first
        | (refine wpList_alloc_row rfl 24 rfl Z HA.out ?_)
        | (refine wpList_load_row rfl 132 (.tmp 3) rfl (w.heap.size + 1) rfl 132 L (0, 0) _ (heap_keep HGs.out) Tryz.underlying132 rfl HSL.out ?_)
        | fail)
      have hgd : w.heap.size + 2 ≤ wr.heap.size := by have := heap_lt HG.out.2.2; omega
      have HD0 : Hid ((wr.alloc (.cells Z 24)).heap[wr.heap.size]? = some (.cells (cellsOf (part s.list 0)).toArray 24 (0, 0)) ∧ (wr.alloc (.cells Z 24)).heap[w.heap.size]? = some (.cells Z 24 (0, 0))) := by
        refine ⟨?_, heap_keep HG.out.1⟩
        have e : (cellsOf (part s.list 0)).toArray = Z := by rw [HZ.out]; rfl
        rw [e]
        exact heap_alloc_new wr _
      have hB3 : Below w.heap.size w (wr.alloc (.cells Z 24)) := hB.alloc (by omega) _
      clear HG HGs hB
      generalize wr.heap.size = gd at hgd HD0 ⊢
      generalize wr.alloc (.cells Z 24) = w4 at HD0 hB3 ⊢
      go_loopw [26] (fun v wd => ∃ i : Nat, i ≤ 8 ∧ v = .int .i64 i ∧ Hid (wd.heap[gd]? = some (.cells (cellsOf (part s.list i)).toArray 24 (0, 0)) ∧ wd.heap[w.heap.size]? = some (.cells Z 24 (0, 0))) ∧ Below w.heap.size w wd)
        (fun v _ => 8 - (intOf v).toNat)
      case atStart => exact ⟨0, by omega, rfl, HD0, hB3⟩
      case round =>
        clear HD0 hB3
        obtain ⟨i, hi, rfl, HD, hB⟩ := hrel
        by_cases hlt : i < 8
        · have hdi : decide ((i : Int) < 8) = true := by rw [decide_eq_true_eq]; omega
          obtain ⟨z, HZi⟩ : ∃ z, Hid (z = s.list[i]'hlt) := ⟨_, (rfl : s.list[i]'hlt = _)⟩
          have hz : 0 ≤ z ∧ z ≤ 4294967295 := by rw [HZi.out]; exact HOs.out _ (List.getElem_mem _)
          have hidx : ∀ w, (Instr.index 132 (.agg L) (.int .i64 i)).run Tryz.prog w = .ok (.int .u32 z) w := fun w =>
            run_index_agg w 132 131 8 L .i64 i _ .u32 Tryz.underlying132 Tryz.underlying131 hlt (by rw [HL.out, HZi.out]; simp [wcells_at s.list i hlt]) (by kernel_rfl)
          have hw4 := wrap_int (4 * (i : Int)) (by omega) (by omega)
          have HP : Hid (put4 (part s.list i) (4 * i) z = part s.list (i + 1)) := by
            show _ = _
            rw [HZi.out]
            exact part_put s.list i rfl hlt
          have HPL : Hid ((part s.list i).length = 32) := part_length s.list i rfl (by omega)
          have hsl := fun w => slice_from w gd i hlt
          go_wp2_with fail
          refine (putWord_any gd (4 * i) _ _ 24 (part s.list i) z wr (by omega) (by rw [HPL.out]; omega) hz.1 hz.2 HD.out.1).mono ?_
          rintro e w5 ⟨rfl, rfl⟩
          rw [HP.out]
          go_wp2
          go_roundw
          case rel => exact ⟨i + 1, by omega, by go_num, ⟨setRow_heap _ _ _ _ 24 _ HD.out.1, by rw [setRow_other _ _ _ _ (by omega)]; exact HD.out.2⟩, below_setRow hB (by omega) _⟩
          case measure => simp [intOf]; omega
        · obtain rfl : i = 8 := by omega
          obtain ⟨D, HDD, HSD, H1D, H32D⟩ := dig_row' (sumD (joinL ss)) (sumD_length _)
          have HZD : Hid (Z.size = D.size) := by show _ = _; rw [H32.out, H32D.out]
          have HDs : Hid (wr.heap[gd]? = some (.cells D 24 (0, 0))) := by
            show _ = _
            have := HD.out.1
            rw [part_all s.list rfl, ← HE.out] at this
            rw [HDD.out]
            exact this
          go_wp2_with (first
            | (refine wpList_load_row rfl 24 (.tmp 6) rfl gd rfl 24 D (0, 0) _ HDs.out Tryz.underlying24 rfl HSD.out ?_)
            | (refine wpList_store_row rfl 24 (.tmp 2) (.tmp 36) rfl w.heap.size D rfl rfl 24 Z HD.out.2 HSD.out HZD.out H1D.out ?_)
            | fail)
          refine bodyPost_ret (v := .agg D) ?_ rfl ⟨?_, ?_⟩
          · exact results_cell_row (p := 2) (ty := 24) rfl _ _ w.heap.size 24 D (0, 0) _ rfl (setRow_heap _ _ _ _ 24 _ HD.out.2) Tryz.underlying24 rfl HSD.out
          · rw [HDD.out]; rfl
          · exact below_setRow hB (Nat.le_refl _) _
theorem texts_new (w : World) (ss : List ByteArray) (t : TypeId) : Texts (w.alloc (.cells (ss.map Value.string).toArray t)) (some ⟨w.heap.size, 0, none⟩) ss.length ss := by
  refine ⟨rfl, .inr ⟨w.heap.size, 0, rfl, by simp, fun i hi => ?_⟩⟩
  rw [Nat.zero_add, cell_of_row _ _ i _ t (0, 0) (heap_alloc_new w _)]
  simp [List.getElem?_eq_getElem hi]
theorem of_new (ss : List ByteArray) (t : TypeId) (w : World) (ht : total ss ≤ 1000000) (hlen : ss.length ≤ 9223372036854775807) (hK : Table 1 w) (D : Array Value) (HD : Hid (D = (cellsOf (sumD (joinL ss))).toArray)) (n cap g : Nat) (hn : n = ss.length) (hg : g = w.heap.size)
    (cs : Array Value) (hcs : cs = (ss.map Value.string).toArray) :
    Calls Tryz.prog 93 #[.slice (some ⟨g, 0, none⟩) n cap] (w.alloc (.cells cs t)) fun e w' => e = .returned (.agg D) ∧ Below w.heap.size w w' := by
  subst hcs hn hg
  have h := of_any _ ss.length cap ss _ (texts_new w ss t) ht hlen (hK.keep ((Below.refl _ _).alloc (Nat.le_refl _) _))
  refine h.mono ?_
  rintro e w' ⟨he, hb⟩
  refine ⟨?_, ((Below.refl _ _).alloc (Nat.le_refl _) _).trans (hb.mono (by simp))⟩
  rw [he, HD.out]
  rfl
theorem of_none (w : World) (hK : Table 1 w) (D : Array Value) (HD : Hid (D = (cellsOf (sumD [])).toArray)) :
    Calls Tryz.prog 93 #[.slice none 0 0] w fun e w' => e = .returned (.agg D) ∧ Below w.heap.size w w' := by
  have h := of_any none 0 0 [] w ⟨rfl, .inl rfl⟩ (by decide) (by decide) hK
  rw [HD.out]
  exact h
set_option maxHeartbeats 1000000 in
theorem empty_any (w : World) (hK : Table 1 w) (D : Array Value) (HD : Hid (D = (cellsOf (sumD [])).toArray)) :
    Calls Tryz.prog 80 #[] w fun e w' => e = .returned (.agg D) ∧ Below w.heap.size w w' := by
  obtain ⟨Z, HZ, HA, HS, H1, H32⟩ := noughts27
  have HSD : Hid ((Tryz.prog.info? 24).map (·.size) = some D.size) := by show _ = _; rw [size23, HD.out]; simp [cellsOf_length, sumD_length]
  have H1D : Hid (D.all (·.oneCell') = true) := by show _ = _; rw [HD.out]; exact cellsOf_all _
  have HZD : Hid (Z.size = D.size) := by show _ = _; rw [H32.out, HD.out]; simp [cellsOf_length, sumD_length]
  have KO : Hid (∀ w1, Below w.heap.size w w1 → Calls Tryz.prog 93 #[.slice none 0 0] w1 fun e w' => e = .returned (.agg D) ∧ Below w1.heap.size w1 w') := fun w1 hb => of_none w1 (hK.keep hb) D HD
  clear hK
  go_enter Tryz.func80, Tryz.ntmps80
  go_wp2_with (first
    | (refine wpList_alloc_row rfl 24 rfl Z HA.out ?_)
    | fail)
  refine (KO.out _ ((Below.refl _ _).alloc (Nat.le_refl _) _)).mono ?_
  rintro e w1 ⟨rfl, hb1⟩
  have HG : Hid (w1.heap[w.heap.size]? = some (.cells Z 24 (0, 0))) := (hb1.block _ (by simp)).trans (heap_alloc_new w _)
  have hB : Below w.heap.size w w1 := ((Below.refl _ _).alloc (Nat.le_refl _) _).trans (hb1.mono (by simp))
  clear hb1
  go_wp2_with (first
    | (refine wpList_store_row rfl 24 (.tmp 0) (.tmp 1) rfl w.heap.size D rfl rfl 24 Z HG.out HSD.out HZD.out H1D.out ?_)
    | fail)
  refine bodyPost_ret (v := .agg D) ?_ rfl ⟨rfl, below_setRow hB (Nat.le_refl _) _⟩
  exact results_cell_row (p := 0) (ty := 24) rfl _ _ w.heap.size 24 D (0, 0) _ rfl (setRow_heap _ _ _ _ 24 _ HG.out) Tryz.underlying24 rfl HSD.out
set_option maxHeartbeats 1000000 in
theorem leaf_any (s : ByteArray) (w : World) (hs : s.size ≤ 999000) (hK : Table 1 w) (D : Array Value) (HD : Hid (D = (cellsOf (sumD (0 :: s.data.toList))).toArray)) :
    Calls Tryz.prog 70 #[.string s] w fun e w' => e = .returned (.agg D) ∧ Below w.heap.size w w' := by
  obtain ⟨Z, HZ, HA, HS, H1, H32⟩ := noughts27
  have HSD : Hid ((Tryz.prog.info? 24).map (·.size) = some D.size) := by show _ = _; rw [size23, HD.out]; simp [cellsOf_length, sumD_length]
  have H1D : Hid (D.all (·.oneCell') = true) := by show _ = _; rw [HD.out]; exact cellsOf_all _
  have HZD : Hid (Z.size = D.size) := by show _ = _; rw [H32.out, HD.out]; simp [cellsOf_length, sumD_length]
  have KO : Hid (∀ w1 g, g = w1.heap.size → Below w.heap.size w w1 → Calls Tryz.prog 93 #[.slice (some ⟨g, 0, none⟩) 2 2] (w1.alloc (.cells #[.string ⟨#[0]⟩, .string s] 9)) fun e w' => e = .returned (.agg D) ∧ Below w1.heap.size w1 w') := fun w1 g hg hb =>
    of_new [⟨#[0]⟩, s] 9 w1 (by show 1 + (s.size + 0) ≤ 1000000; omega) (by show 2 ≤ _; decide) (hK.keep hb) D (by show _ = _; rw [HD.out]; simp [joinL]) 2 2 g rfl hg _ rfl
  clear hK
  go_enter Tryz.func70, Tryz.ntmps70
  go_wp2_with (first
    | (refine wpList_alloc_row rfl 24 rfl Z HA.out ?_)
    | fail)
  refine (KO.out _ _ (by simp) ((Below.refl _ _).alloc (Nat.le_refl _) _)).mono ?_
  rintro e w1 ⟨rfl, hb1⟩
  have HG : Hid (w1.heap[w.heap.size]? = some (.cells Z 24 (0, 0))) := (hb1.block _ (by simp)).trans (heap_alloc_new w _)
  have hB : Below w.heap.size w w1 := ((Below.refl _ _).alloc (Nat.le_refl _) _).trans (hb1.mono (by simp))
  clear hb1
  go_wp2_with (first
    | (refine wpList_store_row rfl 24 (.tmp 2) (.tmp 5) rfl w.heap.size D rfl rfl 24 Z HG.out HSD.out HZD.out H1D.out ?_)
    | fail)
  refine bodyPost_ret (v := .agg D) ?_ rfl ⟨rfl, below_setRow hB (Nat.le_refl _) _⟩
  exact results_cell_row (p := 2) (ty := 24) rfl _ _ w.heap.size 24 D (0, 0) _ rfl (setRow_heap _ _ _ _ 24 _ HG.out) Tryz.underlying24 rfl HSD.out
theorem range_keep {W W' : World} {g o : Nat} {l : List Value} (hb : Below W.heap.size W W') (h : W.rangeAt g o l) : W'.rangeAt g o l := fun j v hj => by
  have hc := h j v hj
  rw [hb.cell (World.block_lt_of_cell? _ _ hc)]
  exact hc
theorem range_row {W : World} {g : Nat} {l : List Value} {t : TypeId} {fr : Nat × Nat} (h : W.heap[g]? = some (.cells l.toArray t fr)) : W.rangeAt g 0 l := fun j v hj => by
  rw [Nat.zero_add, cell_of_row W g j _ t fr h]
  simpa using hj
theorem range_other {W : World} {g g' o : Nat} {l : List Value} {cs : Array Value} (h : W.rangeAt g o l) (hne : g ≠ g') : (W.setRow g' cs).rangeAt g o l := fun j v hj => by
  rw [cell_setRow_other W g' cs _ hne]
  exact h j v hj
theorem conv_dig (W : World) (g : Nat) (l : List UInt8) (hl : l.length = 32) (h : W.rangeAt g 0 (cellsOf l)) : Sem.run Tryz.prog (convert 69 9 (.slice (some ⟨g, 0, none⟩) 32 32)) W = .ok (.string ⟨l.toArray⟩) W := by
  have := run_convert_bytes_back (P := Tryz.prog) W 69 9 5 ⟨g, 0, none⟩ 32 l Tryz.underlying69 Tryz.underlying5 Tryz.underlying9 (fun j hj => by
    rw [add_plain]
    exact h j _ (cellsOf_at l j hj))
  rw [hl] at this
  exact this
theorem keep2 {w W W' : World} {g0 g1 : Nat} {A B : List Value} (hb : Below W.heap.size W W') (h : W.rangeAt g0 0 A ∧ W.rangeAt g1 0 B ∧ Below w.heap.size w W) :
    W'.rangeAt g0 0 A ∧ W'.rangeAt g1 0 B ∧ Below w.heap.size w W' :=
  ⟨range_keep hb h.1, range_keep hb h.2.1, h.2.2.trans (hb.mono h.2.2.size)⟩
set_option maxHeartbeats 1000000 in
theorem knot_any (l r : List UInt8) (hl : l.length = 32) (hr : r.length = 32) (w : World) (hK : Table 1 w) (D : Array Value) (HD : Hid (D = (cellsOf (sumD (1 :: (l ++ r)))).toArray)) :
    Calls Tryz.prog 81 #[.agg (cellsOf l).toArray, .agg (cellsOf r).toArray] w fun e w' => e = .returned (.agg D) ∧ Below w.heap.size w w' := by
  obtain ⟨Z, HZ, HA, HS, H1, H32⟩ := noughts27
  have HSD : Hid ((Tryz.prog.info? 24).map (·.size) = some D.size) := by show _ = _; rw [size23, HD.out]; simp [cellsOf_length, sumD_length]
  have H1D : Hid (D.all (·.oneCell') = true) := by show _ = _; rw [HD.out]; exact cellsOf_all _
  have HZD : Hid (Z.size = D.size) := by show _ = _; rw [H32.out, HD.out]; simp [cellsOf_length, sumD_length]
  obtain ⟨x, HX⟩ : ∃ x : ByteArray, Hid (x = ⟨l.toArray⟩) := ⟨_, (rfl : (⟨l.toArray⟩ : ByteArray) = _)⟩
  obtain ⟨y, HY⟩ : ∃ y : ByteArray, Hid (y = ⟨r.toArray⟩) := ⟨_, (rfl : (⟨r.toArray⟩ : ByteArray) = _)⟩
  obtain ⟨A, HAL⟩ : ∃ A, Hid (A = cellsOf l) := ⟨_, (rfl : cellsOf l = _)⟩
  obtain ⟨B, HBR⟩ : ∃ B, Hid (B = cellsOf r) := ⟨_, (rfl : cellsOf r = _)⟩
  have KO : Hid (∀ w1 g, g = w1.heap.size → Below w.heap.size w w1 → Calls Tryz.prog 93 #[.slice (some ⟨g, 0, none⟩) 3 3] (w1.alloc (.cells #[.string ⟨#[1]⟩, .string x, .string y] 9)) fun e w' => e = .returned (.agg D) ∧ Below w1.heap.size w1 w') := fun w1 g hg hb =>
    of_new [⟨#[1]⟩, x, y] 9 w1 (by rw [HX.out, HY.out]; show 1 + (l.toArray.size + (r.toArray.size + 0)) ≤ 1000000; simp [hl, hr]) (by show 3 ≤ _; decide) (hK.keep hb) D (by show _ = _; rw [HD.out, HX.out, HY.out]; simp [joinL]) 3 3 g rfl hg _ rfl
  have c0 : ∀ W, W.rangeAt w.heap.size 0 A → Sem.run Tryz.prog (convert 69 9 (.slice (some ⟨w.heap.size, 0, none⟩) 32 32)) W = .ok (.string x) W := fun W h => by
    rw [HX.out]; exact conv_dig W _ l hl (by rw [← HAL.out]; exact h)
  have c1 : ∀ W, W.rangeAt (w.heap.size + 1) 0 B → Sem.run Tryz.prog (convert 69 9 (.slice (some ⟨w.heap.size + 1, 0, none⟩) 32 32)) W = .ok (.string y) W := fun W h => by
    rw [HY.out]; exact conv_dig W _ r hr (by rw [← HBR.out]; exact h)
  have s0 := fun W => slice_all W w.heap.size
  have s1 := fun W => slice_all W (w.heap.size + 1)
  rw [← HAL.out, ← HBR.out]
  clear hK
  go_enter Tryz.func81, Tryz.ntmps81
  go_wp2_with (first
    | (refine wpList_alloc_row rfl 24 rfl Z HA.out ?_)
    | fail)
  obtain ⟨w0, hw0⟩ : ∃ w0, w0 = ((w.alloc (.cells A.toArray 24)).alloc (.cells B.toArray 24)).alloc (.cells Z 24) := ⟨_, rfl⟩
  have hS : w0.rangeAt w.heap.size 0 A ∧ w0.rangeAt (w.heap.size + 1) 0 B ∧ Below w.heap.size w w0 := by
    rw [hw0]
    exact ⟨range_row (heap_keep (heap_alloc2_old w _ _)), range_row (heap_keep (heap_alloc2_new w _ _)), (((Below.refl _ _).alloc (Nat.le_refl _) _).alloc (by simp) _).alloc (by simp; omega) _⟩
  have HG0 : Hid (w0.heap[w.heap.size + 2]? = some (.cells Z 24 (0, 0))) := by
    show _ = _
    rw [hw0]
    have := heap_alloc_new ((w.alloc (.cells A.toArray 24)).alloc (.cells B.toArray 24)) (.cells Z 24)
    simpa using this
  rw [← hw0]
  clear hw0
  refine wp_region_held_drew (S := (fun W => W.rangeAt w.heap.size 0 A ∧ W.rangeAt (w.heap.size + 1) 0 B ∧ Below w.heap.size w W)) (by kernel_rfl) (keep2 (Below.refl _ _).drew hS) (fun hHeld => ?_)
  refine zW 0 (.slice (some ⟨w.heap.size, 0, none⟩) 32 32) rfl (Or.inl ⟨by rfl, by intro w hSw; go_simp⟩) hHeld ?_
  try simp only [Act.put, pS1, pS2, pS3]
  refine zW 1 (.string x) rfl (Or.inl ⟨by rfl, by intro W hSw; have := c0 W hSw.1; go_simp⟩) hHeld ?_
  try simp only [Act.put, pS1, pS2, pS3]
  refine zW 2 (.slice (some ⟨w.heap.size + 1, 0, none⟩) 32 32) rfl (Or.inl ⟨by rfl, by intro w hSw; go_simp⟩) hHeld ?_
  try simp only [Act.put, pS1, pS2, pS3]
  refine zW 3 (.string y) rfl (Or.inl ⟨by rfl, by intro W hSw; have := c1 W hSw.2.1; go_simp⟩) hHeld ?_
  try simp only [Act.put, pS1, pS2, pS3]
  refine wpAnyH_ready (rs := [4]) (by kernel_rfl) (by simp) ?_
  refine AllReadyH.cons (o := { dst := some 9, op := .buildSlice 153 3 #[(0, .const (.string { data := #[1] })), (1, .tmp 6), (2, .tmp 8)], type := 153, pos := "sha.go:50", after := #[zD 1, zD 3], guard := none }) rfl (fun K hK => ?_) AllReadyH.nil
  go_simp
  refine hK.out _ _ (keep2 ((Below.refl _ _).alloc (Nat.le_refl _) _) hHeld) (fun hHeld => ?_)
  clear hK K
  try simp only [Act.put, pS1, pS2, pS3]
  refine wpAnyH_ready (rs := [5]) (by kernel_rfl) (by simp) ?_
  refine AllReadyH.cons (o := { dst := some 10, op := .call { callee := .value (.func 93), args := #[.tmp 9], argTypes := #[153] }, type := 24, pos := "sha.go:50", after := #[zD 4], guard := none }) rfl (fun K hK => ?_) AllReadyH.nil
  go_simp
  refine (KO.out _ _ rfl hS.2.2.drew).mono ?_
  rintro e w1 ⟨rfl, hb1⟩
  go_wp2_with fail
  refine hK.out _ _ (keep2 (Below.trans (Below.refl _ _).drew hb1) hS) (fun hHeld => ?_)
  clear hK K
  try simp only [Act.put, pS1, pS2, pS3]
  have HG1 : Hid (w1.heap[w.heap.size + 2]? = some (.cells Z 24 (0, 0))) := (hb1.block _ (heap_lt HG0.out)).trans HG0.out
  refine wpAnyH_ready (rs := [6]) (by kernel_rfl) (by simp) ?_
  refine AllReadyH.cons (o := { dst := none, op := .store 24 (.tmp 4) (.tmp 10), type := 0, pos := "sha.go:50", after := #[zD 5, zC 5, zP 0, zP 1, zP 2, zP 3, zP 4, zP 5], guard := none }) rfl (fun K hK => ?_) AllReadyH.nil
  refine step_store_row (by rfl) 24 (.tmp 4) (.tmp 10) rfl (w.heap.size + 2) D rfl rfl 24 Z HG1.out HSD.out HZD.out H1D.out ?_
  refine hK.out _ _ ⟨range_other hHeld.1 (by omega), range_other hHeld.2.1 (by omega), below_setRow hHeld.2.2 (by omega) _⟩ (fun hHeld => ?_)
  clear hK K
  try simp only [Act.put, pS1, pS2, pS3]
  refine wpAnyH_done (by kernel_rfl) ?_ _
  go_wp2
  refine bodyPost_ret (v := .agg D) ?_ rfl ⟨rfl, hHeld.2.2⟩
  exact results_cell_row (p := 4) (ty := 24) rfl _ _ (w.heap.size + 2) 24 D (0, 0) _ rfl (setRow_heap _ _ _ _ 24 _ HG1.out) Tryz.underlying24 rfl HSD.out
end Go.Proofs.YtkmedlfbkddmoaaGreatDoor
/- Digests held against one another; sums of texts that lie somewhere. -/
namespace Go.Proofs.YtkmedlfbkddmoaaGreatDoor
open Go.RowKit Sums
set_option maxRecDepth 100000
set_option linter.unusedVariables false
theorem hidk {p : Prop} (h : p) : Hid p := h
theorem sizeOf5 (w : World) : (sizeOf 5).run Tryz.prog w = .ok 1 w := by
  cases hq : Tryz.prog.info? 5 with
  | none => have := size5; simp [hq] at this
  | some i => have := size5; simp [hq] at this; simp [sizeOf, typeInfo, hq, this]
theorem eqDig (xs ys : List UInt8) (hx : xs.length = 32) (hy : ys.length = 32) (w : World) : (binOp .eql 24 (.agg (cellsOf xs).toArray) (.agg (cellsOf ys).toArray)).run Tryz.prog w = .ok (.bool (xs == ys)) w :=
  run_eql_bytes w 24 5 32 Tryz.underlying24 Tryz.underlying5 sizeOf5 xs ys hx hy
theorem of_lies (ss : List ByteArray) (ht : total ss ≤ 1000000) (hlen : ss.length ≤ 9223372036854775807) (D : Array Value) (HD : Hid (D = (cellsOf (sumD (joinL ss))).toArray)) (W : World) (a : Option Addr) (n cap : Nat)
    (hT : Texts W a n ss) (hK : Table 1 W) :
    Calls Tryz.prog 93 #[.slice a n cap] W fun e w' => e = .returned (.agg D) ∧ Below W.heap.size W w' := by
  have h := of_any _ n cap ss W hT ht (by rw [← hT.1]; exact hlen) hK
  rw [HD.out]
  exact h
end Go.Proofs.YtkmedlfbkddmoaaGreatDoor
/- What the document's Sum answers: the sum of a text. -/
namespace Go.Proofs.YtkmedlfbkddmoaaGreatDoor
open Go.RowKit Sums
set_option maxRecDepth 100000
set_option linter.unusedVariables false
set_option linter.unusedSimpArgs false
def dpart (l : List UInt8) (i : Nat) : List UInt8 := l.take i ++ List.replicate (32 - i) 0
theorem dpart_length (l : List UInt8) (i : Nat) (hl : l.length = 32) (hi : i ≤ 32) : (dpart l i).length = 32 := by simp [dpart]; omega
theorem dpart_set (l : List UInt8) (i : Nat) (hl : l.length = 32) (hi : i < 32) (b : UInt8) (hb : l[i]? = some b) : (dpart l i).set i b = dpart l (i + 1) := by
  unfold dpart
  rw [List.set_append, if_neg (by simp; omega), List.length_take, show i - min i l.length = 0 by omega, List.take_add_one, hb, show 32 - i = (32 - (i + 1)) + 1 by omega, List.replicate_succ, List.set_cons_zero]
  simp only [Option.toList_some, List.append_assoc, List.cons_append, List.nil_append]
theorem dpart_all (l : List UInt8) (hl : l.length = 32) : dpart l 32 = l := by
  unfold dpart
  rw [List.take_of_length_le (by omega)]
  simp
theorem flat4_at (l : List Int) (q r : Nat) (hq : q < l.length) (hr : r < 4) : (l.flatMap bytes4)[4 * q + r]? = (bytes4 l[q])[r]? := by
  induction l generalizing q with
  | nil => simp at hq
  | cons z l ih =>
    rw [List.flatMap_cons]
    cases q with
    | zero =>
      rw [List.getElem?_append_left (by show _ < 4; omega)]
      simp
    | succ q =>
      rw [List.getElem?_append_right (by show 4 ≤ _; omega), show 4 * (q + 1) + r - (bytes4 z).length = 4 * q + r by show 4 * (q + 1) + r - 4 = _; omega, ih q (by simpa using hq)]
      simp
theorem idxD (W : World) (g j : Nat) (z : Int) (hz : z = j) (hj : j < 32) : (Instr.indexAt 24 (.pointer (some ⟨g, 0, none⟩)) (.int .i64 z)).run Tryz.prog W = .ok (.pointer (some ⟨g, j, none⟩)) W := by
  subst hz
  have hs : ∀ w, (sizeOf 5).run Tryz.prog w = .ok 1 w := by
    intro w
    have hq : (Tryz.prog.info? 5).map (·.size) = some 1 := by kernel_rfl
    cases h : Tryz.prog.info? 5 with
    | none => simp [h] at hq
    | some i => simp [h] at hq; simp [sizeOf, typeInfo, h, hq]
  simp [Instr.indexAt, run_underlying Tryz.underlying24, Instr.sureAddr, asIntOf, hj, hs, add_plain]
set_option maxHeartbeats 4000000 in
set_option maxRecDepth 100000 in
theorem refSum_any (x : ByteArray) (w : World) (hx : x.size ≤ 1000000) (hK : Table 0 w) (D : Array Value) (HDD : Hid (D = (cellsOf (sumD x.data.toList)).toArray)) :
    Calls Tryz.prog 60 #[.string x] w fun e w' => e = .returned (.agg D) ∧ Below w.heap.size w w' := by
  obtain ⟨Z, HZ, HA, HS, H1, H32⟩ := noughts27
  obtain ⟨Z8, HA8, HS8, H8⟩ := noughts38
  have HSF : Hid ((Tryz.prog.info? 132).map (·.size) = some (wcells first.list).toArray.size) := size38
  have HZF : Hid (Z8.size = (wcells first.list).toArray.size) := H8.out
  have H1F : Hid ((wcells first.list).toArray.all (·.oneCell') = true) := wcells_all _
  obtain ⟨l, HL⟩ : ∃ l, Hid (l = x.data.toList) := ⟨_, (rfl : x.data.toList = _)⟩
  have hll : l.length = x.size := by rw [HL.out]; rfl
  have HM : Hid (∀ w1, Calls Tryz.prog 90 #[.string x] w1 fun e w' => ∃ v', e = .returned v' ∧ w'.ownsRow w1.heap.size 5 1 v' (64 * nBlocks x.size) (cellsOf (pad l)) ∧ Below w1.heap.size w1 w') := fun w1 => by
    rw [HL.out]; exact refMessage_any x w1 hx
  have HTB : Hid (Table 0 w) := hK
  clear hK
  rw [← HL.out] at HDD
  go_enter Tryz.func60, Tryz.ntmps60
  go_wp2_with (first
    | (refine wpList_alloc_row rfl 24 rfl Z HA.out ?_)
    | (refine wpList_alloc_row rfl 132 rfl Z8 HA8.out ?_)
    | (refine wpList_store_row rfl 132 (.tmp 3) (.tmp 8) rfl (w.alloc (.cells Z 24)).heap.size (wcells first.list).toArray rfl (by rfl) 132 Z8 (heap_alloc_new (w.alloc (.cells Z 24)) _) HSF.out HZF.out H1F.out ?_)
    | fail)
  have hB0 : Below w.heap.size w (((w.alloc (.cells Z 24)).alloc (.cells Z8 132)).setRow (w.heap.size + 1) (wcells first.list).toArray) := below_setRow (((Below.refl _ _).alloc (Nat.le_refl _) _).alloc (by simp) _) (by omega) _
  refine (HM.out _).mono ?_
  rintro e w1 ⟨v1, rfl, hown, hb1⟩
  obtain ⟨N, HN⟩ : ∃ N, Hid (N = nBlocks x.size) := ⟨_, (rfl : nBlocks x.size = _)⟩
  rw [← HN.out] at hown
  have hN : N ≤ 20000 ∧ 1 ≤ N := by have := HN.out; unfold nBlocks at *; omega
  obtain ⟨g, cap, cur, rfl, hgs, hg, hcap, hcm, htake⟩ : ∃ g cap cur, v1 = .slice (some ⟨g, 0, none⟩) (64 * N) cap ∧ w.heap.size + 2 ≤ g ∧ w1.heap[g]? = some (.cells cur 5 (0, 0)) ∧ 64 * N ≤ cap ∧ cap ≤ maxLen ∧ cur.toList.take (64 * N) = cellsOf (pad l) := by
    rcases hown.2 with ⟨_, h0⟩ | ⟨g, cap, cur, hv, hb, hg, hn, hm, _, ht⟩
    · omega
    · refine ⟨g, cap, cur, hv, ?_, hg, hn, hm, by simpa using ht⟩
      simp only [setRow_size, World.size_alloc] at hb
      omega
  unfold maxLen at hcm
  have HG0 : Hid (w1.heap[w.heap.size]? = some (.cells Z 24 (0, 0)) ∧ w1.heap[w.heap.size + 1]? = some (.cells (wcells (blocks first (pad l) 0).list).toArray 132 (0, 0)) ∧ w1.heap[g]? = some (.cells cur 5 (0, 0))) := by
    refine ⟨?_, ?_, hg⟩
    · rw [hb1.block _ (by simp only [setRow_size, World.size_alloc]; omega), setRow_other _ _ _ _ (by omega)]; exact heap_alloc2_old w _ _
    · rw [hb1.block _ (by simp only [setRow_size, World.size_alloc]; omega)]; exact setRow_heap _ _ _ _ 132 _ (heap_alloc2_new w _ _)
  have HTK : Hid (cur.toList.take (64 * N) = cellsOf (pad l)) := htake
  have hB1 : Below w.heap.size w w1 := hB0.trans (hb1.mono (by simp only [setRow_size, World.size_alloc]; omega))
  clear hg hb1 hB0 HM hown htake
  go_wp2
  go_loopw [5] (fun v wr => ∃ k : Nat, k ≤ N ∧ v = .int .i64 (64 * (k : Int)) ∧ Hid (wr.heap[w.heap.size]? = some (.cells Z 24 (0, 0)) ∧ wr.heap[w.heap.size + 1]? = some (.cells (wcells (blocks first (pad l) k).list).toArray 132 (0, 0)) ∧
      wr.heap[g]? = some (.cells cur 5 (0, 0))) ∧ Below w.heap.size w wr)
    (fun v _ => 64 * N - (intOf v).toNat)
  case atStart => exact ⟨0, by omega, rfl, HG0, hB1⟩
  case round =>
    clear HG0 hB1
    obtain ⟨k, hk, rfl, HG, hB⟩ := hrel
    by_cases hlt : k < N
    · have hdi : decide ((64 : Int) * (k : Int) < 64 * (N : Int)) = true := by rw [decide_eq_true_eq]; omega
      have hw64 := wrap_int (64 * (k : Int) + 64) (by omega) (by omega)
      obtain ⟨m, HM⟩ : ∃ m, Hid (m = pad l) := ⟨_, (rfl : pad l = _)⟩
      have HML : Hid (m.length = 64 * N) := by show _ = _; rw [HM.out, pad_length, hll, HN.out]
      obtain ⟨s, HSt⟩ : ∃ s, Hid (s = blocks first (pad l) k) := ⟨_, (rfl : blocks first (pad l) k = _)⟩
      obtain ⟨L, HLs, HSL, H1L, H8L⟩ := words_row s.list 132 8 rfl size38
      obtain ⟨L2, HL2, HSL2, H1L2, H8L2⟩ := words_row (block s ((m.drop (64 * k)).take 64)).list 132 8 rfl size38
      have HLL : Hid (L.size = L2.size) := by show _ = _; rw [H8L.out, H8L2.out]
      have HGs : Hid (wr.heap[w.heap.size + 1]? = some (.cells L 132 (0, 0))) := by show _ = _; rw [HLs.out, HSt.out]; exact HG.out.2.1
      have HKM : Hid (∀ w2, Below wr.heap.size wr w2 → Calls Tryz.prog 91 #[.agg L, .slice (some ⟨g, 64 * k, none⟩) 64 (cap - 64 * k)] w2 fun e w' => e = .returned (.agg L2) ∧ Below w2.heap.size w2 w') := by
        intro w2 hb2
        rw [HLs.out, HL2.out]
        have hgr := heap_lt HG.out.2.2
        have hly : Lies wr g 0 m := fun i hi => by
          have hi' : i < 64 * N := by rw [← HML.out]; exact hi
          rw [Nat.zero_add, cell_of_row wr g i _ 5 (0, 0) HG.out.2.2]
          have h1 : (cur.toList.take (64 * N))[i]? = some (.int .u8 m[i].toNat) := by rw [HTK.out, ← HM.out]; exact cellsOf_at m i hi
          rw [List.getElem?_take_of_lt hi'] at h1
          rw [← Array.getElem?_toList]
          exact h1
        have hl2 : Lies w2 g (0 + 64 * k) ((m.drop (64 * k)).take 64) := ((hly.keep hb2 hgr).drop (64 * k)).take 64
        rw [Nat.zero_add] at hl2
        have hlen2 : ((m.drop (64 * k)).take 64).length = 64 := by
          have := HML.out
          simp; omega
        exact refBlock_any s g (64 * k) (cap - 64 * k) _ w2 (by rw [HSt.out]; exact blocks_ok _ _ _ first_ok) hlen2 (by omega) (by omega) (Nat.lt_of_lt_of_le hgr hb2.size) hl2 ((HTB.out.keep hB).keep hb2)
      have hb0 : (0 : Int) ≤ 64 * (k : Int) := by omega
      have hb1 : 64 * (k : Int) ≤ 64 * (k : Int) + 64 := by omega
      have hb2 : 64 * (k : Int) + 64 ≤ (cap : Int) := by omega
      go_wp2
      refine wp_region_held_drew (S := (fun _ => True)) (by kernel_rfl) trivial (fun hHeld => ?_)
      refine zW 1 (.slice (some ⟨g, 0, none⟩) (64 * N) cap) rfl (Or.inl ⟨by rfl, by intro w hSw; go_simp⟩) hHeld ?_
      try simp only [Act.put, pS1, pS2, pS3]
      refine zW 2 (.int .i64 (64 * (k : Int))) rfl (Or.inl ⟨by rfl, by intro w hSw; go_simp⟩) hHeld ?_
      try simp only [Act.put, pS1, pS2, pS3]
      refine zW 3 (.int .i64 (64 * (k : Int))) rfl (Or.inl ⟨by rfl, by intro w hSw; go_simp⟩) hHeld ?_
      try simp only [Act.put, pS1, pS2, pS3]
      refine zW 4 (.int .i64 (64 * (k : Int) + 64)) rfl (Or.inl ⟨by rfl, by intro w hSw; go_simp⟩) hHeld ?_
      try simp only [Act.put, pS1, pS2, pS3]
      refine zW 5 (.slice (some ⟨g, 64 * k, none⟩) 64 (cap - 64 * k)) rfl (Or.inl ⟨by rfl, by intro W hSw; go_simp; rw [show (64 * (k : Int)).toNat = 64 * k by omega, if_neg (by omega)]; exact ⟨rfl, by omega, rfl⟩⟩) hHeld ?_
      try simp only [Act.put, pS1, pS2, pS3]
      refine wpAnyH_ready (rs := [0]) (by kernel_rfl) (by simp) ?_
      refine AllReadyH.cons (o := { dst := some 17, op := .load 132 (.tmp 3), type := 132, pos := "ref.go:72", after := #[], guard := none }) rfl (fun K hK => ?_) AllReadyH.nil
      refine step_load_row (by rfl) 132 (.tmp 3) rfl (w.heap.size + 1) rfl 132 L (0, 0) _ HGs.out Tryz.underlying132 rfl HSL.out ?_
      refine hK.out _ _ trivial (fun hHeld => ?_)
      clear hK K
      try simp only [Act.put, pS1, pS2, pS3]
      refine wpAnyH_ready (rs := [6]) (by kernel_rfl) (by simp) ?_
      refine AllReadyH.cons (o := { dst := some 23, op := .call { callee := .value (.func 91), args := #[.tmp 17, .tmp 22], argTypes := #[132, 69] }, type := 132, pos := "ref.go:72", after := #[zD 0, zD 5], guard := none }) rfl (fun K hK => ?_) AllReadyH.nil
      go_simp
      refine (HKM.out _ (Below.refl _ _).drew).mono ?_
      rintro e w3 ⟨rfl, hb3⟩
      have HG3 : Hid (w3.heap[w.heap.size + 1]? = some (.cells L 132 (0, 0))) := (hb3.block _ (heap_lt HGs.out)).trans HGs.out
      go_wp2_with fail
      refine hK.out _ _ trivial (fun hHeld => ?_)
      clear hK K
      try simp only [Act.put, pS1, pS2, pS3]
      refine wpAnyH_ready (rs := [7]) (by kernel_rfl) (by simp) ?_
      refine AllReadyH.cons (o := { dst := none, op := .store 132 (.tmp 3) (.tmp 23), type := 0, pos := "ref.go:72", after := #[zD 6, zC 6, zP 0, zP 1, zP 2, zP 3, zP 4, zP 5, zP 6], guard := none }) rfl (fun K hK => ?_) AllReadyH.nil
      refine step_store_row (by rfl) 132 (.tmp 3) (.tmp 23) rfl (w.heap.size + 1) L2 rfl rfl 132 L HG3.out HSL2.out HLL.out H1L2.out ?_
      refine hK.out _ _ trivial (fun hHeld => ?_)
      clear hK K
      try simp only [Act.put, pS1, pS2, pS3]
      refine wpAnyH_done (by kernel_rfl) ?_ _
      have HN2 : Hid ((wcells (blocks first (pad l) (k + 1)).list).toArray = L2) := by
        show _ = _
        rw [HL2.out, HM.out]
        unfold blocks
        rw [← HSt.out]
      go_wp2
      go_roundw
      case rel =>
        refine ⟨k + 1, by omega, by go_num, ⟨?_, ?_, ?_⟩, below_setRow (hB.trans (((Below.refl _ _).drew.trans hb3).mono hB.size)) (by omega) _⟩
        · rw [setRow_other _ _ _ _ (by omega), hb3.block _ (heap_lt HG.out.1)]; exact HG.out.1
        · rw [HN2.out]; exact setRow_heap _ _ _ _ 132 _ HG3.out
        · rw [setRow_other _ _ _ _ (by omega), hb3.block _ (heap_lt HG.out.2.2)]; exact HG.out.2.2
      case measure => simp [intOf]; omega
    · obtain rfl : N = k := by omega
      obtain ⟨s, HSt⟩ : ∃ s, Hid (s = blocks first (pad l) N) := ⟨_, (rfl : blocks first (pad l) N = _)⟩
      have HGs : Hid (wr.heap[w.heap.size + 1]? = some (.cells (wcells s.list).toArray 132 (0, 0))) := by show _ = _; rw [HSt.out]; exact HG.out.2.1
      have HOs : Hid (OkSt s) := by show OkSt _; rw [HSt.out]; exact blocks_ok _ _ _ first_ok
      have HE : Hid (sumD l = s.list.flatMap bytes4) := by
        show _ = _
        unfold sumD endOf
        rw [hll, ← HN.out, ← HSt.out]
      have HSL : Hid ((sumD l).length = 32) := sumD_length _
      go_wp2_with (first
        | (refine wpList_alloc_row rfl 24 rfl Z HA.out ?_)
        | fail)
      have hgd : w.heap.size + 2 ≤ wr.heap.size := by have := heap_lt HG.out.2.2; omega
      have HD0 : Hid ((wr.alloc (.cells Z 24)).heap[wr.heap.size]? = some (.cells (cellsOf (dpart (sumD l) 0)).toArray 24 (0, 0)) ∧ (wr.alloc (.cells Z 24)).heap[w.heap.size]? = some (.cells Z 24 (0, 0)) ∧
          (wr.alloc (.cells Z 24)).heap[w.heap.size + 1]? = some (.cells (wcells s.list).toArray 132 (0, 0))) := by
        refine ⟨?_, heap_keep HG.out.1, heap_keep HGs.out⟩
        have e : (cellsOf (dpart (sumD l) 0)).toArray = Z := by rw [HZ.out]; rfl
        rw [e]
        exact heap_alloc_new wr _
      have hB3 : Below w.heap.size w (wr.alloc (.cells Z 24)) := hB.alloc (by omega) _
      clear HG HGs hB HTK
      generalize wr.heap.size = gd at hgd HD0 ⊢
      generalize wr.alloc (.cells Z 24) = w4 at HD0 hB3 ⊢
      go_loopw [7] (fun v wd => ∃ i : Nat, i ≤ 32 ∧ v = .int .i64 i ∧ Hid (wd.heap[gd]? = some (.cells (cellsOf (dpart (sumD l) i)).toArray 24 (0, 0)) ∧ wd.heap[w.heap.size]? = some (.cells Z 24 (0, 0)) ∧
          wd.heap[w.heap.size + 1]? = some (.cells (wcells s.list).toArray 132 (0, 0))) ∧ Below w.heap.size w wd)
        (fun v _ => 32 - (intOf v).toNat)
      case atStart => exact ⟨0, by omega, rfl, HD0, hB3⟩
      case round =>
        clear HD0 hB3
        obtain ⟨i, hi, rfl, HD, hB⟩ := hrel
        by_cases hlt : i < 32
        · have hdi : decide ((i : Int) < 32) = true := by rw [decide_eq_true_eq]; omega
          obtain ⟨q, r, hr, rfl⟩ : ∃ q r, r < 4 ∧ i = 4 * q + r := ⟨i / 4, i % 4, by omega, by omega⟩
          have hq : q < 8 := by omega
          obtain ⟨y, HY⟩ : ∃ y, Hid (y = s.list[q]'(by rw [list_length]; exact hq)) := ⟨_, (rfl : s.list[q]'(by rw [list_length]; exact hq) = _)⟩
          have hy : 0 ≤ y ∧ y ≤ 4294967295 := by rw [HY.out]; exact HOs.out _ (List.getElem_mem _)
          have cy : wr.cell? ⟨w.heap.size + 1, q, none⟩ = some (.int .u32 y) := by
            rw [wrow_cell HD.out.2.2 q (by rw [list_length]; exact hq), HY.out]
          have HBy : Hid ((sumD l)[4 * q + r]? = (bytes4 y)[r]?) := by show _ = _; rw [HE.out, flat4_at s.list q r (by rw [list_length]; exact hq) hr, HY.out]
          have HPL : Hid ((dpart (sumD l) (4 * q + r)).length = 32) := dpart_length _ _ HSL.out (by omega)
          have hcell : wr.cell? ⟨gd, 4 * q + r, none⟩ = some (.int .u8 (((dpart (sumD l) (4 * q + r))[4 * q + r]'(by rw [HPL.out]; exact hlt)).toNat : Int)) := by
            rw [cell_of_row wr _ _ _ 24 (0, 0) HD.out.1]; simp [cellsOf_at _ (4 * q + r) (show 4 * q + r < (dpart (sumD l) (4 * q + r)).length by rw [HPL.out]; exact hlt)]
          have hfz : wr.frozen? ⟨gd, 4 * q + r, none⟩ = false := frozen_of_row wr _ _ _ 24 HD.out.1
          have ia := fun W => idxE W (w.heap.size + 1) q (q : Int) rfl hq
          have ib := fun W => idxD W gd (4 * q + r) ((4 * q + r : Nat) : Int) rfl hlt
          have hdq : ((4 * q + r : Nat) : Int) / 4 = (q : Int) := by omega
          have hdr : ((4 * q + r : Nat) : Int) % 4 = (r : Int) := by omega
          have hdq' : ((4 * q + r : Nat) : Int).tdiv 4 = (q : Int) := by rw [Int.tdiv_eq_ediv_of_nonneg (by omega)]; omega
          have hdr' : ((4 * q + r : Nat) : Int).tmod 4 = (r : Int) := by rw [Int.tmod_eq_emod_of_nonneg (by omega)]; omega
          obtain ⟨iz, HIZ⟩ : ∃ iz : Int, Hid (iz = ((4 * q + r : Nat) : Int)) := ⟨_, (rfl : ((4 * q + r : Nat) : Int) = _)⟩
          rw [← HIZ.out] at hdq hdr hdq' hdr' ib hdi ⊢
          have hizb : 0 ≤ iz ∧ iz ≤ 31 := by rw [HIZ.out]; omega
          have hr4 : r = 0 ∨ r = 1 ∨ r = 2 ∨ r = 3 := by omega
          rcases hr4 with rfl | rfl | rfl | rfl
          · simp only [Int.cast_ofNat_Int] at hdr hdr'
            simp only [Nat.add_zero] at hcell hfz ib HD HBy HIZ
            have HV : Hid ((UInt8.ofNat (y / 16777216).toNat).toNat = (y / 16777216 : Int)) := by show _ = _; rw [UInt8.toNat_ofNat']; omega
            have HN : Hid ((dpart (sumD l) (4 * q)).set (4 * q) (UInt8.ofNat (y / 16777216).toNat) = dpart (sumD l) (4 * q + 1)) := dpart_set _ _ HSL.out (by omega) _ HBy.out
            go_wp2
            go_roundw
            case rel =>
              refine ⟨4 * q + 1, by omega, by rw [HIZ.out]; go_num, ⟨?_, ?_, ?_⟩, hB.setCell (by simp; omega) _⟩
              · rw [← HV.out, row_set HD.out.1, ← HN.out]
                exact setRow_heap _ _ _ _ 24 _ HD.out.1
              · rw [heap_setCell_other _ _ _ _ (by simp; omega)]; exact HD.out.2.1
              · rw [heap_setCell_other _ _ _ _ (by simp; omega)]; exact HD.out.2.2
            case measure => rw [HIZ.out]; simp [intOf]; omega
          · simp only [Int.cast_ofNat_Int] at hdr hdr'
            have HV : Hid ((UInt8.ofNat (y / 65536).toNat).toNat = (y / 65536 % 256 : Int)) := by show _ = _; rw [UInt8.toNat_ofNat']; omega
            have HN : Hid ((dpart (sumD l) (4 * q + 1)).set (4 * q + 1) (UInt8.ofNat (y / 65536).toNat) = dpart (sumD l) (4 * q + 1 + 1)) := dpart_set _ _ HSL.out (by omega) _ HBy.out
            go_wp2
            go_roundw
            case rel =>
              refine ⟨4 * q + 1 + 1, by omega, by rw [HIZ.out]; go_num, ⟨?_, ?_, ?_⟩, hB.setCell (by simp; omega) _⟩
              · rw [← HV.out, row_set HD.out.1, ← HN.out]
                exact setRow_heap _ _ _ _ 24 _ HD.out.1
              · rw [heap_setCell_other _ _ _ _ (by simp; omega)]; exact HD.out.2.1
              · rw [heap_setCell_other _ _ _ _ (by simp; omega)]; exact HD.out.2.2
            case measure => rw [HIZ.out]; simp [intOf]; omega
          · simp only [Int.cast_ofNat_Int] at hdr hdr'
            have HV : Hid ((UInt8.ofNat (y / 256).toNat).toNat = (y / 256 % 256 : Int)) := by show _ = _; rw [UInt8.toNat_ofNat']; omega
            have HN : Hid ((dpart (sumD l) (4 * q + 2)).set (4 * q + 2) (UInt8.ofNat (y / 256).toNat) = dpart (sumD l) (4 * q + 2 + 1)) := dpart_set _ _ HSL.out (by omega) _ HBy.out
            go_wp2
            go_roundw
            case rel =>
              refine ⟨4 * q + 2 + 1, by omega, by rw [HIZ.out]; go_num, ⟨?_, ?_, ?_⟩, hB.setCell (by simp; omega) _⟩
              · rw [← HV.out, row_set HD.out.1, ← HN.out]
                exact setRow_heap _ _ _ _ 24 _ HD.out.1
              · rw [heap_setCell_other _ _ _ _ (by simp; omega)]; exact HD.out.2.1
              · rw [heap_setCell_other _ _ _ _ (by simp; omega)]; exact HD.out.2.2
            case measure => rw [HIZ.out]; simp [intOf]; omega
          · simp only [Int.cast_ofNat_Int] at hdr hdr'
            have HV : Hid ((UInt8.ofNat y.toNat).toNat = (y % 256 : Int)) := by show _ = _; rw [UInt8.toNat_ofNat']; omega
            have HN : Hid ((dpart (sumD l) (4 * q + 3)).set (4 * q + 3) (UInt8.ofNat y.toNat) = dpart (sumD l) (4 * q + 3 + 1)) := dpart_set _ _ HSL.out (by omega) _ HBy.out
            go_wp2
            go_roundw
            case rel =>
              refine ⟨4 * q + 3 + 1, by omega, by rw [HIZ.out]; go_num, ⟨?_, ?_, ?_⟩, hB.setCell (by simp; omega) _⟩
              · rw [← HV.out, row_set HD.out.1, ← HN.out]
                exact setRow_heap _ _ _ _ 24 _ HD.out.1
              · rw [heap_setCell_other _ _ _ _ (by simp; omega)]; exact HD.out.2.1
              · rw [heap_setCell_other _ _ _ _ (by simp; omega)]; exact HD.out.2.2
            case measure => rw [HIZ.out]; simp [intOf]; omega
        · obtain rfl : i = 32 := by omega
          have HSD : Hid ((Tryz.prog.info? 24).map (·.size) = some D.size) := by show _ = _; rw [size23, HDD.out]; simp [cellsOf_length, sumD_length]
          have H1D : Hid (D.all (·.oneCell') = true) := by show _ = _; rw [HDD.out]; exact cellsOf_all _
          have HZD : Hid (Z.size = D.size) := by show _ = _; rw [H32.out, HDD.out]; simp [cellsOf_length, sumD_length]
          have HDs : Hid (wr.heap[gd]? = some (.cells D 24 (0, 0))) := by
            show _ = _
            have := HD.out.1
            rw [dpart_all _ HSL.out] at this
            rw [HDD.out]
            exact this
          go_wp2_with (first
            | (refine wpList_load_row rfl 24 (.tmp 6) rfl gd rfl 24 D (0, 0) _ HDs.out Tryz.underlying24 rfl HSD.out ?_)
            | (refine wpList_store_row rfl 24 (.tmp 2) (.tmp 40) rfl w.heap.size D rfl rfl 24 Z HD.out.2.1 HSD.out HZD.out H1D.out ?_)
            | fail)
          refine bodyPost_ret (v := .agg D) ?_ rfl ⟨rfl, ?_⟩
          · exact results_cell_row (p := 2) (ty := 24) rfl _ _ w.heap.size 24 D (0, 0) _ rfl (setRow_heap _ _ _ _ 24 _ HD.out.2.1) Tryz.underlying24 rfl HSD.out
          · exact below_setRow hB (Nat.le_refl _) _
set_option maxHeartbeats 1000000 in
theorem refText_any (l : List UInt8) (hl : l.length = 32) (w : World) (x : ByteArray) (HX : Hid (x = ⟨l.toArray⟩)) (A : List Value) (HAL : Hid (A = cellsOf l)) :
    Calls Tryz.prog 92 #[.agg A.toArray] w fun e w' => e = .returned (.string x) ∧ Below w.heap.size w w' := by
  have c0 : ∀ W, W.rangeAt w.heap.size 0 A → Sem.run Tryz.prog (convert 69 9 (.slice (some ⟨w.heap.size, 0, none⟩) 32 32)) W = .ok (.string x) W := fun W h => by
    rw [HX.out]; exact conv_dig W _ l hl (by rw [← HAL.out]; exact h)
  have s0 := fun W => slice_all W w.heap.size
  have c1 := c0 (w.alloc (.cells A.toArray 24)) (range_row (heap_alloc_new w _))
  clear c0
  go_enter Tryz.func92, Tryz.ntmps92
  go_wp2
  go_ret
  exact ⟨rfl, (Below.refl _ _).alloc (Nat.le_refl _) _⟩
set_option maxHeartbeats 1000000 in
theorem refLeaf_any (s : ByteArray) (w : World) (hs : s.size ≤ 999000) (hK : Table 0 w) (D : Array Value) (HD : Hid (D = (cellsOf (sumD (0 :: s.data.toList))).toArray)) :
    Calls Tryz.prog 78 #[.string s] w fun e w' => e = .returned (.agg D) ∧ Below w.heap.size w w' := by
  obtain ⟨Z, HZ, HA, HS, H1, H32⟩ := noughts27
  have HSD : Hid ((Tryz.prog.info? 24).map (·.size) = some D.size) := by show _ = _; rw [size23, HD.out]; simp [cellsOf_length, sumD_length]
  have H1D : Hid (D.all (·.oneCell') = true) := by show _ = _; rw [HD.out]; exact cellsOf_all _
  have HZD : Hid (Z.size = D.size) := by show _ = _; rw [H32.out, HD.out]; simp [cellsOf_length, sumD_length]
  obtain ⟨u, HU⟩ : ∃ u : ByteArray, Hid (u = ⟨#[0]⟩ ++ s) := ⟨_, (rfl : (⟨#[0]⟩ : ByteArray) ++ s = _)⟩
  have hus : u.size = 1 + s.size := by rw [HU.out, ByteArray.size_append]; rfl
  have tu : u.data.toList = 0 :: s.data.toList := by rw [HU.out]; simp
  have KO : Hid (∀ w1, Below w.heap.size w w1 → Calls Tryz.prog 60 #[.string u] w1 fun e w' => e = .returned (.agg D) ∧ Below w1.heap.size w1 w') := fun w1 hb =>
    refSum_any u w1 (by omega) (hK.keep hb) D (by show _ = _; rw [HD.out, tu])
  clear hK tu
  have HU' : ∀ W, (binOp .add 9 (.string ⟨#[0]⟩) (.string s)).run Tryz.prog W = .ok (.string u) W := fun W => by rw [HU.out]; go_simp; omega
  go_enter Tryz.func78, Tryz.ntmps78
  go_wp2_with (first
    | (refine wpList_alloc_row rfl 24 rfl Z HA.out ?_)
    | fail)
  try rw [← HU.out]
  refine (KO.out _ ((Below.refl _ _).alloc (Nat.le_refl _) _)).mono ?_
  rintro e w1 ⟨rfl, hb1⟩
  have HG : Hid (w1.heap[w.heap.size]? = some (.cells Z 24 (0, 0))) := (hb1.block _ (by simp)).trans (heap_alloc_new w _)
  have hB : Below w.heap.size w w1 := ((Below.refl _ _).alloc (Nat.le_refl _) _).trans (hb1.mono (by simp))
  clear hb1
  go_wp2_with (first
    | (refine wpList_store_row rfl 24 (.tmp 2) (.tmp 5) rfl w.heap.size D rfl rfl 24 Z HG.out HSD.out HZD.out H1D.out ?_)
    | fail)
  refine bodyPost_ret (v := .agg D) ?_ rfl ⟨rfl, below_setRow hB (Nat.le_refl _) _⟩
  exact results_cell_row (p := 2) (ty := 24) rfl _ _ w.heap.size 24 D (0, 0) _ rfl (setRow_heap _ _ _ _ 24 _ HG.out) Tryz.underlying24 rfl HSD.out
set_option maxHeartbeats 1000000 in
theorem refKnot_any (l r : List UInt8) (hl : l.length = 32) (hr : r.length = 32) (w : World) (hK : Table 0 w) (D : Array Value) (HD : Hid (D = (cellsOf (sumD (1 :: (l ++ r)))).toArray)) :
    Calls Tryz.prog 62 #[.agg (cellsOf l).toArray, .agg (cellsOf r).toArray] w fun e w' => e = .returned (.agg D) ∧ Below w.heap.size w w' := by
  obtain ⟨Z, HZ, HA, HS, H1, H32⟩ := noughts27
  have HSD : Hid ((Tryz.prog.info? 24).map (·.size) = some D.size) := by show _ = _; rw [size23, HD.out]; simp [cellsOf_length, sumD_length]
  have H1D : Hid (D.all (·.oneCell') = true) := by show _ = _; rw [HD.out]; exact cellsOf_all _
  have HZD : Hid (Z.size = D.size) := by show _ = _; rw [H32.out, HD.out]; simp [cellsOf_length, sumD_length]
  obtain ⟨x, HX⟩ : ∃ x : ByteArray, Hid (x = ⟨l.toArray⟩) := ⟨_, (rfl : (⟨l.toArray⟩ : ByteArray) = _)⟩
  obtain ⟨y, HY⟩ : ∃ y : ByteArray, Hid (y = ⟨r.toArray⟩) := ⟨_, (rfl : (⟨r.toArray⟩ : ByteArray) = _)⟩
  obtain ⟨u, HU⟩ : ∃ u : ByteArray, Hid (u = ⟨#[1]⟩ ++ x) := ⟨_, (rfl : (⟨#[1]⟩ : ByteArray) ++ x = _)⟩
  obtain ⟨v, HV⟩ : ∃ v : ByteArray, Hid (v = u ++ y) := ⟨_, (rfl : u ++ y = _)⟩
  have hxs : x.size = 32 := by rw [HX.out]; show l.toArray.size = 32; simp [hl]
  have hys : y.size = 32 := by rw [HY.out]; show r.toArray.size = 32; simp [hr]
  have hus : u.size = 33 := by rw [HU.out, ByteArray.size_append, hxs]; rfl
  have hvs : v.size = 65 := by rw [HV.out, ByteArray.size_append, hus, hys]
  have tv : v.data.toList = 1 :: (l ++ r) := by rw [HV.out, HU.out, HX.out, HY.out]; simp
  obtain ⟨A, HAL⟩ : ∃ A, Hid (A = cellsOf l) := ⟨_, (rfl : cellsOf l = _)⟩
  obtain ⟨B, HBR⟩ : ∃ B, Hid (B = cellsOf r) := ⟨_, (rfl : cellsOf r = _)⟩
  have T1 : Hid (∀ W, Calls Tryz.prog 92 #[.agg A.toArray] W fun e w' => e = .returned (.string x) ∧ Below W.heap.size W w') := fun W => refText_any l hl W x HX A HAL
  have T2 : Hid (∀ W, Calls Tryz.prog 92 #[.agg B.toArray] W fun e w' => e = .returned (.string y) ∧ Below W.heap.size W w') := fun W => refText_any r hr W y HY B HBR
  have KO : Hid (∀ w1, Below w.heap.size w w1 → Calls Tryz.prog 60 #[.string v] w1 fun e w' => e = .returned (.agg D) ∧ Below w1.heap.size w1 w') := fun w1 hb =>
    refSum_any v w1 (by omega) (hK.keep hb) D (by show _ = _; rw [HD.out, tv])
  have z0 : (Tryz.prog.info? 24).map (·.size) = some A.length := by rw [size23, HAL.out, cellsOf_length, hl]
  have z1 : (Tryz.prog.info? 24).map (·.size) = some B.length := by rw [size23, HBR.out, cellsOf_length, hr]
  rw [← HAL.out, ← HBR.out]
  clear hK
  go_enter Tryz.func62, Tryz.ntmps62
  go_wp2_with (first
    | (refine wpList_alloc_row rfl 24 rfl Z HA.out ?_)
    | fail)
  obtain ⟨w0, hw0⟩ : ∃ w0, w0 = ((w.alloc (.cells A.toArray 24)).alloc (.cells B.toArray 24)).alloc (.cells Z 24) := ⟨_, rfl⟩
  have hS : w0.rangeAt w.heap.size 0 A ∧ w0.rangeAt (w.heap.size + 1) 0 B ∧ Below w.heap.size w w0 := by
    rw [hw0]
    exact ⟨range_row (heap_keep (heap_alloc2_old w _ _)), range_row (heap_keep (heap_alloc2_new w _ _)), (((Below.refl _ _).alloc (Nat.le_refl _) _).alloc (by simp) _).alloc (by simp; omega) _⟩
  have HG0 : Hid (w0.heap[w.heap.size + 2]? = some (.cells Z 24 (0, 0))) := by
    show _ = _
    rw [hw0]
    have := heap_alloc_new ((w.alloc (.cells A.toArray 24)).alloc (.cells B.toArray 24)) (.cells Z 24)
    simpa using this
  rw [← hw0]
  clear hw0
  refine wp_region_held_drew (S := (fun W => W.rangeAt w.heap.size 0 A ∧ W.rangeAt (w.heap.size + 1) 0 B ∧ Below w.heap.size w W)) (by kernel_rfl) (keep2 (Below.refl _ _).drew hS) (fun hHeld => ?_)
  refine zW 0 (.agg A.toArray) rfl (yieldsIf_load_mid (by rfl) 24 (.tmp 2) rfl _ 0 rfl A _ (fun _ h => h.1) Tryz.underlying24 rfl z0) hHeld ?_
  try simp only [Act.put, pS1, pS2, pS3]
  refine zW 3 (.agg B.toArray) rfl (yieldsIf_load_mid (by rfl) 24 (.tmp 3) rfl _ 0 rfl B _ (fun _ h => h.2.1) Tryz.underlying24 rfl z1) hHeld ?_
  try simp only [Act.put, pS1, pS2, pS3]
  refine wpAnyH_ready (rs := [1]) (by kernel_rfl) (by simp) ?_
  refine AllReadyH.cons (o := { dst := some 6, op := .call { callee := .value (.func 92), args := #[.tmp 5], argTypes := #[24] }, type := 9, pos := "ref.go:88", after := #[zD 0], guard := none }) rfl (fun K hK => ?_) AllReadyH.nil
  go_simp
  refine (T1.out _).mono ?_
  rintro e w1 ⟨rfl, hb1⟩
  go_wp2_with fail
  refine hK.out _ _ (keep2 hb1 hHeld) (fun hHeld => ?_)
  clear hK K
  try simp only [Act.put, pS1, pS2, pS3]
  refine zW 2 (.string u) rfl (Or.inl ⟨by rfl, by intro W hSw; go_simp; exact HU.out.symm⟩) hHeld ?_
  try simp only [Act.put, pS1, pS2, pS3]
  refine wpAnyH_ready (rs := [4]) (by kernel_rfl) (by simp) ?_
  refine AllReadyH.cons (o := { dst := some 9, op := .call { callee := .value (.func 92), args := #[.tmp 8], argTypes := #[24] }, type := 9, pos := "ref.go:88", after := #[zD 3, zC 1], guard := none }) rfl (fun K hK => ?_) AllReadyH.nil
  go_simp
  refine (T2.out _).mono ?_
  rintro e w4 ⟨rfl, hb4⟩
  go_wp2_with fail
  refine hK.out _ _ (keep2 hb4 hHeld) (fun hHeld => ?_)
  clear hK K
  try simp only [Act.put, pS1, pS2, pS3]
  refine zW 5 (.string v) rfl (Or.inl ⟨by rfl, by intro W hSw; go_simp; exact HV.out.symm⟩) hHeld ?_
  try simp only [Act.put, pS1, pS2, pS3]
  refine wpAnyH_ready (rs := [6]) (by kernel_rfl) (by simp) ?_
  refine AllReadyH.cons (o := { dst := some 11, op := .call { callee := .value (.func 60), args := #[.tmp 10], argTypes := #[9] }, type := 24, pos := "ref.go:88", after := #[zD 5, zC 4], guard := none }) rfl (fun K hK => ?_) AllReadyH.nil
  go_simp
  refine (KO.out _ hHeld.2.2).mono ?_
  rintro e w6 ⟨rfl, hb6⟩
  go_wp2_with fail
  refine hK.out _ _ (keep2 hb6 hHeld) (fun hHeld => ?_)
  clear hK K
  try simp only [Act.put, pS1, pS2, pS3]
  have HG1 : Hid (w6.heap[w.heap.size + 2]? = some (.cells Z 24 (0, 0))) := by
    have h1 : w1.heap[w.heap.size + 2]? = _ := (hb1.block _ (heap_lt HG0.out)).trans HG0.out
    have h4 : w4.heap[w.heap.size + 2]? = _ := (hb4.block _ (heap_lt h1)).trans h1
    exact (hb6.block _ (heap_lt h4)).trans h4
  refine wpAnyH_ready (rs := [7]) (by kernel_rfl) (by simp) ?_
  refine AllReadyH.cons (o := { dst := none, op := .store 24 (.tmp 4) (.tmp 11), type := 0, pos := "ref.go:88", after := #[zD 6, zC 6, zP 0, zP 1, zP 2, zP 3, zP 4, zP 5, zP 6], guard := none }) rfl (fun K hK => ?_) AllReadyH.nil
  refine step_store_row (by rfl) 24 (.tmp 4) (.tmp 11) rfl (w.heap.size + 2) D rfl rfl 24 Z HG1.out HSD.out HZD.out H1D.out ?_
  refine hK.out _ _ ⟨range_other hHeld.1 (by omega), range_other hHeld.2.1 (by omega), below_setRow hHeld.2.2 (by omega) _⟩ (fun hHeld => ?_)
  clear hK K
  try simp only [Act.put, pS1, pS2, pS3]
  refine wpAnyH_done (by kernel_rfl) ?_ _
  go_wp2
  refine bodyPost_ret (v := .agg D) ?_ rfl ⟨rfl, hHeld.2.2⟩
  exact results_cell_row (p := 4) (ty := 24) rfl _ _ (w.heap.size + 2) 24 D (0, 0) _ rfl (setRow_heap _ _ _ _ 24 _ HG1.out) Tryz.underlying24 rfl HSD.out
theorem yieldsIf_row {P : Program} {ops : Array Oper} {S : World → Prop} {o : Oper} {a : Act} (hw : Region.wanted o (yielded ops a.tmps) = true) (ty : TypeId) (x : Operand) (ho : o.op = .load ty x) (g : Nat) (hx : a.eval x = .pointer (some ⟨g, 0, none⟩)) (t : TypeId) (cs : Array Value) (fr : Nat × Nat) (d : TypeDesc) (hg : ∀ w, S w → w.heap[g]? = some (.cells cs t fr))
    (hu : P.underlying ty = some d) (hd : d.isRow = true) (hi : (P.info? ty).map (·.size) = some cs.size) : YieldsIf P ops S o (.agg cs) a := by
  have := yieldsIf_load_mid (P := P) (ops := ops) (S := S) hw ty x ho g 0 hx cs.toList d (fun w h => range_row (t := t) (fr := fr) (by simpa using hg w h)) hu hd (by simpa using hi)
  simpa using this
structure Wrote (g : Nat) (D : Array Value) (t : TypeId) (w w' : World) : Prop where
  row : w'.heap[g]? = some (.cells D t (0, 0))
  other : ∀ k, k ≠ g → w'.heap[k]? = w.heap[k]?
  below : ∀ (B : Nat) (a : World), Below B a w → B ≤ g → Below B a w'
theorem wrote_row {w : World} {g : Nat} {Z D : Array Value} {t : TypeId} (h : w.heap[g]? = some (.cells Z t (0, 0))) : Wrote g D t w (w.setRow g D) :=
  ⟨setRow_heap _ _ _ _ t _ h, fun k hk => setRow_other _ _ _ _ hk, fun B a hb hg => below_setRow hb hg _⟩
structure Made (g : Nat) (Z : Array Value) (t : TypeId) (w w' : World) : Prop where
  new : g = w.heap.size
  row : w'.heap[g]? = some (.cells Z t (0, 0))
  below : Below w.heap.size w w'
theorem step_set_var {P : Program} {ops : Array Oper} {o : Oper} {a : Act} {w : World} {K : Act → World → Prop} {Q : Exit → Act → World → Prop} {E : Prop} (hw : Region.wanted o (yielded ops a.tmps) = true) (t : TypeId) (x y : Operand) (ho : o.op = .store t x y)
    (g : Nat) (D : Array Value) (hx : a.eval x = .pointer (some ⟨g, 0, none⟩)) (hy : a.eval y = .agg D) (t' : TypeId) (Z : Array Value) (hg : w.heap[g]? = some (.cells Z t' (0, 0))) (hi : (P.info? t).map (·.size) = some D.size) (hold : Z.size = D.size) (h1 : D.all (·.oneCell') = true)
    (h : ∀ w', Hid (Wrote g D t' w w') → K (a.put o.dst undef) w') : if Region.wanted o (yielded ops a.tmps) = true then Oper.wp P o a w K Q else E :=
  step_store_row hw t x y ho g D hx hy t' Z hg hi hold h1 (h _ (wrote_row hg))
theorem alloc_size (w : World) (o : Obj) : (w.alloc o).heap.size = w.heap.size + 1 := by simp
theorem beqL (xs ys : List UInt8) : (xs == ys) = decide (xs = ys) := by by_cases h : xs = ys <;> simp [h]
theorem eqDigV (xs ys : List UInt8) (hx : xs.length = 32) (hy : ys.length = 32) (X Y : Array Value) (HX : Hid (X = (cellsOf xs).toArray)) (HY : Hid (Y = (cellsOf ys).toArray)) (b : Bool) (hb : decide (xs = ys) = b) (w : World) : (binOp .eql 24 (.agg X) (.agg Y)).run Tryz.prog w = .ok (.bool b) w := by
  rw [HX.out, HY.out, eqDig xs ys hx hy, ← hb, beqL]
theorem neqDigV (xs ys : List UInt8) (hx : xs.length = 32) (hy : ys.length = 32) (X Y : Array Value) (HX : Hid (X = (cellsOf xs).toArray)) (HY : Hid (Y = (cellsOf ys).toArray)) (b : Bool) (hb : (!decide (xs = ys)) = b) (w : World) : (binOp .neq 24 (.agg X) (.agg Y)).run Tryz.prog w = .ok (.bool b) w := by
  have h : (Op.equalIn (9998 + 2) 24 (.agg (cellsOf xs).toArray) (.agg (cellsOf ys).toArray)).run Tryz.prog w = .ok (xs == ys) w := run_equalIn_bytes (P := Tryz.prog) w 9998 24 5 32 Tryz.underlying24 Tryz.underlying5 sizeOf5 xs ys hx hy
  rw [run_neq_struct, HX.out, HY.out]
  simp only [Nat.reduceAdd] at h
  rw [h, ← hb, beqL]
  rfl
theorem wpList_new_var {P : Program} {ops : Array Oper} {rest : List Oper} {o : Oper} {a : Act} {w : World} {Q : Exit → Act → World → Prop} (hg : o.guard = none) (t : TypeId) (ho : o.op = .alloc t)
    (cs : Array Value) (hz : (P.info? t).map (fun i => (i.zero, i.size)) = some (some (.agg cs), cs.size)) (h : ∀ g w', Hid (Made g cs t w w') → wpList P ops Q rest (a.put o.dst (.pointer (some ⟨g, 0, none⟩))) w') : wpList P ops Q (o :: rest) a w :=
  wpList_alloc_row hg t ho cs hz (h w.heap.size _ ⟨rfl, heap_alloc_new w _, (Below.refl _ _).alloc (Nat.le_refl _) _⟩)
theorem wpList_set_var {P : Program} {ops : Array Oper} {rest : List Oper} {o : Oper} {a : Act} {w : World} {Q : Exit → Act → World → Prop} (hgd : o.guard = none) (t : TypeId) (x y : Operand) (ho : o.op = .store t x y)
    (g : Nat) (D : Array Value) (hx : a.eval x = .pointer (some ⟨g, 0, none⟩)) (hy : a.eval y = .agg D) (t' : TypeId) (Z : Array Value) (hg : w.heap[g]? = some (.cells Z t' (0, 0))) (hi : (P.info? t).map (·.size) = some D.size) (hold : Z.size = D.size) (h1 : D.all (·.oneCell') = true)
    (h : ∀ w', Hid (Wrote g D t' w w') → wpList P ops Q rest (a.put o.dst undef) w') : wpList P ops Q (o :: rest) a w :=
  wpList_store_row hgd t x y ho g D hx hy t' Z hg hi hold h1 (h _ (wrote_row hg))
theorem results_tmp_row {P : Program} {fn : Func} {p q : Tmp} {ty : TypeId} (h : fn.results = #[.tmp q, .cell p ty]) (tmps : Array Value) (w : World) (g : Nat) (t : TypeId) (cs : Array Value) (fr : Nat × Nat) (d : TypeDesc)
    (hp : tmps.getD p undef = .pointer (some ⟨g, 0, none⟩)) (hg : w.heap[g]? = some (.cells cs t fr))
    (hu : P.underlying ty = some d) (hd : (match d with | .struct _ | .array _ _ => true | _ => false) = true) (hi : (P.info? ty).map (·.size) = some cs.size) :
    (results fn tmps).run P w = .ok (.tuple #[tmps.getD q undef, .agg cs]) w := by
  have hp' : tmps[p]?.getD undef = .pointer (some ⟨g, 0, none⟩) := by simpa using hp
  simp [results, h, hp', asAddr, run_loadVar_row w g t ty cs fr d hg hu hd hi]
theorem yieldsIf_mid {P : Program} {ops : Array Oper} {S : World → Prop} {op : Oper} {a : Act} (hw : Region.wanted op (yielded ops a.tmps) = true) (ty : TypeId) (x : Operand) (ho : op.op = .load ty x)
    (b o : Nat) (hx : a.eval x = .pointer (some ⟨b, o, none⟩)) (D : Array Value) (d : TypeDesc) (hS : ∀ w, S w → w.rangeAt b o D.toList)
    (hu : P.underlying ty = some d) (hd : d.isRow = true) (hi : (P.info? ty).map (·.size) = some D.size) : YieldsIf P ops S op (.agg D) a := by
  have := yieldsIf_load_mid (P := P) (ops := ops) (S := S) hw ty x ho b o hx D.toList d hS hu hd (by simpa using hi)
  simpa using this
theorem wpList_mid {P : Program} {ops : Array Oper} {rest : List Oper} {op : Oper} {a : Act} {w : World} {Q : Exit → Act → World → Prop} (hgd : op.guard = none) (ty : TypeId) (x : Operand) (ho : op.op = .load ty x)
    (b o : Nat) (hx : a.eval x = .pointer (some ⟨b, o, none⟩)) (D : Array Value) (d : TypeDesc) (hc : w.rangeAt b o D.toList)
    (hu : P.underlying ty = some d) (hd : d.isRow = true) (hi : (P.info? ty).map (·.size) = some D.size)
    (h : wpList P ops Q rest (a.put op.dst (.agg D)) w) : wpList P ops Q (op :: rest) a w :=
  wpList_load_mid hgd ty x ho b o hx D.toList d hc hu hd (by simpa using hi) (by simpa using h)
theorem slice_at (w : World) (g o : Nat) : (Instr.sliceAt 24 (.pointer (some ⟨g, o, none⟩)) none none none).run Tryz.prog w = .ok (.slice (some ⟨g, o, none⟩) 32 32) w := by
  simp [Instr.sliceAt, Instr.slice, Instr.sliceBounds, run_underlying Tryz.underlying24, Instr.sureAddr]
  rw [add_plain]
  simp
theorem conv_at (W : World) (g o : Nat) (l : List UInt8) (hl : l.length = 32) (h : W.rangeAt g o (cellsOf l)) : Sem.run Tryz.prog (convert 69 9 (.slice (some ⟨g, o, none⟩) 32 32)) W = .ok (.string ⟨l.toArray⟩) W := by
  have := run_convert_bytes_back (P := Tryz.prog) W 69 9 5 ⟨g, o, none⟩ 32 l Tryz.underlying69 Tryz.underlying5 Tryz.underlying9 (fun j hj => by
    rw [add_plain]
    exact h j _ (cellsOf_at l j hj))
  rw [hl] at this
  exact this
theorem zeroY : (Tryz.prog.info? 48).map (fun i => (i.zero, i.size)) = some (some (.agg (cellsOf (List.replicate 32 0)).toArray), 32) := by kernel_rfl
theorem sizeY : (Tryz.prog.info? 48).map (·.size) = some 32 := by kernel_rfl
theorem noughtsY : ∃ Z : Array Value, Hid (Z = (cellsOf (List.replicate 32 0)).toArray) ∧ Hid ((Tryz.prog.info? 48).map (fun i => (i.zero, i.size)) = some (some (.agg Z), Z.size)) ∧ Hid (Z.size = 32) :=
  ⟨(cellsOf (List.replicate 32 0)).toArray, (rfl : _ = _), zeroY, (rfl : _ = _)⟩
theorem key_row (l : List UInt8) (hl : l.length = 32) : ∃ D : Array Value, Hid (D = (cellsOf l).toArray) ∧ Hid ((Tryz.prog.info? 48).map (·.size) = some D.size) ∧ Hid (D.all (·.oneCell') = true) ∧ Hid (D.size = 32) := by
  refine ⟨(cellsOf l).toArray, (rfl : _ = _), ?_, cellsOf_all l, ?_⟩
  · show _ = _
    rw [sizeY]; simp [cellsOf_length, hl]
  · show _ = _
    simp [cellsOf_length, hl]
theorem xor8 (x y : UInt8) : bits .xor .u8 (x.toNat : Int) (y.toNat : Int) = ((x ^^^ y).toNat : Int) := by
  rw [u8_xor_nat _ _ x.toNat_lt y.toNat_lt, UInt8.toNat_xor]
theorem wrote_cell {w : World} {g i : Nat} {cs : Array Value} {t : TypeId} (v : Value) (h : w.heap[g]? = some (.cells cs t (0, 0))) : Wrote g (cs.setIfInBounds i v) t w (w.setCell ⟨g, i, none⟩ v) :=
  ⟨Go.heap_setCell_same w g i cs t v h, fun k hk => Below.heap_setCell _ _ _ _ hk, fun B a hb hg => hb.setCell hg _⟩
theorem wpList_put8 {P : Program} {ops : Array Oper} {rest : List Oper} {o : Oper} {a : Act} {w : World} {Q : Exit → Act → World → Prop} (hgd : o.guard = none) (t : TypeId) (x y : Operand) (ho : o.op = .store t x y) (hs : ∀ w, (sizeOf t).run P w = .ok 1 w)
    (g i : Nat) (n : Int) (hx : a.eval x = .pointer (some ⟨g, i, none⟩)) (hy : a.eval y = .int .u8 n) (cs : Array Value) (t' : TypeId) (hg : w.heap[g]? = some (.cells cs t' (0, 0))) (hi : i < cs.size)
    (h : ∀ w', Hid (Wrote g (cs.setIfInBounds i (.int .u8 n)) t' w w') → wpList P ops Q rest (a.put o.dst undef) w') : wpList P ops Q (o :: rest) a w := by
  refine wpList_plain hgd fun K hK => ?_
  have hc : w.cell? ⟨g, i, none⟩ = some cs[i] := by rw [cell_of_row w g i cs t' (0, 0) hg, Array.getElem?_eq_getElem hi]
  have hf : w.frozen? ⟨g, i, none⟩ = false := frozen_of_row w g i cs t' hg
  have hrun : (Instr.storeAt t (.pointer (some ⟨g, i, none⟩)) (.int .u8 n)).run P w = .ok () (w.setCell ⟨g, i, none⟩ (.int .u8 n)) := by
    simp [go_sem, hc, hf, hs]
  unfold Oper.wp execOp
  simp only [ho, hx, hy, hrun, Sem.run_bind, Result.andThen_ok]
  exact hK _ _ (h _ (wrote_cell _ hg))
theorem cells_put (l : List UInt8) (k : Nat) (x : UInt8) : ((cellsOf l).toArray.setIfInBounds k (.int .u8 (x.toNat : Int))) = (cellsOf (l.set k x)).toArray := by
  unfold cellsOf
  rw [List.setIfInBounds_toArray, List.map_set]
def TabT (w : World) : Prop := Table 1 w
theorem TabT.keep {w w' : World} (h : TabT w) (hb : Below w.heap.size w w') : TabT w' := Table.keep h hb
theorem TabT.sha {w : World} (h : TabT w) : Table 1 w := h
theorem builtY : Tryz.prog.built 48 [] = some (cellsOf (List.replicate 32 0)).toArray := by kernel_rfl
theorem zeroB : (Tryz.prog.info? 164).map (fun i => (i.zero, i.size)) = some (some (.agg (cellsOf (List.replicate 64 0)).toArray), 64) := by kernel_rfl
theorem noughtsB : ∃ Z : Array Value, Hid (Z = (cellsOf (List.replicate 64 0)).toArray) ∧ Hid ((Tryz.prog.info? 164).map (fun i => (i.zero, i.size)) = some (some (.agg Z), Z.size)) :=
  ⟨(cellsOf (List.replicate 64 0)).toArray, (rfl : _ = _), zeroB⟩
theorem run_copy_key (w : World) (ty : TypeId) (g g0 : Nat) (t t0 : TypeId) (key : List UInt8) (hk : key.length = 32) (hg : w.heap[g]? = some (.cells (cellsOf (List.replicate 64 0)).toArray t (0, 0))) (h0 : w.heap[g0]? = some (.cells (cellsOf key).toArray t0 (0, 0))) :
    (Builtin.copy_ #[69, 69] ty #[.slice (some ⟨g, 0, none⟩) 64 64, .slice (some ⟨g0, 0, none⟩) 32 32]).run Tryz.prog w = .ok (goInt 32) (w.setRow g (cellsOf (key ++ List.replicate 32 0)).toArray) := by
  have hl := run_loadCells_list (P := Tryz.prog) w ⟨g0, 0, none⟩ (cellsOf key) (fun j v hj => by
    rw [add_plain, Nat.zero_add, cell_of_row w g0 j _ t0 (0, 0) h0]
    simpa using hj)
  have hst := run_storeCells_at Tryz.prog g 0 t (cellsOf key) 0 (cellsOf (List.replicate 64 0)).toArray w hg (by simp [cellsOf_length, hk]) (fun v hv => cellsOf_one _ v hv)
  simp only [Nat.zero_add, List.take_zero, List.nil_append] at hst
  rw [cellsOf_length, hk] at hl hst
  have e : (cellsOf key ++ (cellsOf (List.replicate 64 0)).drop 32) = cellsOf (key ++ List.replicate 32 0) := by
    rw [cellsOf_append]
    congr 1
  rw [e] at hst
  simp [Builtin.copy_, run_underlying Tryz.underlying69, Builtin.lenOf, Builtin.firstCells, sizeOf5, hl, hst]
theorem step_copy_key {ops : Array Oper} {o : Oper} {a : Act} {w : World} {K : Act → World → Prop} {Q : Exit → Act → World → Prop} {E : Prop} (hw : Region.wanted o (yielded ops a.tmps) = true) (s x : Operand) (hop : o.op = Op.call { callee := Callee.builtin Builtin.copy, args := #[s, x], argTypes := #[69, 69] })
    (g g0 : Nat) (t t0 : TypeId) (hs : a.eval s = .slice (some ⟨g, 0, none⟩) 64 64) (hx : a.eval x = .slice (some ⟨g0, 0, none⟩) 32 32) (key : List UInt8) (hk : key.length = 32) (Z C : Array Value) (HZ : Hid (Z = (cellsOf (List.replicate 64 0)).toArray)) (HC : Hid (C = (cellsOf key).toArray))
    (hg : w.heap[g]? = some (.cells Z t (0, 0))) (h0 : w.heap[g0]? = some (.cells C t0 (0, 0)))
    (h : ∀ w', Hid (Wrote g (cellsOf (key ++ List.replicate 32 0)).toArray t w w') → K (a.put o.dst (.int .i64 32)) w') : if Region.wanted o (yielded ops a.tmps) = true then Oper.wp Tryz.prog o a w K Q else E := by
  rw [if_pos hw]
  have hg' := hg
  rw [HZ.out] at hg'
  rw [HC.out] at h0
  have hrun := run_copy_key w o.type g g0 t t0 key hk hg' h0
  unfold Oper.wp
  simp [execOp, hop, resolve, invoke, builtin, hs, hx, hrun, Result.andThen]
  exact h _ (wrote_row hg)
def turnedD (key : List UInt8) (pad : UInt8) (k : Nat) : List UInt8 := (blockD key pad).take k ++ (key ++ List.replicate 32 0).drop k
theorem turnedD_length (key : List UInt8) (pad : UInt8) (k : Nat) (hk : key.length = 32) (h : k ≤ 64) : (turnedD key pad k).length = 64 := by
  unfold turnedD
  simp [blockD_length key pad hk, hk]
  omega
theorem turnedD_at (key : List UInt8) (pad : UInt8) (k : Nat) (hk : key.length = 32) (h : k < 64) : (turnedD key pad k)[k]? = (key ++ List.replicate 32 0)[k]? := by
  unfold turnedD
  have e : ((blockD key pad).take k).length = k := by rw [List.length_take, blockD_length key pad hk]; omega
  rw [List.getElem?_append_right (by omega), e, Nat.sub_self, List.getElem?_drop, Nat.add_zero]
theorem turnedD_put (key : List UInt8) (pad : UInt8) (k : Nat) (hk : key.length = 32) (h : k < 64) (y : UInt8) (hy : (blockD key pad)[k]? = some y) : (turnedD key pad k).set k y = turnedD key pad (k + 1) := by
  unfold turnedD
  have e : ((blockD key pad).take k).length = k := by rw [List.length_take, blockD_length key pad hk]; omega
  have hl : k < (key ++ List.replicate 32 0).length := by simp [hk]; omega
  rw [List.set_append_right _ _ (by omega), e, Nat.sub_self, List.take_add_one, hy, List.drop_eq_getElem_cons hl, List.set_cons_zero]
  simp
theorem turnedD_all (key : List UInt8) (pad : UInt8) (hk : key.length = 32) : turnedD key pad 64 = blockD key pad := by
  unfold turnedD
  rw [List.take_of_length_le (by rw [blockD_length key pad hk]; omega), List.drop_of_length_le (by simp [hk])]
  simp
theorem turnedD_none (key : List UInt8) (pad : UInt8) : turnedD key pad 0 = key ++ List.replicate 32 0 := by
  unfold turnedD; simp
theorem conv_any {W : World} {g : Nat} {l : List UInt8} {n : Nat} {t : TypeId} (h : W.heap[g]? = some (.cells (cellsOf l).toArray t (0, 0))) (hn : l.length = n) : (convert 69 9 (.slice (some ⟨g, 0, none⟩) n n)).run Tryz.prog W = .ok (.string ⟨l.toArray⟩) W := by
  have := run_convert_bytes_back (P := Tryz.prog) W 69 9 5 ⟨g, 0, none⟩ n l Tryz.underlying69 Tryz.underlying5 Tryz.underlying9 (fun j hj => by
    rw [add_plain, Nat.zero_add, cell_of_row W g j _ t (0, 0) h]
    simp [cellsOf_at l j hj])
  rw [hn] at this
  exact this
set_option maxHeartbeats 4000000 in
theorem blk_any (key : List UInt8) (pad : UInt8) (w : World) (Ky : Array Value) (HK : Hid (Ky = (cellsOf key).toArray)) (hk : key.length = 32) (s : ByteArray) (Hs : Hid (s = ⟨(blockD key pad).toArray⟩)) :
    Calls Tryz.prog 94 #[.agg Ky, .int .u8 (pad.toNat : Int)] w fun e w' => e = .returned (.string s) ∧ Below w.heap.size w w' := by
  obtain ⟨Z, HZ, HA⟩ := noughtsB
  have hbl := blockD_length key pad hk
  go_enter Tryz.func94, Tryz.ntmps94
  go_wp2_with (first
    | (show aD 5 _ _ _ _ _ _ _ _ _ _ _; refine wpList_new_var rfl 164 rfl Z HA.out ?_; intro g5 w1 HM5; try simp only [Act.put, pS1, pS2, pS3])
    | fail)
  have HB1 : Hid (Below w.heap.size w w1) := ((Below.refl _ _).alloc (Nat.le_refl _) _).trans (HM5.out.below.mono (by simp))
  have HK1 := hidk ((HM5.out.below.block _ (by simp)).trans (heap_alloc_new w (.cells Ky 48)))
  have h5 : w.heap.size < g5 := by have e := HM5.out.new; simp at e; omega
  have HR5 := hidk HM5.out.row
  clear HM5
  refine wp_region_held_drew (S := (fun W => W.heap[w.heap.size]? = some (.cells Ky 48 (0, 0)))) (by kernel_rfl) HK1.out (fun hHeld => ?_)
  refine zX 0 (.slice (some ⟨g5, 0, none⟩) 64 64) rfl hHeld ?_
  try simp only [Act.put, pS1, pS2, pS3]
  refine zX 1 (.slice (some ⟨w.heap.size, 0, none⟩) 32 32) rfl hHeld ?_
  try simp only [Act.put, pS1, pS2, pS3]
  refine wpAnyH_ready (rs := [2]) (by kernel_rfl) (by simp) ?_
  refine (AllReadyH.cons (o := { dst := some 9, op := .call { callee := .builtin Builtin.copy, args := #[.tmp 7, .tmp 8], argTypes := #[69, 69] }, type := 3, pos := "tag.go:57", after := #[zD 0, zD 1], guard := none }) rfl (fun K hK => ?_) AllReadyH.nil)
  refine step_copy_key (by rfl) (.tmp 7) (.tmp 8) rfl g5 w.heap.size 164 48 rfl rfl key hk Z Ky HZ HK HR5.out hHeld ?_
  intro wz HW5
  refine hK.out _ _ ((HW5.out.other _ (by omega)).trans hHeld) (fun hHeld => ?_)
  clear hK K
  try simp only [Act.put, pS1, pS2, pS3]
  refine wpAnyH_done (by kernel_rfl) ?_ _
  have HL0 : Hid (wz.heap[g5]? = some (.cells (cellsOf (turnedD key pad 0)).toArray 164 (0, 0)) ∧ Below w.heap.size w wz) := ⟨by rw [turnedD_none]; exact HW5.out.row, HW5.out.below _ _ HB1.out.drew (by omega)⟩
  clear HW5 HB1 HK1 HR5
  go_wp2
  go_loopw [10] (fun i wr => ∃ k : Nat, k ≤ 64 ∧ i = .int .i64 k ∧ Hid (wr.heap[g5]? = some (.cells (cellsOf (turnedD key pad k)).toArray 164 (0, 0)) ∧ Below w.heap.size w wr)) (fun i _ => 64 - (intOf i).toNat)
  case atStart => exact ⟨0, by omega, rfl, HL0⟩
  case round =>
    clear HL0
    obtain ⟨k, hk64, rfl, HL⟩ := hrel
    by_cases hlt : k < 64
    · have dk : decide ((k : Int) < 64) = true := by rw [decide_eq_true_eq]; omega
      have dk' : decide (k < 64) = true := by rw [decide_eq_true_eq]; omega
      have hlk : k < (key ++ List.replicate 32 0).length := by simp [hk]; omega
      obtain ⟨x, HX⟩ : ∃ x : UInt8, Hid ((key ++ List.replicate 32 0)[k]? = some x) := ⟨(key ++ List.replicate 32 0)[k], List.getElem?_eq_getElem hlk⟩
      obtain ⟨y, HY⟩ : ∃ y : UInt8, Hid (y = x ^^^ pad) := ⟨x ^^^ pad, hidk rfl⟩
      have Hy : Hid ((blockD key pad)[k]? = some y) := by
        show _ = _
        unfold blockD
        rw [List.getElem?_map, HX.out, HY.out]
        rfl
      have hx : bits .xor .u8 (x.toNat : Int) (pad.toNat : Int) = (y.toNat : Int) := by rw [HY.out]; exact xor8 x pad
      have hc : wr.cell? ⟨g5, k, none⟩ = some (.int .u8 (x.toNat : Int)) := by
        rw [cell_of_row wr _ k _ 164 (0, 0) HL.out.1]
        have e := turnedD_at key pad k hk hlt
        rw [HX.out] at e
        obtain ⟨hh, e2⟩ := List.getElem?_eq_some_iff.1 e
        rw [← e2]
        simpa using cellsOf_at (turnedD key pad k) k hh
      have hz := hidk (show (cellsOf (turnedD key pad k)).toArray.size = 64 by rw [List.size_toArray, cellsOf_length, turnedD_length key pad k hk hk64])
      clear HX HY hlk
      go_wp2_with (first
        | (refine wpList_put8 rfl 5 (.tmp 18) (.tmp 17) rfl sizeOf5 g5 k (y.toNat : Int) rfl rfl (cellsOf (turnedD key pad k)).toArray 164 HL.out.1 (by rw [hz.out]; exact hlt) ?_; intro wa H1; try simp only [Act.put, pS1, pS2, pS3])
        | fail)
      have HL' : Hid (wa.heap[g5]? = some (.cells (cellsOf (turnedD key pad (k + 1))).toArray 164 (0, 0)) ∧ Below w.heap.size w wa) := by
        refine ⟨?_, H1.out.below _ _ HL.out.2 (by omega)⟩
        rw [H1.out.row, cells_put, turnedD_put key pad k hk hlt y Hy.out]
      clear H1 HL hc hx
      go_roundw
      case rel => exact ⟨k + 1, by omega, by go_num, HL'⟩
      case measure => simp [intOf]; omega
    · obtain rfl : k = 64 := by omega
      have hcv : (convert 69 9 (.slice (some ⟨g5, 0, none⟩) 64 64)).run Tryz.prog wr = .ok (.string s) wr := by
        rw [Hs.out]
        have := HL.out.1
        rw [turnedD_all key pad hk] at this
        exact conv_any this hbl
      have HBL := hidk HL.out.2
      clear HL
      go_wp2
      go_ret
      exact ⟨rfl, HBL.out⟩
set_option maxHeartbeats 8000000 in
theorem mac_any (key : List UInt8) (s : ByteArray) (w : World) (Ky D : Array Value) (HK : Hid (Ky = (cellsOf key).toArray)) (hk : key.length = 32) (hs : s.size ≤ 100000) (hT : TabT w) (HD : Hid (D = (cellsOf (macD key s.data.toList)).toArray)) :
    Calls Tryz.prog 66 #[.agg Ky, .string s] w fun e w' => e = .returned (.agg D) ∧ Below w.heap.size w w' := by
  obtain ⟨Z, HZ, HA, HS, H1, H32⟩ := noughts27
  have HSK : Hid ((Tryz.prog.info? 48).map (·.size) = some Ky.size) := by show _ = _; rw [sizeY, HK.out]; simp [cellsOf_length, hk]
  have HSD : Hid ((Tryz.prog.info? 24).map (·.size) = some D.size) := by show _ = _; rw [size23, HD.out]; simp [cellsOf_length, macD, sumD_length]
  have H1D : Hid (D.all (·.oneCell') = true) := by show _ = _; rw [HD.out]; exact cellsOf_all _
  have HZD : Hid (Z.size = D.size) := by show _ = _; rw [H32.out, HD.out]; simp [cellsOf_length, macD, sumD_length]
  obtain ⟨b1, HB1⟩ : ∃ b : ByteArray, Hid (b = ⟨(blockD key 54).toArray⟩) := ⟨_, (rfl : _ = _)⟩
  obtain ⟨b2, HB2⟩ : ∃ b : ByteArray, Hid (b = ⟨(blockD key 92).toArray⟩) := ⟨_, (rfl : _ = _)⟩
  have hz1 : b1.size = 64 := by rw [HB1.out]; show (blockD key 54).toArray.size = 64; simpa using blockD_length key 54 hk
  have hz2 : b2.size = 64 := by rw [HB2.out]; show (blockD key 92).toArray.size = 64; simpa using blockD_length key 92 hk
  obtain ⟨m, Hm⟩ : ∃ m, Hid (m = sumD (blockD key 54 ++ s.data.toList)) := ⟨_, (rfl : _ = _)⟩
  have hm32 : m.length = 32 := by rw [Hm.out]; exact sumD_length _
  obtain ⟨M, HM, HSM, H1M, H32M⟩ := dig_row' m hm32
  have HZM : Hid (Z.size = M.size) := by show _ = _; rw [H32.out, H32M.out]
  obtain ⟨x, HX⟩ : ∃ x : ByteArray, Hid (x = ⟨m.toArray⟩) := ⟨_, (rfl : _ = _)⟩
  have hzx : x.size = 32 := by rw [HX.out]; show m.toArray.size = 32; simpa using hm32
  have C1 : Hid (∀ W, Calls Tryz.prog 94 #[.agg Ky, .int .u8 54] W fun e w' => e = .returned (.string b1) ∧ Below W.heap.size W w') := fun W => blk_any key 54 W Ky HK hk b1 HB1
  have C2 : Hid (∀ W, Calls Tryz.prog 94 #[.agg Ky, .int .u8 92] W fun e w' => e = .returned (.string b2) ∧ Below W.heap.size W w') := fun W => blk_any key 92 W Ky HK hk b2 HB2
  have O1 : Hid (∀ W g, g = W.heap.size → Below w.heap.size w W → Calls Tryz.prog 93 #[.slice (some ⟨g, 0, none⟩) 2 2] (W.alloc (.cells #[.string b1, .string s] 9)) fun e w' => e = .returned (.agg M) ∧ Below W.heap.size W w') := fun W g hg hb =>
    of_new [b1, s] 9 W (by show b1.size + (s.size + 0) ≤ 1000000; omega) (by show 2 ≤ _; decide) (hT.keep hb).sha M (by show _ = _; rw [HM.out, Hm.out, HB1.out]; simp [joinL]) 2 2 g rfl hg _ rfl
  have O2 : Hid (∀ W g, Texts W (some ⟨g, 0, none⟩) 2 [b2, x] → Below w.heap.size w W → Calls Tryz.prog 93 #[.slice (some ⟨g, 0, none⟩) 2 2] W fun e w' => e = .returned (.agg D) ∧ Below W.heap.size W w') := fun W g hx hb =>
    of_lies [b2, x] (by show b2.size + (x.size + 0) ≤ 1000000; omega) (by show 2 ≤ _; decide) D (by show _ = _; rw [HD.out, HB2.out, HX.out, Hm.out]; simp [joinL, macD]) W _ 2 2 hx (hT.keep hb).sha
  have HCX : Hid (∀ (W : World) (g : Nat), W.rangeAt g 0 (cellsOf m) → Sem.run Tryz.prog (convert 69 9 (.slice (some ⟨g, 0, none⟩) 32 32)) W = .ok (.string x) W) := fun W g h => by rw [HX.out]; exact conv_at W g 0 m hm32 h
  have HMR : Hid (M.toList = cellsOf m) := by show _ = _; rw [HM.out]
  clear hT HD HX HM Hm HB1 HB2 HK
  go_enter Tryz.func66, Tryz.ntmps66
  go_wp2_with (first
    | (show aD 4 _ _ _ _ _ _ _ _ _ _ _; refine wpList_new_var rfl 24 rfl Z HA.out ?_; intro g4 w1 HM4; have HBW1 : Hid (Below w.heap.size w w1) := ((Below.refl _ _).alloc (Nat.le_refl _) _).trans (HM4.out.below.mono (by simp)); have HK1 := hidk ((HM4.out.below.block _ (by simp)).trans (heap_alloc_new w (.cells Ky 48))); try simp only [Act.put, pS1, pS2, pS3])
    | (show aD 6 _ _ _ _ _ _ _ _ _ _ _; refine wpList_load_row rfl 48 (.tmp 2) rfl w.heap.size rfl 48 Ky (0, 0) _ HK1.out Tryz.underlying48 rfl HSK.out ?_; try simp only [Act.put, pS1, pS2, pS3])
    | fail)
  have h4 : w.heap.size < g4 := by have e := HM4.out.new; simp at e; omega
  have HR4 := hidk HM4.out.row
  clear HM4
  refine (C1.out _).mono ?_
  rintro e w2 ⟨rfl, hb2⟩
  have HB2w := hidk (HBW1.out.trans (hb2.mono HBW1.out.size))
  have HK2 := hidk ((hb2.block _ (heap_lt HK1.out)).trans HK1.out)
  have HR42 := hidk ((hb2.block _ (heap_lt HR4.out)).trans HR4.out)
  clear hb2 HBW1 HK1 HR4 C1
  go_wp2_with fail
  refine (O1.out _ _ rfl HB2w.out).mono ?_
  rintro e w3 ⟨rfl, hb3⟩
  have HB3w := hidk (HB2w.out.trans (hb3.mono HB2w.out.size))
  have HK3 := hidk ((hb3.block _ (heap_lt HK2.out)).trans HK2.out)
  have HR43 := hidk ((hb3.block _ (heap_lt HR42.out)).trans HR42.out)
  clear hb3 HB2w HK2 HR42 O1
  go_wp2_with (first
    | (show aD 5 _ _ _ _ _ _ _ _ _ _ _; refine wpList_new_var rfl 24 rfl Z HA.out ?_; intro g5 w4 HM5; try simp only [Act.put, pS1, pS2, pS3])
    | (refine wpList_set_var rfl 24 (.tmp 5) (.tmp 10) rfl g5 M rfl rfl 24 Z HM5.out.row HSM.out HZM.out H1M.out ?_; intro w5 HW5; try simp only [Act.put, pS1, pS2, pS3])
    | fail)
  have h5 : g4 < g5 := by rw [HM5.out.new]; exact heap_lt HR43.out
  have HB5 := hidk (HW5.out.below w3.heap.size w3 HM5.out.below (Nat.le_of_eq HM5.out.new.symm))
  have HB5w := hidk (HB3w.out.trans (HB5.out.mono HB3w.out.size))
  have HK5 := hidk ((HB5.out.block _ (heap_lt HK3.out)).trans HK3.out)
  have HR45 := hidk ((HB5.out.block _ (heap_lt HR43.out)).trans HR43.out)
  have HR5 := hidk HW5.out.row
  clear HM5 HW5 HB5 HB3w HK3 HR43
  have HBc : Hid (Below w.heap.size w w5.drew) := HB5w.out.drew
  have HR4c : Hid (w5.drew.heap[g4]? = some (.cells Z 24 (0, 0))) := HR45.out
  have HS5 := fun W => slice_at W g5 0
  clear HB5w HR45
  refine wp_region_held_drew (S := (fun W => W.heap[w.heap.size]? = some (.cells Ky 48 (0, 0)) ∧ W.heap[g5]? = some (.cells M 24 (0, 0)))) (by kernel_rfl) ⟨HK5.out, HR5.out⟩ (fun hHeld => ?_)
  refine zW 0 (.agg Ky) rfl (yieldsIf_row (by rfl) 48 (.tmp 2) rfl w.heap.size rfl 48 Ky (0, 0) _ (fun _ h => h.1) Tryz.underlying48 rfl HSK.out) hHeld ?_
  try simp only [Act.put, pS1, pS2, pS3]
  refine zW 2 (.slice (some ⟨g5, 0, none⟩) 32 32) rfl (Or.inl ⟨by rfl, by intro W hSw; have := HS5 W; go_simp⟩) hHeld ?_
  try simp only [Act.put, pS1, pS2, pS3]
  refine zW 3 (.string x) rfl (Or.inl ⟨by rfl, by intro W hSw; have := HCX.out W g5 (by rw [← HMR.out]; exact range_row (by simpa using hSw.2)); go_simp⟩) hHeld ?_
  try simp only [Act.put, pS1, pS2, pS3]
  refine wpAnyH_ready (rs := [1]) (by kernel_rfl) (by simp) ?_
  refine (AllReadyH.cons (o := { dst := some 12, op := .call { callee := .value (.func 94), args := #[.tmp 11, .const (.int .u8 92)], argTypes := #[48, 5] }, type := 9, pos := "tag.go:20", after := #[zD 0], guard := none }) rfl (fun K hK => ?_) AllReadyH.nil)
  go_simp
  refine (C2.out _).mono ?_
  rintro e w1 ⟨rfl, hbx⟩
  replace HBc := hidk (HBc.out.trans (hbx.mono HBc.out.size))
  replace HR4c := hidk ((hbx.block _ (heap_lt HR4c.out)).trans HR4c.out)
  go_wp2_with fail
  refine hK.out _ _ ⟨(hbx.block _ (heap_lt hHeld.1)).trans hHeld.1, (hbx.block _ (heap_lt hHeld.2)).trans hHeld.2⟩ (fun hHeld => ?_)
  clear hK K
  try simp only [Act.put, pS1, pS2, pS3]
  refine wpAnyH_ready (rs := [4]) (by kernel_rfl) (by simp) ?_
  refine (AllReadyH.cons (o := { dst := some 15, op := .buildSlice 153 2 #[(0, .tmp 12), (1, .tmp 14)], type := 153, pos := "tag.go:20", after := #[zD 1, zD 3], guard := none }) rfl (fun K hK => ?_) AllReadyH.nil)
  go_simp
  have HTX := hidk (texts_new w1 [b2, x] 9)
  replace HBc := hidk (HBc.out.alloc HBc.out.size (.cells #[.string b2, .string x] 9))
  replace HR4c := hidk (heap_keep (o' := .cells #[.string b2, .string x] 9) HR4c.out)
  refine hK.out _ _ ⟨heap_keep hHeld.1, heap_keep hHeld.2⟩ (fun hHeld => ?_)
  clear hK K
  try simp only [Act.put, pS1, pS2, pS3]
  refine wpAnyH_ready (rs := [5]) (by kernel_rfl) (by simp) ?_
  refine (AllReadyH.cons (o := { dst := some 16, op := .call { callee := .value (.func 93), args := #[.tmp 15], argTypes := #[153] }, type := 24, pos := "tag.go:20", after := #[zD 4, zC 1], guard := none }) rfl (fun K hK => ?_) AllReadyH.nil)
  go_simp
  refine (O2.out _ _ HTX.out HBc.out).mono ?_
  rintro e w5 ⟨rfl, hbz⟩
  replace HBc := hidk (HBc.out.trans (hbz.mono HBc.out.size))
  replace HR4c := hidk ((hbz.block _ (heap_lt HR4c.out)).trans HR4c.out)
  go_wp2_with fail
  refine hK.out _ _ ⟨(hbz.block _ (heap_lt hHeld.1)).trans hHeld.1, (hbz.block _ (heap_lt hHeld.2)).trans hHeld.2⟩ (fun hHeld => ?_)
  clear hK K
  try simp only [Act.put, pS1, pS2, pS3]
  refine wpAnyH_ready (rs := [6]) (by kernel_rfl) (by simp) ?_
  refine (AllReadyH.cons (o := { dst := none, op := .store 24 (.tmp 4) (.tmp 16), type := 0, pos := "tag.go:20", after := #[zD 5, zC 5, zP 0, zP 1, zP 2, zP 3, zP 4, zP 5], guard := none }) rfl (fun K hK => ?_) AllReadyH.nil)
  refine step_set_var (by rfl) 24 (.tmp 4) (.tmp 16) rfl g4 D rfl rfl 24 Z HR4c.out HSD.out HZD.out H1D.out ?_
  intro wz HW4
  refine hK.out _ _ ⟨(HW4.out.other w.heap.size (by omega)).trans hHeld.1, (HW4.out.other g5 (by omega)).trans hHeld.2⟩ (fun hHeld => ?_)
  clear hK K
  try simp only [Act.put, pS1, pS2, pS3]
  refine wpAnyH_done (by kernel_rfl) ?_ _
  go_wp2
  refine bodyPost_ret (v := .agg D) ?_ rfl ⟨rfl, HW4.out.below w.heap.size w HBc.out (by omega)⟩
  exact results_cell_row (p := 4) (ty := 24) rfl _ _ g4 24 D (0, 0) _ rfl HW4.out.row Tryz.underlying24 rfl HSD.out
theorem zero3 : (Tryz.prog.info? 136).map (fun i => (i.zero, i.size)) = some (some (.agg #[.int .u8 0, .int .u8 0, .int .u8 0]), 3) := by kernel_rfl
theorem size3b : (Tryz.prog.info? 136).map (·.size) = some 3 := by kernel_rfl
theorem built3 (r n : Int) : Tryz.prog.built 136 [(0, .int .u8 75), (1, .int .u8 r), (2, .int .u8 n)] = some #[.int .u8 75, .int .u8 r, .int .u8 n] := by
  have h1 : (Tryz.prog.built 136 [(0, .int .u8 75), (1, .int .u8 0), (2, .int .u8 0)]).isSome = true := by kernel_rfl
  first | rfl | simp [Program.built] | kernel_rfl
theorem wpList_build_three {P : Program} {ops : Array Oper} {rest : List Oper} {o : Oper} {a : Act} {w : World} {Q : Exit → Act → World → Prop} (hg : o.guard = none) (t : TypeId) (x y z : Operand) (ho : o.op = .build t #[(0, x), (1, y), (2, z)])
    (cs : Array Value) (vx vy vz : Value) (hx : a.eval x = vx) (hy : a.eval y = vy) (hz : a.eval z = vz) (hb : P.built t [(0, vx), (1, vy), (2, vz)] = some cs) (h : wpList P ops Q rest (a.put o.dst (.agg cs)) w) : wpList P ops Q (o :: rest) a w :=
  wpList_build_row hg t #[(0, x), (1, y), (2, z)] ho cs (by simpa [hx, hy, hz] using hb) h
theorem conv3 (W : World) (g : Nat) (r n : Int) (hr : 0 ≤ r ∧ r ≤ 255) (hn : 0 ≤ n ∧ n ≤ 255) (t : TypeId) (h : W.heap[g]? = some (.cells #[.int .u8 75, .int .u8 r, .int .u8 n] t (0, 0))) : (convert 69 9 (.slice (some ⟨g, 0, none⟩) 3 3)).run Tryz.prog W = .ok (.string ⟨#[75, UInt8.ofNat r.toNat, UInt8.ofNat n.toNat]⟩) W := by
  have e1 : ((UInt8.ofNat r.toNat).toNat : Int) = r := by rw [UInt8.toNat_ofNat']; omega
  have e2 : ((UInt8.ofNat n.toNat).toNat : Int) = n := by rw [UInt8.toNat_ofNat']; omega
  refine conv_any (l := [75, UInt8.ofNat r.toNat, UInt8.ofNat n.toNat]) (t := t) ?_ rfl
  rw [h]
  show _ = some (Obj.cells #[.int .u8 75, .int .u8 ((UInt8.ofNat r.toNat).toNat : Int), .int .u8 ((UInt8.ofNat n.toNat).toNat : Int)] t (0, 0))
  rw [e1, e2]
set_option maxHeartbeats 4000000 in
theorem key_out1 (r n : Int) (w : World) (M Z : Array Value) (HBY : Hid (Tryz.prog.built 48 [] = some Z)) (HA : Hid ((Tryz.prog.info? 48).map (fun i => (i.zero, i.size)) = some (some (.agg Z), Z.size))) (HSZ : Hid ((Tryz.prog.info? 48).map (·.size) = some Z.size)) (H1Z : Hid (Z.all (·.oneCell') = true)) (hd : r < 1) :
    Calls Tryz.prog 65 #[.agg M, .int .i64 r, .int .i64 n] w fun e w' => e = .returned (.tuple #[.agg Z, .int .i64 50]) ∧ Below w.heap.size w w' := by
  have d1 : decide (r < 1) = true := by rw [decide_eq_true_eq]; omega
  clear hd
  go_enter Tryz.func65, Tryz.ntmps65
  go_wp2_with (first
    | (show aD 6 _ _ _ _ _ _ _ _ _ _ _; refine wpList_new_var rfl 48 rfl Z HA.out ?_; intro g6 w1 HM6; try simp only [Act.put, pS1, pS2, pS3])
    | (show aD 23 _ _ _ _ _ _ _ _ _ _ _; refine wpList_build_none rfl 48 rfl Z HBY.out ?_; try simp only [Act.put, pS1, pS2, pS3])
    | (refine wpList_set_var rfl 48 (.tmp 6) (.tmp 23) rfl g6 Z rfl rfl 48 Z HM6.out.row HSZ.out rfl H1Z.out ?_; intro w2 HW6; try simp only [Act.put, pS1, pS2, pS3])
    | fail)
  refine bodyPost_ret (v := .tuple #[.agg Z, .int .i64 50]) ?_ rfl ⟨rfl, ?_⟩
  · exact results_row_tmp (p := 6) (q := 7) (ty := 48) rfl _ _ g6 48 Z (0, 0) _ rfl HW6.out.row Tryz.underlying48 rfl HSZ.out
  · have e := HM6.out.new
    rw [alloc_size] at e
    exact HW6.out.below w.heap.size w (((Below.refl _ _).alloc (Nat.le_refl _) _).trans (HM6.out.below.mono (by simp))) (by omega)
set_option maxHeartbeats 4000000 in
theorem key_out2 (r n : Int) (w : World) (M Z : Array Value) (HBY : Hid (Tryz.prog.built 48 [] = some Z)) (HA : Hid ((Tryz.prog.info? 48).map (fun i => (i.zero, i.size)) = some (some (.agg Z), Z.size))) (HSZ : Hid ((Tryz.prog.info? 48).map (·.size) = some Z.size)) (H1Z : Hid (Z.all (·.oneCell') = true)) (hd : ¬ r < 1 ∧ 5 < r) :
    Calls Tryz.prog 65 #[.agg M, .int .i64 r, .int .i64 n] w fun e w' => e = .returned (.tuple #[.agg Z, .int .i64 50]) ∧ Below w.heap.size w w' := by
  have d1 : decide (r < 1) = false := by rw [decide_eq_false_iff_not]; omega
  have d2 : decide (5 < r) = true := by rw [decide_eq_true_eq]; omega
  clear hd
  go_enter Tryz.func65, Tryz.ntmps65
  go_wp2_with (first
    | (show aD 6 _ _ _ _ _ _ _ _ _ _ _; refine wpList_new_var rfl 48 rfl Z HA.out ?_; intro g6 w1 HM6; try simp only [Act.put, pS1, pS2, pS3])
    | (show aD 23 _ _ _ _ _ _ _ _ _ _ _; refine wpList_build_none rfl 48 rfl Z HBY.out ?_; try simp only [Act.put, pS1, pS2, pS3])
    | (refine wpList_set_var rfl 48 (.tmp 6) (.tmp 23) rfl g6 Z rfl rfl 48 Z HM6.out.row HSZ.out rfl H1Z.out ?_; intro w2 HW6; try simp only [Act.put, pS1, pS2, pS3])
    | fail)
  refine bodyPost_ret (v := .tuple #[.agg Z, .int .i64 50]) ?_ rfl ⟨rfl, ?_⟩
  · exact results_row_tmp (p := 6) (q := 7) (ty := 48) rfl _ _ g6 48 Z (0, 0) _ rfl HW6.out.row Tryz.underlying48 rfl HSZ.out
  · have e := HM6.out.new
    rw [alloc_size] at e
    exact HW6.out.below w.heap.size w (((Below.refl _ _).alloc (Nat.le_refl _) _).trans (HM6.out.below.mono (by simp))) (by omega)
set_option maxHeartbeats 4000000 in
theorem key_out3 (r n : Int) (w : World) (M Z : Array Value) (HBY : Hid (Tryz.prog.built 48 [] = some Z)) (HA : Hid ((Tryz.prog.info? 48).map (fun i => (i.zero, i.size)) = some (some (.agg Z), Z.size))) (HSZ : Hid ((Tryz.prog.info? 48).map (·.size) = some Z.size)) (H1Z : Hid (Z.all (·.oneCell') = true)) (hd : ¬ r < 1 ∧ ¬ 5 < r ∧ n < 1) :
    Calls Tryz.prog 65 #[.agg M, .int .i64 r, .int .i64 n] w fun e w' => e = .returned (.tuple #[.agg Z, .int .i64 50]) ∧ Below w.heap.size w w' := by
  have d1 : decide (r < 1) = false := by rw [decide_eq_false_iff_not]; omega
  have d2 : decide (5 < r) = false := by rw [decide_eq_false_iff_not]; omega
  have d3 : decide (n < 1) = true := by rw [decide_eq_true_eq]; omega
  clear hd
  go_enter Tryz.func65, Tryz.ntmps65
  go_wp2_with (first
    | (show aD 6 _ _ _ _ _ _ _ _ _ _ _; refine wpList_new_var rfl 48 rfl Z HA.out ?_; intro g6 w1 HM6; try simp only [Act.put, pS1, pS2, pS3])
    | (show aD 23 _ _ _ _ _ _ _ _ _ _ _; refine wpList_build_none rfl 48 rfl Z HBY.out ?_; try simp only [Act.put, pS1, pS2, pS3])
    | (refine wpList_set_var rfl 48 (.tmp 6) (.tmp 23) rfl g6 Z rfl rfl 48 Z HM6.out.row HSZ.out rfl H1Z.out ?_; intro w2 HW6; try simp only [Act.put, pS1, pS2, pS3])
    | fail)
  refine bodyPost_ret (v := .tuple #[.agg Z, .int .i64 50]) ?_ rfl ⟨rfl, ?_⟩
  · exact results_row_tmp (p := 6) (q := 7) (ty := 48) rfl _ _ g6 48 Z (0, 0) _ rfl HW6.out.row Tryz.underlying48 rfl HSZ.out
  · have e := HM6.out.new
    rw [alloc_size] at e
    exact HW6.out.below w.heap.size w (((Below.refl _ _).alloc (Nat.le_refl _) _).trans (HM6.out.below.mono (by simp))) (by omega)
set_option maxHeartbeats 4000000 in
theorem key_out4 (r n : Int) (w : World) (M Z : Array Value) (HBY : Hid (Tryz.prog.built 48 [] = some Z)) (HA : Hid ((Tryz.prog.info? 48).map (fun i => (i.zero, i.size)) = some (some (.agg Z), Z.size))) (HSZ : Hid ((Tryz.prog.info? 48).map (·.size) = some Z.size)) (H1Z : Hid (Z.all (·.oneCell') = true)) (hd : ¬ r < 1 ∧ ¬ 5 < r ∧ ¬ n < 1 ∧ 3 < n) :
    Calls Tryz.prog 65 #[.agg M, .int .i64 r, .int .i64 n] w fun e w' => e = .returned (.tuple #[.agg Z, .int .i64 50]) ∧ Below w.heap.size w w' := by
  have d1 : decide (r < 1) = false := by rw [decide_eq_false_iff_not]; omega
  have d2 : decide (5 < r) = false := by rw [decide_eq_false_iff_not]; omega
  have d3 : decide (n < 1) = false := by rw [decide_eq_false_iff_not]; omega
  have d4 : decide (3 < n) = true := by rw [decide_eq_true_eq]; omega
  clear hd
  go_enter Tryz.func65, Tryz.ntmps65
  go_wp2_with (first
    | (show aD 6 _ _ _ _ _ _ _ _ _ _ _; refine wpList_new_var rfl 48 rfl Z HA.out ?_; intro g6 w1 HM6; try simp only [Act.put, pS1, pS2, pS3])
    | (show aD 23 _ _ _ _ _ _ _ _ _ _ _; refine wpList_build_none rfl 48 rfl Z HBY.out ?_; try simp only [Act.put, pS1, pS2, pS3])
    | (refine wpList_set_var rfl 48 (.tmp 6) (.tmp 23) rfl g6 Z rfl rfl 48 Z HM6.out.row HSZ.out rfl H1Z.out ?_; intro w2 HW6; try simp only [Act.put, pS1, pS2, pS3])
    | fail)
  refine bodyPost_ret (v := .tuple #[.agg Z, .int .i64 50]) ?_ rfl ⟨rfl, ?_⟩
  · exact results_row_tmp (p := 6) (q := 7) (ty := 48) rfl _ _ g6 48 Z (0, 0) _ rfl HW6.out.row Tryz.underlying48 rfl HSZ.out
  · have e := HM6.out.new
    rw [alloc_size] at e
    exact HW6.out.below w.heap.size w (((Below.refl _ _).alloc (Nat.le_refl _) _).trans (HM6.out.below.mono (by simp))) (by omega)
set_option maxHeartbeats 8000000 in
theorem key_in (master : List UInt8) (r n : Int) (w : World) (M Ky : Array Value) (HM : Hid (M = (cellsOf master).toArray)) (hm : master.length = 32) (ho : owner r n = true) (hT : TabT w) (HK : Hid (Ky = (cellsOf (keyD master r n)).toArray)) :
    Calls Tryz.prog 65 #[.agg M, .int .i64 r, .int .i64 n] w fun e w' => e = .returned (.tuple #[.agg Ky, .int .i64 0]) ∧ Below w.heap.size w w' := by
  obtain ⟨Z, HZ, HA, H32⟩ := noughtsY
  have hb := (owner_iff r n).1 ho
  have HSM : Hid ((Tryz.prog.info? 48).map (·.size) = some M.size) := by show _ = _; rw [sizeY, HM.out]; simp [cellsOf_length, hm]
  have HSK : Hid ((Tryz.prog.info? 48).map (·.size) = some Ky.size) := by show _ = _; rw [sizeY, HK.out]; simp [cellsOf_length, keyD, macD, sumD_length]
  have H1K : Hid (Ky.all (·.oneCell') = true) := by show _ = _; rw [HK.out]; exact cellsOf_all _
  have HZK : Hid (Z.size = Ky.size) := by show _ = _; rw [H32.out, HK.out]; simp [cellsOf_length, keyD, macD, sumD_length]
  have hw1 : IntKind.u8.wrap r = r := by have := IntKind.wrap_u8' r; omega
  have hw2 : IntKind.u8.wrap n = n := by have := IntKind.wrap_u8' n; omega
  have d1 : decide (r < 1) = false := by rw [decide_eq_false_iff_not]; omega
  have d2 : decide (5 < r) = false := by rw [decide_eq_false_iff_not]; omega
  have d3 : decide (n < 1) = false := by rw [decide_eq_false_iff_not]; omega
  have d4 : decide (3 < n) = false := by rw [decide_eq_false_iff_not]; omega
  obtain ⟨T3, HT3⟩ : ∃ T : Array Value, Hid (T = #[.int .u8 75, .int .u8 r, .int .u8 n]) := ⟨_, (rfl : _ = _)⟩
  obtain ⟨Z3, HZ3, HZZ⟩ : ∃ Z : Array Value, Hid ((Tryz.prog.info? 136).map (fun i => (i.zero, i.size)) = some (some (.agg Z), Z.size)) ∧ Hid (Z.size = 3) := ⟨#[.int .u8 0, .int .u8 0, .int .u8 0], zero3, (rfl : _ = _)⟩
  have HB3 : Hid (Tryz.prog.built 136 [(0, .int .u8 75), (1, .int .u8 r), (2, .int .u8 n)] = some T3) := by show _ = _; rw [HT3.out]; exact built3 r n
  have HS33 : Hid ((Tryz.prog.info? 136).map (·.size) = some T3.size) := by show _ = _; rw [HT3.out]; exact size3b
  have HZT : Hid (Z3.size = T3.size) := by show _ = _; rw [HZZ.out, HT3.out]; rfl
  have H1T : Hid (T3.all (·.oneCell') = true) := by show _ = _; rw [HT3.out]; simp [Value.oneCell']
  obtain ⟨s3, HS3⟩ : ∃ s : ByteArray, Hid (s = ⟨#[75, UInt8.ofNat r.toNat, UInt8.ofNat n.toNat]⟩) := ⟨_, (rfl : _ = _)⟩
  have HCV : Hid (∀ (W : World) (g : Nat), W.heap[g]? = some (.cells T3 136 (0, 0)) → (convert 69 9 (.slice (some ⟨g, 0, none⟩) 3 3)).run Tryz.prog W = .ok (.string s3) W) := fun W g h => by rw [HS3.out]; rw [HT3.out] at h; exact conv3 W g r n (by omega) (by omega) _ h
  have C1 : Hid (∀ W, Below w.heap.size w W → Calls Tryz.prog 66 #[.agg M, .string s3] W fun e w' => e = .returned (.agg Ky) ∧ Below W.heap.size W w') := fun W hbw => mac_any master s3 W M Ky HM hm (by rw [HS3.out]; show 3 ≤ 100000; decide) (hT.keep hbw) (by show _ = _; rw [HK.out, HS3.out]; rfl)
  clear hT HK HM HS3 ho hb
  go_enter Tryz.func65, Tryz.ntmps65
  go_wp2_with (first
    | (show aD 6 _ _ _ _ _ _ _ _ _ _ _; refine wpList_new_var rfl 48 rfl Z HA.out ?_; intro g6 w1 HM6; try simp only [Act.put, pS1, pS2, pS3])
    | (show aD 28 _ _ _ _ _ _ _ _ _ _ _; refine wpList_build_three rfl 136 _ _ _ rfl T3 _ _ _ rfl rfl rfl HB3.out ?_; try simp only [Act.put, pS1, pS2, pS3])
    | (show aD 8 _ _ _ _ _ _ _ _ _ _ _; refine wpList_new_var rfl 136 rfl Z3 HZ3.out ?_; intro g8 w2 HM8; try simp only [Act.put, pS1, pS2, pS3])
    | (refine wpList_set_var rfl 136 (.tmp 8) (.tmp 28) rfl g8 T3 rfl rfl 136 Z3 HM8.out.row HS33.out HZT.out H1T.out ?_; intro w3 HW8; try simp only [Act.put, pS1, pS2, pS3])
    | fail)
  have h6 : w.heap.size < g6 := by have e := HM6.out.new; rw [alloc_size] at e; omega
  have HB1 : Hid (Below w.heap.size w w1) := ((Below.refl _ _).alloc (Nat.le_refl _) _).trans (HM6.out.below.mono (by simp))
  have HX3 := hidk (HW8.out.below w1.heap.size w1 HM8.out.below (Nat.le_of_eq HM8.out.new.symm))
  have HK1 := hidk ((HM6.out.below.block _ (by simp)).trans (heap_alloc_new w (.cells M 48)))
  have HK3 := hidk ((HX3.out.block _ (heap_lt HK1.out)).trans HK1.out)
  have HR6 : Hid (w3.drew.heap[g6]? = some (.cells Z 48 (0, 0))) := (HX3.out.block _ (heap_lt HM6.out.row)).trans HM6.out.row
  have HR8 := hidk HW8.out.row
  have h8 : g6 < g8 := by rw [HM8.out.new]; exact heap_lt HM6.out.row
  have HBc : Hid (Below w.heap.size w w3.drew) := (HB1.out.trans (HX3.out.mono HB1.out.size)).drew
  clear HM6 HM8 HW8 HB1 HX3 HK1
  refine wp_region_held_drew (S := (fun W => W.heap[w.heap.size]? = some (.cells M 48 (0, 0)) ∧ W.heap[g8]? = some (.cells T3 136 (0, 0)))) (by kernel_rfl) ⟨HK3.out, HR8.out⟩ (fun hHeld => ?_)
  refine zW 0 (.agg M) rfl (yieldsIf_row (by rfl) 48 (.tmp 3) rfl w.heap.size rfl 48 M (0, 0) _ (fun _ h => h.1) Tryz.underlying48 rfl HSM.out) hHeld ?_
  try simp only [Act.put, pS1, pS2, pS3]
  refine zX 1 (.slice (some ⟨g8, 0, none⟩) 3 3) rfl hHeld ?_
  try simp only [Act.put, pS1, pS2, pS3]
  refine zW 2 (.string s3) rfl (Or.inl ⟨by rfl, by intro W hSw; have := HCV.out W g8 hSw.2; go_simp⟩) hHeld ?_
  try simp only [Act.put, pS1, pS2, pS3]
  refine wpAnyH_ready (rs := [3]) (by kernel_rfl) (by simp) ?_
  refine (AllReadyH.cons (o := { dst := some 32, op := .call { callee := .value (.func 66), args := #[.tmp 29, .tmp 31], argTypes := #[48, 9] }, type := 24, pos := "tag.go:39", after := #[zD 0, zD 2], guard := none }) rfl (fun K hK => ?_) AllReadyH.nil)
  go_simp
  refine (C1.out _ HBc.out).mono ?_
  rintro e w5 ⟨rfl, hbz⟩
  replace HBc := hidk (HBc.out.trans (hbz.mono HBc.out.size))
  replace HR6 := hidk ((hbz.block _ (heap_lt HR6.out)).trans HR6.out)
  go_wp2_with fail
  refine hK.out _ _ ⟨(hbz.block _ (heap_lt hHeld.1)).trans hHeld.1, (hbz.block _ (heap_lt hHeld.2)).trans hHeld.2⟩ (fun hHeld => ?_)
  clear hK K
  try simp only [Act.put, pS1, pS2, pS3]
  refine wpAnyH_ready (rs := [4]) (by kernel_rfl) (by simp) ?_
  refine (AllReadyH.cons (o := { dst := none, op := .store 48 (.tmp 6) (.tmp 32), type := 0, pos := "tag.go:39", after := #[zD 3, zC 3, zP 0, zP 1, zP 2, zP 3], guard := none }) rfl (fun K hK => ?_) AllReadyH.nil)
  refine step_set_var (by rfl) 48 (.tmp 6) (.tmp 32) rfl g6 Ky rfl rfl 48 Z HR6.out HSK.out HZK.out H1K.out ?_
  intro wz HW6
  refine hK.out _ _ ⟨(HW6.out.other w.heap.size (by omega)).trans hHeld.1, (HW6.out.other g8 (by omega)).trans hHeld.2⟩ (fun hHeld => ?_)
  clear hK K
  try simp only [Act.put, pS1, pS2, pS3]
  refine zX 5 (.int .i64 0) rfl hHeld ?_
  try simp only [Act.put, pS1, pS2, pS3]
  refine wpAnyH_done (by kernel_rfl) ?_ _
  go_wp2
  refine bodyPost_ret (v := .tuple #[.agg Ky, .int .i64 0]) ?_ rfl ⟨rfl, HW6.out.below w.heap.size w HBc.out (by omega)⟩
  exact results_row_tmp (p := 6) (q := 7) (ty := 48) rfl _ _ g6 48 Ky (0, 0) _ rfl HW6.out.row Tryz.underlying48 rfl HSK.out
theorem key_any (master : List UInt8) (r n : Int) (w : World) (M Ky : Array Value) (HM : Hid (M = (cellsOf master).toArray)) (hm : master.length = 32) (hT : TabT w) (HK : Hid (Ky = (cellsOf (keyO master r n)).toArray)) :
    Calls Tryz.prog 65 #[.agg M, .int .i64 r, .int .i64 n] w fun e w' => e = .returned (.tuple #[.agg Ky, .int .i64 (keyE r n)]) ∧ Below w.heap.size w w' := by
  by_cases ho : owner r n = true
  · rw [show keyE r n = 0 by unfold keyE; rw [if_pos ho]]
    rw [keyO_in _ _ _ ho] at HK
    exact key_in master r n w M Ky HM hm ho hT HK
  · rw [show keyE r n = 50 by unfold keyE; rw [if_neg ho]]
    rw [keyO_out _ _ _ ho] at HK
    obtain ⟨Z, HZ, HA, H32⟩ := noughtsY
    obtain rfl : Ky = Z := by rw [HK.out, HZ.out]
    have HBY : Hid (Tryz.prog.built 48 [] = some Ky) := by show _ = _; rw [HZ.out]; exact builtY
    have HSZ : Hid ((Tryz.prog.info? 48).map (·.size) = some Ky.size) := by show _ = _; rw [sizeY, H32.out]
    have H1Z : Hid (Ky.all (·.oneCell') = true) := by show _ = _; rw [HZ.out]; exact cellsOf_all _
    have h := fun q => ho ((owner_iff r n).2 q)
    by_cases h1 : r < 1
    · exact key_out1 r n w M Ky HBY HA HSZ H1Z h1
    by_cases h2 : 5 < r
    · exact key_out2 r n w M Ky HBY HA HSZ H1Z ⟨h1, h2⟩
    by_cases h3 : n < 1
    · exact key_out3 r n w M Ky HBY HA HSZ H1Z ⟨h1, h2, h3⟩
    by_cases h4 : 3 < n
    · exact key_out4 r n w M Ky HBY HA HSZ H1Z ⟨h1, h2, h3, h4⟩
    exact absurd ⟨by omega, by omega, by omega, by omega⟩ h
theorem or8 (x y : UInt8) : bits .or .u8 (x.toNat : Int) (y.toNat : Int) = ((x ||| y).toNat : Int) := by
  rw [u8_or_nat _ _ x.toNat_lt y.toNat_lt, UInt8.toNat_or]
theorem apart_next (x a b : UInt8) : x ||| (a ^^^ b) = 0 ↔ x = 0 ∧ a = b := by
  rw [UInt8.or_eq_zero_iff, UInt8.xor_eq_zero_iff]
theorem idxDg (W : World) (g k : Nat) (hj : k < 32) : (Instr.indexAt 24 (.pointer (some ⟨g, 0, none⟩)) (.int .i64 (k : Int))).run Tryz.prog W = .ok (.pointer (some ⟨g, k, none⟩)) W := by
  have hu := Tryz.underlying24
  have h2 : (k : Int) < 32 := by omega
  have h1 : (0 : Int) ≤ (k : Int) := by omega
  have h3 : ¬ (k : Int) < 0 := by omega
  simp [go_sem, hu, sizeOf5, h1, h2, h3, add_plain]
structure Seen (w : World) (A B : Array Value) (W : World) : Prop where
  a : W.heap[w.heap.size]? = some (.cells A 24 (0, 0))
  b : W.heap[w.heap.size + 1]? = some (.cells B 24 (0, 0))
  below : Below w.heap.size w W
set_option maxHeartbeats 4000000 in
theorem same_any (a b : List UInt8) (w : World) (A B : Array Value) (HA : Hid (A = (cellsOf a).toArray)) (HB : Hid (B = (cellsOf b).toArray)) (ha : a.length = 32) (hb : b.length = 32) :
    Calls Tryz.prog 95 #[.agg A, .agg B] w fun e w' => e = .returned (.bool (decide (a = b))) ∧ Below w.heap.size w w' := by
  have HL0 : Hid (Seen w A B ((w.alloc (.cells A 24)).alloc (.cells B 24))) := ⟨heap_keep (heap_alloc_new w _), by have := heap_alloc_new (w.alloc (.cells A 24)) (.cells B 24); rwa [alloc_size] at this, ((Below.refl _ _).alloc (Nat.le_refl _) _).alloc (by simp) _⟩
  go_enter Tryz.func95, Tryz.ntmps95
  go_wp2
  go_loopw [5, 7] (fun v i wr => ∃ (k : Nat) (x : UInt8), k ≤ 32 ∧ i = .int .i64 k ∧ v = .int .u8 (x.toNat : Int) ∧ Hid (x = 0 ↔ a.take k = b.take k) ∧ Hid (Seen w A B wr)) (fun _ i _ => 32 - (intOf i).toNat)
  case atStart => exact ⟨0, 0, by omega, rfl, rfl, by show _ ↔ _; simp, HL0⟩
  case round =>
    clear HL0
    obtain ⟨k, x, hk32, rfl, rfl, HX, HL⟩ := hrel
    by_cases hlt : k < 32
    · have dk : decide ((k : Int) < 32) = true := by rw [decide_eq_true_eq]; omega
      have dk' : decide (k < 32) = true := by rw [decide_eq_true_eq]; omega
      have hka : k < a.length := by omega
      have hkb : k < b.length := by omega
      obtain ⟨p, HP⟩ : ∃ p : UInt8, Hid (a[k]? = some p) := ⟨a[k], List.getElem?_eq_getElem hka⟩
      obtain ⟨q, HQ⟩ : ∃ q : UInt8, Hid (b[k]? = some q) := ⟨b[k], List.getElem?_eq_getElem hkb⟩
      obtain ⟨y, HY⟩ : ∃ y : UInt8, Hid (y = p ^^^ q) := ⟨p ^^^ q, hidk rfl⟩
      obtain ⟨z, HZ⟩ : ∃ z : UInt8, Hid (z = x ||| y) := ⟨x ||| y, hidk rfl⟩
      have hx : bits .xor .u8 (p.toNat : Int) (q.toNat : Int) = (y.toNat : Int) := by rw [HY.out]; exact xor8 p q
      have ho : bits .or .u8 (x.toNat : Int) (y.toNat : Int) = (z.toNat : Int) := by rw [HZ.out]; exact or8 x y
      have HN : Hid (z = 0 ↔ a.take (k + 1) = b.take (k + 1)) := by
        show _ ↔ _
        rw [HZ.out, HY.out, apart_next, List.take_add_one, List.take_add_one, HP.out, HQ.out, HX.out]
        constructor
        · rintro ⟨h1, rfl⟩; rw [h1]
        · intro h
          have := List.append_inj h (by rw [List.length_take, List.length_take, ha, hb])
          exact ⟨this.1, by simpa using this.2⟩
      have CA : Hid (∀ W : World, W.heap[w.heap.size]? = some (.cells A 24 (0, 0)) → W.cell? ⟨w.heap.size, k, none⟩ = some (.int .u8 (p.toNat : Int))) := fun W h => by
        rw [cell_of_row W _ k _ 24 (0, 0) h, HA.out]
        obtain ⟨hh, e⟩ := List.getElem?_eq_some_iff.1 HP.out
        rw [← e]
        simpa using cellsOf_at a k hh
      have CB : Hid (∀ W : World, W.heap[w.heap.size + 1]? = some (.cells B 24 (0, 0)) → W.cell? ⟨w.heap.size + 1, k, none⟩ = some (.int .u8 (q.toNat : Int))) := fun W h => by
        rw [cell_of_row W _ k _ 24 (0, 0) h, HB.out]
        obtain ⟨hh, e⟩ := List.getElem?_eq_some_iff.1 HQ.out
        rw [← e]
        simpa using cellsOf_at b k hh
      have i1 := fun W => idxDg W w.heap.size k hlt
      have i2 := fun W => idxDg W (w.heap.size + 1) k hlt
      clear HX HP HQ HY HZ hka hkb
      go_wp2
      have HLd : Hid (Seen w A B wr.drew) := ⟨HL.out.a, HL.out.b, HL.out.below.drew⟩
      refine wp_region_held_drew (S := (fun W => W.heap[w.heap.size]? = some (.cells A 24 (0, 0)) ∧ W.heap[w.heap.size + 1]? = some (.cells B 24 (0, 0)))) (by kernel_rfl) ⟨HL.out.a, HL.out.b⟩ (fun hHeld => ?_)
      refine zX 0 (.int .u8 (x.toNat : Int)) rfl hHeld ?_
      try simp only [Act.put, pS1, pS2, pS3]
      refine zX 1 (.int .i64 (k : Int)) rfl hHeld ?_
      try simp only [Act.put, pS1, pS2, pS3]
      refine zW 2 (.pointer (some ⟨w.heap.size, k, none⟩)) rfl (Or.inl ⟨by rfl, by intro W hSw; have := i1 W; go_simp⟩) hHeld ?_
      try simp only [Act.put, pS1, pS2, pS3]
      refine zW 3 (.int .u8 (p.toNat : Int)) rfl (Or.inl ⟨by rfl, by intro W hSw; have := CA.out W hSw.1; go_simp⟩) hHeld ?_
      try simp only [Act.put, pS1, pS2, pS3]
      refine zX 4 (.int .i64 (k : Int)) rfl hHeld ?_
      try simp only [Act.put, pS1, pS2, pS3]
      refine zW 5 (.pointer (some ⟨w.heap.size + 1, k, none⟩)) rfl (Or.inl ⟨by rfl, by intro W hSw; have := i2 W; go_simp⟩) hHeld ?_
      try simp only [Act.put, pS1, pS2, pS3]
      refine zW 6 (.int .u8 (q.toNat : Int)) rfl (Or.inl ⟨by rfl, by intro W hSw; have := CB.out W hSw.2; go_simp⟩) hHeld ?_
      try simp only [Act.put, pS1, pS2, pS3]
      refine zX 7 (.int .u8 (y.toNat : Int)) rfl hHeld ?_
      try simp only [Act.put, pS1, pS2, pS3]
      refine zX 8 (.int .u8 (z.toNat : Int)) rfl hHeld ?_
      try simp only [Act.put, pS1, pS2, pS3]
      refine zX 9 (.int .u8 (z.toNat : Int)) rfl hHeld ?_
      try simp only [Act.put, pS1, pS2, pS3]
      refine wpAnyH_done (by kernel_rfl) ?_ _
      clear i1 i2 CA CB
      go_wp2
      go_roundw
      case rel => exact ⟨k + 1, z, by omega, by go_num, rfl, HN, HLd⟩
      case measure => simp [intOf]; omega
    · obtain rfl : k = 32 := by omega
      have HBL := hidk HL.out.below
      have hd : ((x.toNat : Int) == 0) = decide (a = b) := by
        rw [show ((x.toNat : Int) == 0) = decide ((x.toNat : Int) = 0) from by rw [Bool.eq_iff_iff]; simp only [beq_iff_eq, decide_eq_true_eq]]
        have e := HX.out
        rw [List.take_of_length_le (by omega), List.take_of_length_le (by omega)] at e
        by_cases h : a = b
        · rw [decide_eq_true h, decide_eq_true_eq, e.2 h]; rfl
        · rw [decide_eq_false h, decide_eq_false_iff_not]
          intro h0
          exact h (e.1 (UInt8.toNat_inj.1 (by simpa using h0)))
      clear HL HX
      go_wp2
      go_ret
      refine ⟨?_, HBL.out⟩
      first | rfl | (rw [← hd]; simp) | simp [← hd]
set_option maxHeartbeats 8000000 in
theorem holds_any (master : List UInt8) (r n : Int) (s : ByteArray) (t : List UInt8) (w : World) (M U : Array Value) (HM : Hid (M = (cellsOf master).toArray)) (HU : Hid (U = (cellsOf t).toArray)) (hm : master.length = 32) (ht : t.length = 32) (hs : s.size ≤ 100000) (hT : TabT w) :
    Calls Tryz.prog 68 #[.agg M, .int .i64 r, .int .i64 n, .string s, .agg U] w fun e w' => e = .returned (.int .i64 (holdE master r n s.data.toList t)) ∧ Below w.heap.size w w' := by
  obtain ⟨Z, HZ, HA, H32⟩ := noughtsY
  have hko := keyO_length sumD_length master r n
  obtain ⟨Ky, HK, HSK, H1K, H32K⟩ := key_row (keyO master r n) hko
  have HZK : Hid (Z.size = Ky.size) := by show _ = _; rw [H32.out, H32K.out]
  have HSM : Hid ((Tryz.prog.info? 48).map (·.size) = some M.size) := by show _ = _; rw [sizeY, HM.out]; simp [cellsOf_length, hm]
  have HSU : Hid ((Tryz.prog.info? 24).map (·.size) = some U.size) := by show _ = _; rw [size23, HU.out]; simp [cellsOf_length, ht]
  obtain ⟨k, Hk⟩ : ∃ k, Hid (k = keyE r n) := ⟨_, (rfl : _ = _)⟩
  have C1 : Hid (∀ W, Below w.heap.size w W → Calls Tryz.prog 65 #[.agg M, .int .i64 r, .int .i64 n] W fun e w' => e = .returned (.tuple #[.agg Ky, .int .i64 k]) ∧ Below W.heap.size W w') := fun W hb => by rw [Hk.out]; exact key_any master r n W M Ky HM hm (hT.keep hb) HK
  obtain ⟨D, HD, HSD, H1D, H32D⟩ := dig_row' (macD (keyO master r n) s.data.toList) (sumD_length _)
  obtain ⟨b, Hb⟩ : ∃ b, Hid (b = decide (t = macD (keyO master r n) s.data.toList)) := ⟨_, (rfl : _ = _)⟩
  have C2 : Hid (∀ W, Below w.heap.size w W → Calls Tryz.prog 66 #[.agg Ky, .string s] W fun e w' => e = .returned (.agg D) ∧ Below W.heap.size W w') := fun W hb => mac_any _ s W Ky D HK hko hs (hT.keep hb) HD
  have C3 : Hid (∀ W, Calls Tryz.prog 95 #[.agg U, .agg D] W fun e w' => e = .returned (.bool b) ∧ Below W.heap.size W w') := fun W => by rw [Hb.out]; exact same_any t _ W U D HU HD ht (sumD_length _)
  have HW0 : Hid (Below w.heap.size w ((w.alloc (.cells M 48)).alloc (.cells U 24)) ∧ ((w.alloc (.cells M 48)).alloc (.cells U 24)).heap[w.heap.size]? = some (.cells M 48 (0, 0)) ∧ ((w.alloc (.cells M 48)).alloc (.cells U 24)).heap[w.heap.size + 1]? = some (.cells U 24 (0, 0))) :=
    ⟨((Below.refl _ _).alloc (Nat.le_refl _) _).alloc (by simp) _, heap_keep (heap_alloc_new w _), by have := heap_alloc_new (w.alloc (.cells M 48)) (.cells U 24); rwa [alloc_size] at this⟩
  have hk0 : (k = 0 ∧ owner r n = true) ∨ (k = 50 ∧ ¬ owner r n = true) := by
    rw [Hk.out]; unfold keyE
    by_cases ho : owner r n = true
    · rw [if_pos ho]; exact .inl ⟨rfl, ho⟩
    · rw [if_neg ho]; exact .inr ⟨rfl, ho⟩
  obtain ⟨z, Hz⟩ : ∃ z, Hid (z = holdE master r n s.data.toList t) := ⟨_, (rfl : _ = _)⟩
  rw [← Hz.out]
  clear hT HD HK HM HU Hk
  go_enter Tryz.func68, Tryz.ntmps68
  go_wp2_with (first
    | (show aD 14 _ _ _ _ _ _ _ _ _ _ _; refine wpList_load_row rfl 48 (.tmp 5) rfl w.heap.size rfl 48 M (0, 0) _ HW0.out.2.1 Tryz.underlying48 rfl HSM.out ?_; try simp only [Act.put, pS1, pS2, pS3])
    | fail)
  refine (C1.out _ HW0.out.1).mono ?_
  rintro e w1 ⟨rfl, hb1⟩
  have HB1 := hidk (HW0.out.1.trans (hb1.mono HW0.out.1.size))
  have HU1 := hidk ((hb1.block _ (heap_lt HW0.out.2.2)).trans HW0.out.2.2)
  clear hb1 HW0 C1
  rcases hk0 with ⟨rfl, ho⟩ | ⟨rfl, ho⟩
  · have HE : Hid (z = if b = true then 0 else 72) := by
      show _ = _
      rw [Hz.out, holdE_in _ _ _ _ _ ho, ← keyO_in _ _ _ ho, Hb.out]
      by_cases h : t = macD (keyO master r n) s.data.toList
      · rw [if_pos h.symm, if_pos (by simpa using h)]
      · rw [if_neg (fun q => h q.symm), if_neg (by simpa using h)]
    clear Hb Hz ho
    go_wp2_with (first
      | (show aD 11 _ _ _ _ _ _ _ _ _ _ _; refine wpList_new_var rfl 48 rfl Z HA.out ?_; intro g11 w2 HM11; try simp only [Act.put, pS1, pS2, pS3])
      | (refine wpList_set_var rfl 48 (.tmp 11) (.tmp 18) rfl g11 Ky rfl rfl 48 Z HM11.out.row HSK.out HZK.out H1K.out ?_; intro w3 HW11; try simp only [Act.put, pS1, pS2, pS3])
      | fail)
    have HX3 := hidk (HW11.out.below w1.heap.size w1 HM11.out.below (Nat.le_of_eq HM11.out.new.symm))
    have HBc : Hid (Below w.heap.size w w3.drew) := (HB1.out.trans (HX3.out.mono HB1.out.size)).drew
    have HU3 := hidk ((HX3.out.block _ (heap_lt HU1.out)).trans HU1.out)
    have HK3 := hidk HW11.out.row
    clear HM11 HW11 HX3 HB1 HU1
    refine wp_region_held_drew (S := (fun W => W.heap[w.heap.size + 1]? = some (.cells U 24 (0, 0)) ∧ W.heap[g11]? = some (.cells Ky 48 (0, 0)))) (by kernel_rfl) ⟨HU3.out, HK3.out⟩ (fun hHeld => ?_)
    refine zW 0 (.agg U) rfl (yieldsIf_row (by rfl) 24 (.tmp 9) rfl (w.heap.size + 1) rfl 24 U (0, 0) _ (fun _ h => h.1) Tryz.underlying24 rfl HSU.out) hHeld ?_
    try simp only [Act.put, pS1, pS2, pS3]
    refine zW 1 (.agg Ky) rfl (yieldsIf_row (by rfl) 48 (.tmp 11) rfl g11 rfl 48 Ky (0, 0) _ (fun _ h => h.2) Tryz.underlying48 rfl HSK.out) hHeld ?_
    try simp only [Act.put, pS1, pS2, pS3]
    refine zX 2 (.string s) rfl hHeld ?_
    try simp only [Act.put, pS1, pS2, pS3]
    refine wpAnyH_ready (rs := [3]) (by kernel_rfl) (by simp) ?_
    refine (AllReadyH.cons (o := { dst := some 26, op := .call { callee := .value (.func 66), args := #[.tmp 24, .tmp 25], argTypes := #[48, 9] }, type := 24, pos := "tag.go:48", after := #[zD 1, zD 2], guard := none }) rfl (fun K hK => ?_) AllReadyH.nil)
    go_simp
    refine (C2.out _ HBc.out).mono ?_
    rintro e w4 ⟨rfl, hb4⟩
    replace HBc := hidk (HBc.out.trans (hb4.mono HBc.out.size))
    go_wp2_with fail
    refine hK.out _ _ ⟨(hb4.block _ (heap_lt hHeld.1)).trans hHeld.1, (hb4.block _ (heap_lt hHeld.2)).trans hHeld.2⟩ (fun hHeld => ?_)
    clear hK K
    try simp only [Act.put, pS1, pS2, pS3]
    refine wpAnyH_ready (rs := [4]) (by kernel_rfl) (by simp) ?_
    refine (AllReadyH.cons (o := { dst := some 27, op := .call { callee := .value (.func 95), args := #[.tmp 23, .tmp 26], argTypes := #[24, 24] }, type := 4, pos := "tag.go:48", after := #[zD 0, zD 3, zC 3], guard := none }) rfl (fun K hK => ?_) AllReadyH.nil)
    go_simp
    refine (C3.out _).mono ?_
    rintro e w5 ⟨rfl, hb5⟩
    replace HBc := hidk (HBc.out.trans (hb5.mono HBc.out.size))
    go_wp2_with fail
    refine hK.out _ _ ⟨(hb5.block _ (heap_lt hHeld.1)).trans hHeld.1, (hb5.block _ (heap_lt hHeld.2)).trans hHeld.2⟩ (fun hHeld => ?_)
    clear hK K
    try simp only [Act.put, pS1, pS2, pS3]
    refine zX 5 (.bool (!b)) rfl hHeld ?_
    try simp only [Act.put, pS1, pS2, pS3]
    refine wpAnyH_done (by kernel_rfl) ?_ _
    cases b
    · go_wp2
      go_ret
      exact ⟨by rw [HE.out]; rfl, HBc.out⟩
    · go_wp2
      go_ret
      exact ⟨by rw [HE.out]; rfl, HBc.out⟩
  · have HE : Hid (z = 50) := by show _ = _; rw [Hz.out, holdE_out _ _ _ _ _ ho]
    clear Hb Hz ho
    go_wp2_with (first
      | (show aD 11 _ _ _ _ _ _ _ _ _ _ _; refine wpList_new_var rfl 48 rfl Z HA.out ?_; intro g11 w2 HM11; try simp only [Act.put, pS1, pS2, pS3])
      | (refine wpList_set_var rfl 48 (.tmp 11) (.tmp 18) rfl g11 Ky rfl rfl 48 Z HM11.out.row HSK.out HZK.out H1K.out ?_; intro w3 HW11; try simp only [Act.put, pS1, pS2, pS3])
      | fail)
    have HX3 := hidk (HW11.out.below w1.heap.size w1 HM11.out.below (Nat.le_of_eq HM11.out.new.symm))
    go_ret
    exact ⟨by rw [HE.out]; rfl, HB1.out.trans (HX3.out.mono HB1.out.size)⟩
end Go.Proofs.YtkmedlfbkddmoaaGreatDoor
