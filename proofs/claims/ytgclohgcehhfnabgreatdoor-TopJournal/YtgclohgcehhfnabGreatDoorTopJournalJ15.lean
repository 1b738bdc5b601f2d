/- Texts of our own that the row of TopJournal leans on, part 15. -/
import Derived.Test.YtgclohgcehhfnabGreatDoorTopJournalJ0
import Derived.Test.YtgclohgcehhfnabGreatDoorTopJournalJ6
import Derived.Test.YtgclohgcehhfnabGreatDoorTopJournalJ9
import Derived.Test.YtgclohgcehhfnabGreatDoorTopJournalJ12
import Derived.Test.YtgclohgcehhfnabGreatDoorTopJournalJ13
import Derived.BigQuiet
import Derived.Stop.BytesEq
import Derived.Deep.MidRow
import Derived.OneCell
import Derived.Laws.BitsAllLaws
import Derived.OwnWalk
/- What sha.Of answers: the sum of the parts' bytes, one part behind the other. -/
namespace Go.Proofs.YtgclohgcehhfnabGreatDoor
open Go.RowKit Sums
set_option maxRecDepth 100000
set_option linter.unusedVariables false
set_option linter.unusedSimpArgs false
theorem zero27 : (Tryz.prog.info? 39).map (fun i => (i.zero, i.size)) = some (some (.agg (cellsOf (List.replicate 32 0)).toArray), 32) := by kernel_rfl
theorem noughts27 : ∃ Z : Array Value, Hid (Z = (cellsOf (List.replicate 32 0)).toArray) ∧ Hid ((Tryz.prog.info? 39).map (fun i => (i.zero, i.size)) = some (some (.agg Z), Z.size)) ∧
    Hid ((Tryz.prog.info? 39).map (·.size) = some Z.size) ∧ Hid (Z.all (·.oneCell') = true) ∧ Hid (Z.size = 32) :=
  ⟨(cellsOf (List.replicate 32 0)).toArray, (rfl : _ = _), zero27, size23, cellsOf_all _, (rfl : _ = _)⟩
theorem dig_row' (l : List UInt8) (hl : l.length = 32) : ∃ D : Array Value, Hid (D = (cellsOf l).toArray) ∧ Hid ((Tryz.prog.info? 39).map (·.size) = some D.size) ∧ Hid (D.all (·.oneCell') = true) ∧ Hid (D.size = 32) := by
  refine ⟨(cellsOf l).toArray, (rfl : _ = _), ?_, cellsOf_all l, ?_⟩
  · show _ = _
    rw [size23]; simp [cellsOf_length, hl]
  · show _ = _
    simp [cellsOf_length, hl]
theorem step_load_row {P : Program} {ops : Array Oper} {o : Oper} {a : Act} {w : World} {K : Act → World → Prop} {Q : Exit → Act → World → Prop} {E : Prop} (hw : Region.wanted o (yielded ops a.tmps) = true) (ty : TypeId) (x : Operand) (ho : o.op = .load ty x)
    (g : Nat) (hx : a.eval x = .pointer (some ⟨g, 0, none⟩)) (t : TypeId) (cs : Array Value) (fr : Nat × Nat) (d : TypeDesc) (hg : w.heap[g]? = some (.cells cs t fr))
    (hu : P.underlying ty = some d) (hd : (match d with | .struct _ | .array _ _ => true | _ => false) = true) (hi : (P.info? ty).map (·.size) = some cs.size)
    (h : K (a.put o.dst (.agg cs)) w) : if Region.wanted o (yielded ops a.tmps) = true then Oper.wp P o a w K Q else E := by
  rw [if_pos hw]
  exact wp_load_row ty x ho g hx t cs fr d hg hu hd hi h
theorem step_store_row {P : Program} {ops : Array Oper} {o : Oper} {a : Act} {w : World} {K : Act → World → Prop} {Q : Exit → Act → World → Prop} {E : Prop} (hw : Region.wanted o (yielded ops a.tmps) = true) (ty : TypeId) (x y : Operand) (ho : o.op = .store ty x y)
    (g : Nat) (cells : Array Value) (hx : a.eval x = .pointer (some ⟨g, 0, none⟩)) (hy : a.eval y = .agg cells)
    (t : TypeId) (old : Array Value) (hg : w.heap[g]? = some (.cells old t (0, 0))) (hi : (P.info? ty).map (·.size) = some cells.size)
    (hold : old.size = cells.size) (h1 : cells.all (·.oneCell') = true)
    (h : K (a.put o.dst undef) (w.setRow g cells)) : if Region.wanted o (yielded ops a.tmps) = true then Oper.wp P o a w K Q else E := by
  rw [if_pos hw]
  exact wp_store_row ty x y ho g cells hx hy t old hg hi hold h1 h
theorem pad_length (l : List UInt8) : (pad l).length = 64 * nBlocks l.length := by
  unfold pad be8
  simp
  unfold nBlocks
  omega
theorem first_ok : OkSt first := by
  intro z hz
  simp only [first, St.list, List.mem_cons, List.not_mem_nil, or_false] at hz
  rcases hz with rfl | rfl | rfl | rfl | rfl | rfl | rfl | rfl <;> omega
theorem blocks_ok (s : St) (m : List UInt8) (n : Nat) (h : OkSt s) : OkSt (blocks s m n) := by
  induction n with
  | zero => exact h
  | succ n ih => exact plus_ok _ _
theorem slice_from (w : World) (g i : Nat) (hi : i < 8) :
    (Instr.sliceAt 39 (.pointer (some ⟨g, 0, none⟩)) (some (.int .i64 (4 * (i : Int)))) none none).run Tryz.prog w = .ok (.slice (some ⟨g, 4 * i, none⟩) (32 - 4 * i) (32 - 4 * i)) w := by
  have h1 : 4 * (i : Int) ≤ 32 := by omega
  have h2 : 0 ≤ 4 * (i : Int) := by omega
  simp [Instr.sliceAt, Instr.slice, Instr.sliceBounds, Instr.sliceBound, asIntOf, run_underlying Tryz.underlying39, Instr.sureAddr, h1, h2]
  rw [show (4 * (i : Int)).toNat = 4 * i by omega, if_neg (by omega), add_plain]
  simp
theorem slice_all (w : World) (g : Nat) : (Instr.sliceAt 39 (.pointer (some ⟨g, 0, none⟩)) none none none).run Tryz.prog w = .ok (.slice (some ⟨g, 0, none⟩) 32 32) w := by
  simp [Instr.sliceAt, Instr.slice, Instr.sliceBounds, run_underlying Tryz.underlying39, Instr.sureAddr]
  rw [add_plain]
theorem flat4_length (l : List Int) : (l.flatMap bytes4).length = 4 * l.length := by
  induction l with
  | nil => rfl
  | cons z l ih => simp [bytes4] at ih ⊢; omega
def part (l : List Int) (i : Nat) : List UInt8 := (l.take i).flatMap bytes4 ++ List.replicate (32 - 4 * i) 0
theorem part_length (l : List Int) (i : Nat) (hl : l.length = 8) (hi : i ≤ 8) : (part l i).length = 32 := by
  unfold part
  rw [List.length_append, flat4_length, List.length_take, List.length_replicate]
  omega
theorem part_put (l : List Int) (i : Nat) (hl : l.length = 8) (hi : i < 8) : put4 (part l i) (4 * i) l[i] = part l (i + 1) := by
  unfold part put4
  have h1 : ((l.take i).flatMap bytes4).length = 4 * i := by rw [flat4_length, List.length_take]; omega
  rw [List.take_left' h1, ← List.drop_drop, List.drop_left' h1, List.take_add_one, List.getElem?_eq_getElem (by omega), List.flatMap_append]
  simp
  omega
theorem part_all (l : List Int) (hl : l.length = 8) : part l 8 = l.flatMap bytes4 := by
  unfold part
  rw [List.take_of_length_le (by omega)]
  simp
theorem sumD_length (l : List UInt8) : (sumD l).length = 32 := by
  unfold sumD
  rw [flat4_length]
  rfl
set_option maxHeartbeats 2000000 in
set_option maxRecDepth 100000 in
theorem of_any (a : Option Addr) (len cap : Nat) (ss : List ByteArray) (w : World) (hT : Texts w a len ss) (ht : total ss ≤ 1000000) (hlen : len ≤ 9223372036854775807) (hK : Table 0 w) :
    Calls Tryz.prog 107 #[.slice a len cap] w fun e w' => e = .returned (digV (sumD (joinL ss))) ∧ Below w.heap.size w w' := by
  obtain ⟨Z, HZ, HA, HS, H1, H32⟩ := noughts27
  obtain ⟨Z8, HA8, HS8, H8⟩ := noughts38
  have HSF : Hid ((Tryz.prog.info? 185).map (·.size) = some (wcells first.list).toArray.size) := size38
  have HZF : Hid (Z8.size = (wcells first.list).toArray.size) := H8.out
  have H1F : Hid ((wcells first.list).toArray.all (·.oneCell') = true) := wcells_all _
  have HM : Hid (∀ w1, Below w.heap.size w w1 → Calls Tryz.prog 122 #[.slice a len cap] w1 fun e w' => ∃ g, e = .returned (.slice (some ⟨g, 0, none⟩) (64 * nBlocks (total ss)) (64 * nBlocks (total ss))) ∧
      w'.heap[g]? = some (.cells (cellsOf (pad (joinL ss))).toArray 5 (0, 0)) ∧ w1.heap.size ≤ g ∧ Below w1.heap.size w1 w') := fun w1 hb1 => message_any a len cap ss w1 (hT.keep hb1) ht hlen
  have HTB : Hid (Table 0 w) := hK
  have HTT : Hid (total ss ≤ 1000000) := ht
  clear hT hK ht
  go_enter Tryz.func107, Tryz.ntmps107
  go_wp2_with (first
    | (refine wpList_alloc_row rfl 39 rfl Z HA.out ?_)
    | (refine wpList_alloc_row rfl 185 rfl Z8 HA8.out ?_)
    | (refine wpList_store_row rfl 185 (.tmp 3) (.tmp 9) rfl (w.alloc (.cells Z 39)).heap.size (wcells first.list).toArray rfl (by rfl) 185 Z8 (heap_alloc_new (w.alloc (.cells Z 39)) _) HSF.out HZF.out H1F.out ?_)
    | fail)
  have hB0 : Below w.heap.size w (((w.alloc (.cells Z 39)).alloc (.cells Z8 185)).setRow (w.heap.size + 1) (wcells first.list).toArray) := below_setRow (((Below.refl _ _).alloc (Nat.le_refl _) _).alloc (by simp) _) (by omega) _
  refine (HM.out _ hB0).mono ?_
  rintro e w1 ⟨g, rfl, hg, hgs, hb1⟩
  have hgs' : w.heap.size + 2 ≤ g := by simp only [setRow_size, World.size_alloc] at hgs; omega
  obtain ⟨N, HN⟩ : ∃ N, Hid (N = nBlocks (total ss)) := ⟨_, (rfl : nBlocks (total ss) = _)⟩
  rw [← HN.out]
  have hN : N ≤ 20000 := by have := HN.out; have := HTT.out; unfold nBlocks at *; omega
  have HG0 : Hid (w1.heap[w.heap.size]? = some (.cells Z 39 (0, 0)) ∧ w1.heap[w.heap.size + 1]? = some (.cells (wcells (blocks first (pad (joinL ss)) 0).list).toArray 185 (0, 0))) := by
    refine ⟨?_, ?_⟩
    · rw [hb1.block _ (by simp only [setRow_size, World.size_alloc]; omega), setRow_other _ _ _ _ (by omega)]; exact heap_alloc2_old w _ _
    · rw [hb1.block _ (by simp only [setRow_size, World.size_alloc]; omega)]; exact setRow_heap _ _ _ _ 185 _ (heap_alloc2_new w _ _)
  have HGM : Hid (w1.heap[g]? = some (.cells (cellsOf (pad (joinL ss))).toArray 5 (0, 0))) := hg
  have hB1 : Below w.heap.size w w1 := hB0.trans (hb1.mono (by simp only [setRow_size, World.size_alloc]; omega))
  have hgw : g < w1.heap.size := heap_lt hg
  clear hg hgs hb1 hB0 HM
  go_wp2
  go_loopw [5] (fun v wr => ∃ k : Nat, k ≤ N ∧ v = .int .i64 (64 * (k : Int)) ∧ Hid (wr.heap[w.heap.size]? = some (.cells Z 39 (0, 0)) ∧ wr.heap[w.heap.size + 1]? = some (.cells (wcells (blocks first (pad (joinL ss)) k).list).toArray 185 (0, 0)) ∧
      wr.heap[g]? = some (.cells (cellsOf (pad (joinL ss))).toArray 5 (0, 0))) ∧ Below w.heap.size w wr)
    (fun v _ => 64 * N - (intOf v).toNat)
  case atStart => exact ⟨0, by omega, rfl, ⟨HG0.out.1, HG0.out.2, HGM.out⟩, hB1⟩
  case round =>
    clear HG0 HGM hB1
    obtain ⟨k, hk, rfl, HG, hB⟩ := hrel
    by_cases hlt : k < N
    · have hdi : decide ((64 : Int) * (k : Int) < 64 * (N : Int)) = true := by rw [decide_eq_true_eq]; omega
      have hw64 := wrap_int (64 * (k : Int) + 64) (by omega) (by omega)
      obtain ⟨m, HM⟩ : ∃ m, Hid (m = pad (joinL ss)) := ⟨_, (rfl : pad (joinL ss) = _)⟩
      have HML : Hid (m.length = 64 * N) := by show _ = _; rw [HM.out, pad_length, joinL_length, HN.out]
      obtain ⟨s, HSt⟩ : ∃ s, Hid (s = blocks first (pad (joinL ss)) k) := ⟨_, (rfl : blocks first (pad (joinL ss)) k = _)⟩
      obtain ⟨L, HL, HSL, H1L, H8L⟩ := words_row s.list 185 8 rfl size38
      obtain ⟨L2, HL2, HSL2, H1L2, H8L2⟩ := words_row (block s ((m.drop (64 * k)).take 64)).list 185 8 rfl size38
      have HLL : Hid (L.size = L2.size) := by show _ = _; rw [H8L.out, H8L2.out]
      have HGs : Hid (wr.heap[w.heap.size + 1]? = some (.cells L 185 (0, 0))) := by show _ = _; rw [HL.out, HSt.out]; exact HG.out.2.1
      have HKM : Hid (∀ w2, Below wr.heap.size wr w2 → Calls Tryz.prog 123 #[.agg L, .slice (some ⟨g, 64 * k, none⟩) 64 (64 * N - 64 * k)] w2 fun e w' => e = .returned (.agg L2) ∧ Below w2.heap.size w2 w') := by
        intro w2 hb2
        rw [HL.out, HL2.out]
        have hgr := heap_lt HG.out.2.2
        have hly : Lies wr g 0 m := fun i hi => by
          rw [Nat.zero_add, cell_of_row wr g i _ 5 (0, 0) HG.out.2.2, ← HM.out]
          simp [cellsOf_at m i hi]
        have hl2 : Lies w2 g (0 + 64 * k) ((m.drop (64 * k)).take 64) := ((hly.keep hb2 hgr).drop (64 * k)).take 64
        rw [Nat.zero_add] at hl2
        have hlen2 : ((m.drop (64 * k)).take 64).length = 64 := by
          have := HML.out
          simp; omega
        exact mixed_any s g (64 * k) (64 * N - 64 * k) _ w2 (by rw [HSt.out]; exact blocks_ok _ _ _ first_ok) hlen2 (by omega) (by omega) (Nat.lt_of_lt_of_le hgr hb2.size) hl2 ((HTB.out.keep hB).keep hb2)
      have hb0 : (0 : Int) ≤ 64 * (k : Int) := by omega
      have hb1 : 64 * (k : Int) ≤ 64 * (k : Int) + 64 := by omega
      have hb2 : 64 * (k : Int) + 64 ≤ 64 * (N : Int) := by omega
      go_wp2
      refine wp_region_held_drew (S := (fun _ => True)) (by kernel_rfl) trivial (fun hHeld => ?_)
      refine zW 1 (.slice (some ⟨g, 0, none⟩) (64 * N) (64 * N)) rfl (Or.inl ⟨by rfl, by intro w hSw; go_simp⟩) hHeld ?_
      try simp only [Act.put, pS1, pS2, pS3]
      refine zW 2 (.int .i64 (64 * (k : Int))) rfl (Or.inl ⟨by rfl, by intro w hSw; go_simp⟩) hHeld ?_
      try simp only [Act.put, pS1, pS2, pS3]
      refine zW 3 (.int .i64 (64 * (k : Int))) rfl (Or.inl ⟨by rfl, by intro w hSw; go_simp⟩) hHeld ?_
      try simp only [Act.put, pS1, pS2, pS3]
      refine zW 4 (.int .i64 (64 * (k : Int) + 64)) rfl (Or.inl ⟨by rfl, by intro w hSw; go_simp⟩) hHeld ?_
      try simp only [Act.put, pS1, pS2, pS3]
      refine zW 5 (.slice (some ⟨g, 64 * k, none⟩) 64 (64 * N - 64 * k)) rfl (Or.inl ⟨by rfl, by intro W hSw; go_simp; rw [show (64 * (k : Int)).toNat = 64 * k by omega, if_neg (by omega)]; exact ⟨rfl, by omega, rfl⟩⟩) hHeld ?_
      try simp only [Act.put, pS1, pS2, pS3]
      refine wpAnyH_ready (rs := [0]) (by kernel_rfl) (by simp) ?_
      refine AllReadyH.cons (o := { dst := some 18, op := .load 185 (.tmp 3), type := 185, pos := "sha.go:33", after := #[], guard := none }) rfl (fun K hK => ?_) AllReadyH.nil
      refine step_load_row (by rfl) 185 (.tmp 3) rfl (w.heap.size + 1) rfl 185 L (0, 0) _ HGs.out Tryz.underlying185 rfl HSL.out ?_
      refine hK.out _ _ trivial (fun hHeld => ?_)
      clear hK K
      try simp only [Act.put, pS1, pS2, pS3]
      refine wpAnyH_ready (rs := [6]) (by kernel_rfl) (by simp) ?_
      refine AllReadyH.cons (o := { dst := some 24, op := .call { callee := .value (.func 123), args := #[.tmp 18, .tmp 23], argTypes := #[185, 34] }, type := 185, pos := "sha.go:33", after := #[zD 0, zD 5], guard := none }) rfl (fun K hK => ?_) AllReadyH.nil
      go_simp
      refine (HKM.out _ (Below.refl _ _).drew).mono ?_
      rintro e w3 ⟨rfl, hb3⟩
      have HG3 : Hid (w3.heap[w.heap.size + 1]? = some (.cells L 185 (0, 0))) := (hb3.block _ (heap_lt HGs.out)).trans HGs.out
      go_wp2_with fail
      refine hK.out _ _ trivial (fun hHeld => ?_)
      clear hK K
      try simp only [Act.put, pS1, pS2, pS3]
      refine wpAnyH_ready (rs := [7]) (by kernel_rfl) (by simp) ?_
      refine AllReadyH.cons (o := { dst := none, op := .store 185 (.tmp 3) (.tmp 24), type := 0, pos := "sha.go:33", after := #[zD 6, zC 6, zP 0, zP 1, zP 2, zP 3, zP 4, zP 5, zP 6], guard := none }) rfl (fun K hK => ?_) AllReadyH.nil
      refine step_store_row (by rfl) 185 (.tmp 3) (.tmp 24) rfl (w.heap.size + 1) L2 rfl rfl 185 L HG3.out HSL2.out HLL.out H1L2.out ?_
      refine hK.out _ _ trivial (fun hHeld => ?_)
      clear hK K
      try simp only [Act.put, pS1, pS2, pS3]
      refine wpAnyH_done (by kernel_rfl) ?_ _
      have HN2 : Hid ((wcells (blocks first (pad (joinL ss)) (k + 1)).list).toArray = L2) := by
        show _ = _
        rw [HL2.out, HM.out]
        unfold blocks
        rw [← HSt.out]
      go_wp2
      go_roundw
      case rel =>
        refine ⟨k + 1, by omega, by go_num, ⟨?_, ?_, ?_⟩, below_setRow (hB.trans (((Below.refl _ _).drew.trans hb3).mono hB.size)) (by omega) _⟩
        · rw [setRow_other _ _ _ _ (by omega), hb3.block _ (heap_lt HG.out.1)]; exact HG.out.1
        · rw [HN2.out]; exact setRow_heap _ _ _ _ 185 _ HG3.out
        · rw [setRow_other _ _ _ _ (by omega), hb3.block _ (heap_lt HG.out.2.2)]; exact HG.out.2.2
      case measure => simp [intOf]; omega
    · obtain rfl : N = k := by omega
      obtain ⟨s, HSt⟩ : ∃ s, Hid (s = blocks first (pad (joinL ss)) N) := ⟨_, (rfl : blocks first (pad (joinL ss)) N = _)⟩
      obtain ⟨L, HL, HSL, H1L, H8L⟩ := words_row s.list 185 8 rfl size38
      have HGs : Hid (wr.heap[w.heap.size + 1]? = some (.cells L 185 (0, 0))) := by show _ = _; rw [HL.out, HSt.out]; exact HG.out.2.1
      have HOs : Hid (OkSt s) := by show OkSt _; rw [HSt.out]; exact blocks_ok _ _ _ first_ok
      have HE : Hid (sumD (joinL ss) = s.list.flatMap bytes4) := by
        show _ = _
        unfold sumD endOf
        rw [joinL_length, ← HN.out, ← HSt.out]
      go_wp2_with (first
        | (refine wpList_alloc_row rfl 39 rfl Z HA.out ?_)
        | (refine wpList_load_row rfl 185 (.tmp 3) rfl (w.heap.size + 1) rfl 185 L (0, 0) _ (heap_keep HGs.out) Tryz.underlying185 rfl HSL.out ?_)
        | fail)
      have hgd : w.heap.size + 2 ≤ wr.heap.size := by have := heap_lt HG.out.2.2; omega
      have HD0 : Hid ((wr.alloc (.cells Z 39)).heap[wr.heap.size]? = some (.cells (cellsOf (part s.list 0)).toArray 39 (0, 0)) ∧ (wr.alloc (.cells Z 39)).heap[w.heap.size]? = some (.cells Z 39 (0, 0))) := by
        refine ⟨?_, heap_keep HG.out.1⟩
        have e : (cellsOf (part s.list 0)).toArray = Z := by rw [HZ.out]; rfl
        rw [e]
        exact heap_alloc_new wr _
      have hB3 : Below w.heap.size w (wr.alloc (.cells Z 39)) := hB.alloc (by omega) _
      clear HG HGs hB
      generalize wr.heap.size = gd at hgd HD0 ⊢
      generalize wr.alloc (.cells Z 39) = w4 at HD0 hB3 ⊢
      go_loopw [26] (fun v wd => ∃ i : Nat, i ≤ 8 ∧ v = .int .i64 i ∧ Hid (wd.heap[gd]? = some (.cells (cellsOf (part s.list i)).toArray 39 (0, 0)) ∧ wd.heap[w.heap.size]? = some (.cells Z 39 (0, 0))) ∧ Below w.heap.size w wd)
        (fun v _ => 8 - (intOf v).toNat)
      case atStart => exact ⟨0, by omega, rfl, HD0, hB3⟩
      case round =>
        clear HD0 hB3
        obtain ⟨i, hi, rfl, HD, hB⟩ := hrel
        by_cases hlt : i < 8
        · have hdi : decide ((i : Int) < 8) = true := by rw [decide_eq_true_eq]; omega
          obtain ⟨z, HZi⟩ : ∃ z, Hid (z = s.list[i]'hlt) := ⟨_, (rfl : s.list[i]'hlt = _)⟩
          have hz : 0 ≤ z ∧ z ≤ 4294967295 := by rw [HZi.out]; exact HOs.out _ (List.getElem_mem _)
          have hidx : ∀ w, (Instr.index 185 (.agg L) (.int .i64 i)).run Tryz.prog w = .ok (.int .u32 z) w := fun w =>
            run_index_agg w 185 157 8 L .i64 i _ .u32 Tryz.underlying185 Tryz.underlying157 hlt (by rw [HL.out, HZi.out]; simp [wcells_at s.list i hlt]) (by kernel_rfl)
          have hw4 := wrap_int (4 * (i : Int)) (by omega) (by omega)
          have HP : Hid (put4 (part s.list i) (4 * i) z = part s.list (i + 1)) := by
            show _ = _
            rw [HZi.out]
            exact part_put s.list i rfl hlt
          have HPL : Hid ((part s.list i).length = 32) := part_length s.list i rfl (by omega)
          have hsl := fun w => slice_from w gd i hlt
          go_wp2_with fail
          refine (putWord_any gd (4 * i) _ _ 39 (part s.list i) z wr (by omega) (by rw [HPL.out]; omega) hz.1 hz.2 HD.out.1).mono ?_
          rintro e w5 ⟨rfl, rfl⟩
          rw [HP.out]
          go_wp2
          go_roundw
          case rel => exact ⟨i + 1, by omega, by go_num, ⟨setRow_heap _ _ _ _ 39 _ HD.out.1, by rw [setRow_other _ _ _ _ (by omega)]; exact HD.out.2⟩, below_setRow hB (by omega) _⟩
          case measure => simp [intOf]; omega
        · obtain rfl : i = 8 := by omega
          obtain ⟨D, HDD, HSD, H1D, H32D⟩ := dig_row' (sumD (joinL ss)) (sumD_length _)
          have HZD : Hid (Z.size = D.size) := by show _ = _; rw [H32.out, H32D.out]
          have HDs : Hid (wr.heap[gd]? = some (.cells D 39 (0, 0))) := by
            show _ = _
            have := HD.out.1
            rw [part_all s.list rfl, ← HE.out] at this
            rw [HDD.out]
            exact this
          go_wp2_with (first
            | (refine wpList_load_row rfl 39 (.tmp 6) rfl gd rfl 39 D (0, 0) _ HDs.out Tryz.underlying39 rfl HSD.out ?_)
            | (refine wpList_store_row rfl 39 (.tmp 2) (.tmp 36) rfl w.heap.size D rfl rfl 39 Z HD.out.2 HSD.out HZD.out H1D.out ?_)
            | fail)
          refine bodyPost_ret (v := .agg D) ?_ rfl ⟨?_, ?_⟩
          · exact results_cell_row (p := 2) (ty := 39) rfl _ _ w.heap.size 39 D (0, 0) _ rfl (setRow_heap _ _ _ _ 39 _ HD.out.2) Tryz.underlying39 rfl HSD.out
          · rw [HDD.out]; rfl
          · exact below_setRow hB (Nat.le_refl _) _
theorem texts_new (w : World) (ss : List ByteArray) (t : TypeId) : Texts (w.alloc (.cells (ss.map Value.string).toArray t)) (some ⟨w.heap.size, 0, none⟩) ss.length ss := by
  refine ⟨rfl, .inr ⟨w.heap.size, 0, rfl, by simp, fun i hi => ?_⟩⟩
  rw [Nat.zero_add, cell_of_row _ _ i _ t (0, 0) (heap_alloc_new w _)]
  simp [List.getElem?_eq_getElem hi]
theorem of_new (ss : List ByteArray) (t : TypeId) (w : World) (ht : total ss ≤ 1000000) (hlen : ss.length ≤ 9223372036854775807) (hK : Table 0 w) (D : Array Value) (HD : Hid (D = (cellsOf (sumD (joinL ss))).toArray)) (n cap g : Nat) (hn : n = ss.length) (hg : g = w.heap.size)
    (cs : Array Value) (hcs : cs = (ss.map Value.string).toArray) :
    Calls Tryz.prog 107 #[.slice (some ⟨g, 0, none⟩) n cap] (w.alloc (.cells cs t)) fun e w' => e = .returned (.agg D) ∧ Below w.heap.size w w' := by
  subst hcs hn hg
  have h := of_any _ ss.length cap ss _ (texts_new w ss t) ht hlen (hK.keep ((Below.refl _ _).alloc (Nat.le_refl _) _))
  refine h.mono ?_
  rintro e w' ⟨he, hb⟩
  refine ⟨?_, ((Below.refl _ _).alloc (Nat.le_refl _) _).trans (hb.mono (by simp))⟩
  rw [he, HD.out]
  rfl
theorem of_none (w : World) (hK : Table 0 w) (D : Array Value) (HD : Hid (D = (cellsOf (sumD [])).toArray)) :
    Calls Tryz.prog 107 #[.slice none 0 0] w fun e w' => e = .returned (.agg D) ∧ Below w.heap.size w w' := by
  have h := of_any none 0 0 [] w ⟨rfl, .inl rfl⟩ (by decide) (by decide) hK
  rw [HD.out]
  exact h
set_option maxHeartbeats 1000000 in
theorem empty_any (w : World) (hK : Table 0 w) (D : Array Value) (HD : Hid (D = (cellsOf (sumD [])).toArray)) :
    Calls Tryz.prog 85 #[] w fun e w' => e = .returned (.agg D) ∧ Below w.heap.size w w' := by
  obtain ⟨Z, HZ, HA, HS, H1, H32⟩ := noughts27
  have HSD : Hid ((Tryz.prog.info? 39).map (·.size) = some D.size) := by show _ = _; rw [size23, HD.out]; simp [cellsOf_length, sumD_length]
  have H1D : Hid (D.all (·.oneCell') = true) := by show _ = _; rw [HD.out]; exact cellsOf_all _
  have HZD : Hid (Z.size = D.size) := by show _ = _; rw [H32.out, HD.out]; simp [cellsOf_length, sumD_length]
  have KO : Hid (∀ w1, Below w.heap.size w w1 → Calls Tryz.prog 107 #[.slice none 0 0] w1 fun e w' => e = .returned (.agg D) ∧ Below w1.heap.size w1 w') := fun w1 hb => of_none w1 (hK.keep hb) D HD
  clear hK
  go_enter Tryz.func85, Tryz.ntmps85
  go_wp2_with (first
    | (refine wpList_alloc_row rfl 39 rfl Z HA.out ?_)
    | fail)
  refine (KO.out _ ((Below.refl _ _).alloc (Nat.le_refl _) _)).mono ?_
  rintro e w1 ⟨rfl, hb1⟩
  have HG : Hid (w1.heap[w.heap.size]? = some (.cells Z 39 (0, 0))) := (hb1.block _ (by simp)).trans (heap_alloc_new w _)
  have hB : Below w.heap.size w w1 := ((Below.refl _ _).alloc (Nat.le_refl _) _).trans (hb1.mono (by simp))
  clear hb1
  go_wp2_with (first
    | (refine wpList_store_row rfl 39 (.tmp 0) (.tmp 1) rfl w.heap.size D rfl rfl 39 Z HG.out HSD.out HZD.out H1D.out ?_)
    | fail)
  refine bodyPost_ret (v := .agg D) ?_ rfl ⟨rfl, below_setRow hB (Nat.le_refl _) _⟩
  exact results_cell_row (p := 0) (ty := 39) rfl _ _ w.heap.size 39 D (0, 0) _ rfl (setRow_heap _ _ _ _ 39 _ HG.out) Tryz.underlying39 rfl HSD.out
set_option maxHeartbeats 1000000 in
theorem leaf_any (s : ByteArray) (w : World) (hs : s.size ≤ 999000) (hK : Table 0 w) (D : Array Value) (HD : Hid (D = (cellsOf (sumD (0 :: s.data.toList))).toArray)) :
    Calls Tryz.prog 121 #[.string s] w fun e w' => e = .returned (.agg D) ∧ Below w.heap.size w w' := by
  obtain ⟨Z, HZ, HA, HS, H1, H32⟩ := noughts27
  have HSD : Hid ((Tryz.prog.info? 39).map (·.size) = some D.size) := by show _ = _; rw [size23, HD.out]; simp [cellsOf_length, sumD_length]
  have H1D : Hid (D.all (·.oneCell') = true) := by show _ = _; rw [HD.out]; exact cellsOf_all _
  have HZD : Hid (Z.size = D.size) := by show _ = _; rw [H32.out, HD.out]; simp [cellsOf_length, sumD_length]
  have KO : Hid (∀ w1 g, g = w1.heap.size → Below w.heap.size w w1 → Calls Tryz.prog 107 #[.slice (some ⟨g, 0, none⟩) 2 2] (w1.alloc (.cells #[.string ⟨#[0]⟩, .string s] 9)) fun e w' => e = .returned (.agg D) ∧ Below w1.heap.size w1 w') := fun w1 g hg hb =>
    of_new [⟨#[0]⟩, s] 9 w1 (by show 1 + (s.size + 0) ≤ 1000000; omega) (by show 2 ≤ _; decide) (hK.keep hb) D (by show _ = _; rw [HD.out]; simp [joinL]) 2 2 g rfl hg _ rfl
  clear hK
  go_enter Tryz.func121, Tryz.ntmps121
  go_wp2_with (first
    | (refine wpList_alloc_row rfl 39 rfl Z HA.out ?_)
    | fail)
  refine (KO.out _ _ (by simp) ((Below.refl _ _).alloc (Nat.le_refl _) _)).mono ?_
  rintro e w1 ⟨rfl, hb1⟩
  have HG : Hid (w1.heap[w.heap.size]? = some (.cells Z 39 (0, 0))) := (hb1.block _ (by simp)).trans (heap_alloc_new w _)
  have hB : Below w.heap.size w w1 := ((Below.refl _ _).alloc (Nat.le_refl _) _).trans (hb1.mono (by simp))
  clear hb1
  go_wp2_with (first
    | (refine wpList_store_row rfl 39 (.tmp 2) (.tmp 5) rfl w.heap.size D rfl rfl 39 Z HG.out HSD.out HZD.out H1D.out ?_)
    | fail)
  refine bodyPost_ret (v := .agg D) ?_ rfl ⟨rfl, below_setRow hB (Nat.le_refl _) _⟩
  exact results_cell_row (p := 2) (ty := 39) rfl _ _ w.heap.size 39 D (0, 0) _ rfl (setRow_heap _ _ _ _ 39 _ HG.out) Tryz.underlying39 rfl HSD.out
theorem range_keep {W W' : World} {g o : Nat} {l : List Value} (hb : Below W.heap.size W W') (h : W.rangeAt g o l) : W'.rangeAt g o l := fun j v hj => by
  have hc := h j v hj
  rw [hb.cell (World.block_lt_of_cell? _ _ hc)]
  exact hc
theorem range_row {W : World} {g : Nat} {l : List Value} {t : TypeId} {fr : Nat × Nat} (h : W.heap[g]? = some (.cells l.toArray t fr)) : W.rangeAt g 0 l := fun j v hj => by
  rw [Nat.zero_add, cell_of_row W g j _ t fr h]
  simpa using hj
theorem range_other {W : World} {g g' o : Nat} {l : List Value} {cs : Array Value} (h : W.rangeAt g o l) (hne : g ≠ g') : (W.setRow g' cs).rangeAt g o l := fun j v hj => by
  rw [cell_setRow_other W g' cs _ hne]
  exact h j v hj
theorem conv_dig (W : World) (g : Nat) (l : List UInt8) (hl : l.length = 32) (h : W.rangeAt g 0 (cellsOf l)) : Sem.run Tryz.prog (convert 34 9 (.slice (some ⟨g, 0, none⟩) 32 32)) W = .ok (.string ⟨l.toArray⟩) W := by
  have := run_convert_bytes_back (P := Tryz.prog) W 34 9 5 ⟨g, 0, none⟩ 32 l Tryz.underlying34 Tryz.underlying5 Tryz.underlying9 (fun j hj => by
    rw [add_plain]
    exact h j _ (cellsOf_at l j hj))
  rw [hl] at this
  exact this
theorem keep2 {w W W' : World} {g0 g1 : Nat} {A B : List Value} (hb : Below W.heap.size W W') (h : W.rangeAt g0 0 A ∧ W.rangeAt g1 0 B ∧ Below w.heap.size w W) :
    W'.rangeAt g0 0 A ∧ W'.rangeAt g1 0 B ∧ Below w.heap.size w W' :=
  ⟨range_keep hb h.1, range_keep hb h.2.1, h.2.2.trans (hb.mono h.2.2.size)⟩
set_option maxHeartbeats 1000000 in
theorem knot_any (l r : List UInt8) (hl : l.length = 32) (hr : r.length = 32) (w : World) (hK : Table 0 w) (D : Array Value) (HD : Hid (D = (cellsOf (sumD (1 :: (l ++ r)))).toArray)) :
    Calls Tryz.prog 87 #[.agg (cellsOf l).toArray, .agg (cellsOf r).toArray] w fun e w' => e = .returned (.agg D) ∧ Below w.heap.size w w' := by
  obtain ⟨Z, HZ, HA, HS, H1, H32⟩ := noughts27
  have HSD : Hid ((Tryz.prog.info? 39).map (·.size) = some D.size) := by show _ = _; rw [size23, HD.out]; simp [cellsOf_length, sumD_length]
  have H1D : Hid (D.all (·.oneCell') = true) := by show _ = _; rw [HD.out]; exact cellsOf_all _
  have HZD : Hid (Z.size = D.size) := by show _ = _; rw [H32.out, HD.out]; simp [cellsOf_length, sumD_length]
  obtain ⟨x, HX⟩ : ∃ x : ByteArray, Hid (x = ⟨l.toArray⟩) := ⟨_, (rfl : (⟨l.toArray⟩ : ByteArray) = _)⟩
  obtain ⟨y, HY⟩ : ∃ y : ByteArray, Hid (y = ⟨r.toArray⟩) := ⟨_, (rfl : (⟨r.toArray⟩ : ByteArray) = _)⟩
  obtain ⟨A, HAL⟩ : ∃ A, Hid (A = cellsOf l) := ⟨_, (rfl : cellsOf l = _)⟩
  obtain ⟨B, HBR⟩ : ∃ B, Hid (B = cellsOf r) := ⟨_, (rfl : cellsOf r = _)⟩
  have KO : Hid (∀ w1 g, g = w1.heap.size → Below w.heap.size w w1 → Calls Tryz.prog 107 #[.slice (some ⟨g, 0, none⟩) 3 3] (w1.alloc (.cells #[.string ⟨#[1]⟩, .string x, .string y] 9)) fun e w' => e = .returned (.agg D) ∧ Below w1.heap.size w1 w') := fun w1 g hg hb =>
    of_new [⟨#[1]⟩, x, y] 9 w1 (by rw [HX.out, HY.out]; show 1 + (l.toArray.size + (r.toArray.size + 0)) ≤ 1000000; simp [hl, hr]) (by show 3 ≤ _; decide) (hK.keep hb) D (by show _ = _; rw [HD.out, HX.out, HY.out]; simp [joinL]) 3 3 g rfl hg _ rfl
  have c0 : ∀ W, W.rangeAt w.heap.size 0 A → Sem.run Tryz.prog (convert 34 9 (.slice (some ⟨w.heap.size, 0, none⟩) 32 32)) W = .ok (.string x) W := fun W h => by
    rw [HX.out]; exact conv_dig W _ l hl (by rw [← HAL.out]; exact h)
  have c1 : ∀ W, W.rangeAt (w.heap.size + 1) 0 B → Sem.run Tryz.prog (convert 34 9 (.slice (some ⟨w.heap.size + 1, 0, none⟩) 32 32)) W = .ok (.string y) W := fun W h => by
    rw [HY.out]; exact conv_dig W _ r hr (by rw [← HBR.out]; exact h)
  have s0 := fun W => slice_all W w.heap.size
  have s1 := fun W => slice_all W (w.heap.size + 1)
  rw [← HAL.out, ← HBR.out]
  clear hK
  go_enter Tryz.func87, Tryz.ntmps87
  go_wp2_with (first
    | (refine wpList_alloc_row rfl 39 rfl Z HA.out ?_)
    | fail)
  obtain ⟨w0, hw0⟩ : ∃ w0, w0 = ((w.alloc (.cells A.toArray 39)).alloc (.cells B.toArray 39)).alloc (.cells Z 39) := ⟨_, rfl⟩
  have hS : w0.rangeAt w.heap.size 0 A ∧ w0.rangeAt (w.heap.size + 1) 0 B ∧ Below w.heap.size w w0 := by
    rw [hw0]
    exact ⟨range_row (heap_keep (heap_alloc2_old w _ _)), range_row (heap_keep (heap_alloc2_new w _ _)), (((Below.refl _ _).alloc (Nat.le_refl _) _).alloc (by simp) _).alloc (by simp; omega) _⟩
  have HG0 : Hid (w0.heap[w.heap.size + 2]? = some (.cells Z 39 (0, 0))) := by
    show _ = _
    rw [hw0]
    have := heap_alloc_new ((w.alloc (.cells A.toArray 39)).alloc (.cells B.toArray 39)) (.cells Z 39)
    simpa using this
  rw [← hw0]
  clear hw0
  refine wp_region_held_drew (S := (fun W => W.rangeAt w.heap.size 0 A ∧ W.rangeAt (w.heap.size + 1) 0 B ∧ Below w.heap.size w W)) (by kernel_rfl) (keep2 (Below.refl _ _).drew hS) (fun hHeld => ?_)
  refine zW 0 (.slice (some ⟨w.heap.size, 0, none⟩) 32 32) rfl (Or.inl ⟨by rfl, by intro w hSw; go_simp⟩) hHeld ?_
  try simp only [Act.put, pS1, pS2, pS3]
  refine zW 1 (.string x) rfl (Or.inl ⟨by rfl, by intro W hSw; have := c0 W hSw.1; go_simp⟩) hHeld ?_
  try simp only [Act.put, pS1, pS2, pS3]
  refine zW 2 (.slice (some ⟨w.heap.size + 1, 0, none⟩) 32 32) rfl (Or.inl ⟨by rfl, by intro w hSw; go_simp⟩) hHeld ?_
  try simp only [Act.put, pS1, pS2, pS3]
  refine zW 3 (.string y) rfl (Or.inl ⟨by rfl, by intro W hSw; have := c1 W hSw.2.1; go_simp⟩) hHeld ?_
  try simp only [Act.put, pS1, pS2, pS3]
  refine wpAnyH_ready (rs := [4]) (by kernel_rfl) (by simp) ?_
  refine AllReadyH.cons (o := { dst := some 9, op := .buildSlice 31 3 #[(0, .const (.string { data := #[1] })), (1, .tmp 6), (2, .tmp 8)], type := 31, pos := "sha.go:50", after := #[zD 1, zD 3], guard := none }) rfl (fun K hK => ?_) AllReadyH.nil
  go_simp
  refine hK.out _ _ (keep2 ((Below.refl _ _).alloc (Nat.le_refl _) _) hHeld) (fun hHeld => ?_)
  clear hK K
  try simp only [Act.put, pS1, pS2, pS3]
  refine wpAnyH_ready (rs := [5]) (by kernel_rfl) (by simp) ?_
  refine AllReadyH.cons (o := { dst := some 10, op := .call { callee := .value (.func 107), args := #[.tmp 9], argTypes := #[31] }, type := 39, pos := "sha.go:50", after := #[zD 4], guard := none }) rfl (fun K hK => ?_) AllReadyH.nil
  go_simp
  refine (KO.out _ _ rfl hS.2.2.drew).mono ?_
  rintro e w1 ⟨rfl, hb1⟩
  go_wp2_with fail
  refine hK.out _ _ (keep2 (Below.trans (Below.refl _ _).drew hb1) hS) (fun hHeld => ?_)
  clear hK K
  try simp only [Act.put, pS1, pS2, pS3]
  have HG1 : Hid (w1.heap[w.heap.size + 2]? = some (.cells Z 39 (0, 0))) := (hb1.block _ (heap_lt HG0.out)).trans HG0.out
  refine wpAnyH_ready (rs := [6]) (by kernel_rfl) (by simp) ?_
  refine AllReadyH.cons (o := { dst := none, op := .store 39 (.tmp 4) (.tmp 10), type := 0, pos := "sha.go:50", after := #[zD 5, zC 5, zP 0, zP 1, zP 2, zP 3, zP 4, zP 5], guard := none }) rfl (fun K hK => ?_) AllReadyH.nil
  refine step_store_row (by rfl) 39 (.tmp 4) (.tmp 10) rfl (w.heap.size + 2) D rfl rfl 39 Z HG1.out HSD.out HZD.out H1D.out ?_
  refine hK.out _ _ ⟨range_other hHeld.1 (by omega), range_other hHeld.2.1 (by omega), below_setRow hHeld.2.2 (by omega) _⟩ (fun hHeld => ?_)
  clear hK K
  try simp only [Act.put, pS1, pS2, pS3]
  refine wpAnyH_done (by kernel_rfl) ?_ _
  go_wp2
  refine bodyPost_ret (v := .agg D) ?_ rfl ⟨rfl, hHeld.2.2⟩
  exact results_cell_row (p := 4) (ty := 39) rfl _ _ (w.heap.size + 2) 39 D (0, 0) _ rfl (setRow_heap _ _ _ _ 39 _ HG1.out) Tryz.underlying39 rfl HSD.out
end Go.Proofs.YtgclohgcehhfnabGreatDoor
/- Digests held against one another; sums of texts that lie somewhere. -/
namespace Go.Proofs.YtgclohgcehhfnabGreatDoor
open Go.RowKit Sums
set_option maxRecDepth 100000
set_option linter.unusedVariables false
theorem hidk {p : Prop} (h : p) : Hid p := h
theorem sizeOf5 (w : World) : (sizeOf 5).run Tryz.prog w = .ok 1 w := by
  cases hq : Tryz.prog.info? 5 with
  | none => have := size5; simp [hq] at this
  | some i => have := size5; simp [hq] at this; simp [sizeOf, typeInfo, hq, this]
end Go.Proofs.YtgclohgcehhfnabGreatDoor
/- Laws of memory: variables that are arrays, made, read and written; digests and keys held against one another. -/
namespace Go.Proofs.YtgclohgcehhfnabGreatDoor
open Go.RowKit Sums
set_option maxRecDepth 100000
set_option linter.unusedVariables false
set_option linter.unusedSimpArgs false
theorem yieldsIf_row {P : Program} {ops : Array Oper} {S : World → Prop} {o : Oper} {a : Act} (hw : Region.wanted o (yielded ops a.tmps) = true) (ty : TypeId) (x : Operand) (ho : o.op = .load ty x) (g : Nat) (hx : a.eval x = .pointer (some ⟨g, 0, none⟩)) (t : TypeId) (cs : Array Value) (fr : Nat × Nat) (d : TypeDesc) (hg : ∀ w, S w → w.heap[g]? = some (.cells cs t fr))
    (hu : P.underlying ty = some d) (hd : d.isRow = true) (hi : (P.info? ty).map (·.size) = some cs.size) : YieldsIf P ops S o (.agg cs) a := by
  have := yieldsIf_load_mid (P := P) (ops := ops) (S := S) hw ty x ho g 0 hx cs.toList d (fun w h => range_row (t := t) (fr := fr) (by simpa using hg w h)) hu hd (by simpa using hi)
  simpa using this
structure Wrote (g : Nat) (D : Array Value) (t : TypeId) (w w' : World) : Prop where
  row : w'.heap[g]? = some (.cells D t (0, 0))
  other : ∀ k, k ≠ g → w'.heap[k]? = w.heap[k]?
  below : ∀ (B : Nat) (a : World), Below B a w → B ≤ g → Below B a w'
theorem wrote_row {w : World} {g : Nat} {Z D : Array Value} {t : TypeId} (h : w.heap[g]? = some (.cells Z t (0, 0))) : Wrote g D t w (w.setRow g D) :=
  ⟨setRow_heap _ _ _ _ t _ h, fun k hk => setRow_other _ _ _ _ hk, fun B a hb hg => below_setRow hb hg _⟩
structure Made (g : Nat) (Z : Array Value) (t : TypeId) (w w' : World) : Prop where
  new : g = w.heap.size
  row : w'.heap[g]? = some (.cells Z t (0, 0))
  below : Below w.heap.size w w'
theorem step_set_var {P : Program} {ops : Array Oper} {o : Oper} {a : Act} {w : World} {K : Act → World → Prop} {Q : Exit → Act → World → Prop} {E : Prop} (hw : Region.wanted o (yielded ops a.tmps) = true) (t : TypeId) (x y : Operand) (ho : o.op = .store t x y)
    (g : Nat) (D : Array Value) (hx : a.eval x = .pointer (some ⟨g, 0, none⟩)) (hy : a.eval y = .agg D) (t' : TypeId) (Z : Array Value) (hg : w.heap[g]? = some (.cells Z t' (0, 0))) (hi : (P.info? t).map (·.size) = some D.size) (hold : Z.size = D.size) (h1 : D.all (·.oneCell') = true)
    (h : ∀ w', Hid (Wrote g D t' w w') → K (a.put o.dst undef) w') : if Region.wanted o (yielded ops a.tmps) = true then Oper.wp P o a w K Q else E :=
  step_store_row hw t x y ho g D hx hy t' Z hg hi hold h1 (h _ (wrote_row hg))
theorem alloc_size (w : World) (o : Obj) : (w.alloc o).heap.size = w.heap.size + 1 := by simp
theorem text_ne {s t : ByteArray} (h : s ≠ t) : (s.toList == t.toList) = false := by
  rw [beq_eq_false_iff_ne]
  intro e
  rw [ByteArray.toList_eq, ByteArray.toList_eq] at e
  apply h
  apply ByteArray.ext
  exact Array.toList_inj.1 e
theorem wpList_new_var {P : Program} {ops : Array Oper} {rest : List Oper} {o : Oper} {a : Act} {w : World} {Q : Exit → Act → World → Prop} (hg : o.guard = none) (t : TypeId) (ho : o.op = .alloc t)
    (cs : Array Value) (hz : (P.info? t).map (fun i => (i.zero, i.size)) = some (some (.agg cs), cs.size)) (h : ∀ g w', Hid (Made g cs t w w') → wpList P ops Q rest (a.put o.dst (.pointer (some ⟨g, 0, none⟩))) w') : wpList P ops Q (o :: rest) a w :=
  wpList_alloc_row hg t ho cs hz (h w.heap.size _ ⟨rfl, heap_alloc_new w _, (Below.refl _ _).alloc (Nat.le_refl _) _⟩)
theorem wpList_set_var {P : Program} {ops : Array Oper} {rest : List Oper} {o : Oper} {a : Act} {w : World} {Q : Exit → Act → World → Prop} (hgd : o.guard = none) (t : TypeId) (x y : Operand) (ho : o.op = .store t x y)
    (g : Nat) (D : Array Value) (hx : a.eval x = .pointer (some ⟨g, 0, none⟩)) (hy : a.eval y = .agg D) (t' : TypeId) (Z : Array Value) (hg : w.heap[g]? = some (.cells Z t' (0, 0))) (hi : (P.info? t).map (·.size) = some D.size) (hold : Z.size = D.size) (h1 : D.all (·.oneCell') = true)
    (h : ∀ w', Hid (Wrote g D t' w w') → wpList P ops Q rest (a.put o.dst undef) w') : wpList P ops Q (o :: rest) a w :=
  wpList_store_row hgd t x y ho g D hx hy t' Z hg hi hold h1 (h _ (wrote_row hg))
theorem yieldsIf_mid {P : Program} {ops : Array Oper} {S : World → Prop} {op : Oper} {a : Act} (hw : Region.wanted op (yielded ops a.tmps) = true) (ty : TypeId) (x : Operand) (ho : op.op = .load ty x)
    (b o : Nat) (hx : a.eval x = .pointer (some ⟨b, o, none⟩)) (D : Array Value) (d : TypeDesc) (hS : ∀ w, S w → w.rangeAt b o D.toList)
    (hu : P.underlying ty = some d) (hd : d.isRow = true) (hi : (P.info? ty).map (·.size) = some D.size) : YieldsIf P ops S op (.agg D) a := by
  have := yieldsIf_load_mid (P := P) (ops := ops) (S := S) hw ty x ho b o hx D.toList d hS hu hd (by simpa using hi)
  simpa using this
theorem wpList_mid {P : Program} {ops : Array Oper} {rest : List Oper} {op : Oper} {a : Act} {w : World} {Q : Exit → Act → World → Prop} (hgd : op.guard = none) (ty : TypeId) (x : Operand) (ho : op.op = .load ty x)
    (b o : Nat) (hx : a.eval x = .pointer (some ⟨b, o, none⟩)) (D : Array Value) (d : TypeDesc) (hc : w.rangeAt b o D.toList)
    (hu : P.underlying ty = some d) (hd : d.isRow = true) (hi : (P.info? ty).map (·.size) = some D.size)
    (h : wpList P ops Q rest (a.put op.dst (.agg D)) w) : wpList P ops Q (op :: rest) a w :=
  wpList_load_mid hgd ty x ho b o hx D.toList d hc hu hd (by simpa using hi) (by simpa using h)
theorem slice_at (w : World) (g o : Nat) : (Instr.sliceAt 39 (.pointer (some ⟨g, o, none⟩)) none none none).run Tryz.prog w = .ok (.slice (some ⟨g, o, none⟩) 32 32) w := by
  simp [Instr.sliceAt, Instr.slice, Instr.sliceBounds, run_underlying Tryz.underlying39, Instr.sureAddr]
  rw [add_plain]
  simp
theorem conv_at (W : World) (g o : Nat) (l : List UInt8) (hl : l.length = 32) (h : W.rangeAt g o (cellsOf l)) : Sem.run Tryz.prog (convert 34 9 (.slice (some ⟨g, o, none⟩) 32 32)) W = .ok (.string ⟨l.toArray⟩) W := by
  have := run_convert_bytes_back (P := Tryz.prog) W 34 9 5 ⟨g, o, none⟩ 32 l Tryz.underlying34 Tryz.underlying5 Tryz.underlying9 (fun j hj => by
    rw [add_plain]
    exact h j _ (cellsOf_at l j hj))
  rw [hl] at this
  exact this
theorem wpList_make_row {ops : Array Oper} {rest : List Oper} {o : Oper} {a : Act} {w : World} {Q : Exit → Act → World → Prop} (hg : o.guard = none) (l c : Operand) (hop : o.op = Op.makeSlice 34 l c) (n : Nat) (hl : a.eval l = .int .i64 (n : Int)) (hc : a.eval c = .int .i64 (n : Int)) (hn : n ≤ 1000000)
    (h : ∀ g w', Hid (Made g (cellsOf (List.replicate n 0)).toArray 5 w w') → wpList Tryz.prog ops Q rest (a.put o.dst (.slice (some ⟨g, 0, none⟩) n n)) w') : wpList Tryz.prog ops Q (o :: rest) a w := by
  obtain ⟨i0, hi, hz0, hz1, hz2⟩ := info_parts info5'
  refine wpList_make_full w hg l c 34 hop w.heap.size 5 i0 (.int .u8 0) 1 Tryz.underlying34 hi hz0 hz1 .i64 .i64 _ _ n hl hc rfl rfl (by rw [hz2]; omega) (by unfold maxLen; omega) (Nat.le_refl _) ?_
  intro w' hown hgr
  refine h w.heap.size w' ⟨rfl, ?_, (Below.refl _ _).grown hgr (Nat.le_refl _) (by intro k hk; cases hk)⟩
  have e : (madeCells (Value.int .u8 0).cells (n * 1)).toList = cellsOf (List.replicate n 0) := by rw [Nat.mul_one]; exact cells_made n
  rw [e] at hown
  exact own_row hown
theorem wrote_cell {w : World} {g i : Nat} {cs : Array Value} {t : TypeId} (v : Value) (h : w.heap[g]? = some (.cells cs t (0, 0))) : Wrote g (cs.setIfInBounds i v) t w (w.setCell ⟨g, i, none⟩ v) :=
  ⟨Go.heap_setCell_same w g i cs t v h, fun k hk => Below.heap_setCell _ _ _ _ hk, fun B a hb hg => hb.setCell hg _⟩
def TabT (w : World) : Prop := Table 0 w
theorem TabT.keep {w w' : World} (h : TabT w) (hb : Below w.heap.size w w') : TabT w' := Table.keep h hb
theorem TabT.sha {w : World} (h : TabT w) : Table 0 w := h
end Go.Proofs.YtgclohgcehhfnabGreatDoor
