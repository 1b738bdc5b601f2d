/- What tag's inner block answers: a key's bytes and 32 noughts, each turned. -/
import Derived.Test.YtkmndchbmbhlhaaDoorTagC
import Derived.Test.YtkmndchbmbhlhaaDoorPuts
namespace Go.Proofs.YtkmndchbmbhlhaaDoor
open Go.RowKit Sums
set_option linter.unusedVariables false
set_option linter.unusedSimpArgs false

theorem zeroB : (Tryd.prog.info? 52).map (fun i => (i.zero, i.size)) = some (some (.agg (cellsOf (List.replicate 64 0)).toArray), 64) := by kernel_rfl
theorem noughtsB : ∃ Z : Array Value, Hid (Z = (cellsOf (List.replicate 64 0)).toArray) ∧ Hid ((Tryd.prog.info? 52).map (fun i => (i.zero, i.size)) = some (some (.agg Z), Z.size)) :=
  ⟨(cellsOf (List.replicate 64 0)).toArray, (rfl : _ = _), zeroB⟩
theorem run_copy_key (w : World) (ty : TypeId) (g g0 : Nat) (t t0 : TypeId) (key : List UInt8) (hk : key.length = 32) (hg : w.heap[g]? = some (.cells (cellsOf (List.replicate 64 0)).toArray t (0, 0))) (h0 : w.heap[g0]? = some (.cells (cellsOf key).toArray t0 (0, 0))) :
    (Builtin.copy_ #[38, 38] ty #[.slice (some ⟨g, 0, none⟩) 64 64, .slice (some ⟨g0, 0, none⟩) 32 32]).run Tryd.prog w = .ok (goInt 32) (w.setRow g (cellsOf (key ++ List.replicate 32 0)).toArray) := by
  have hl := run_loadCells_list (P := Tryd.prog) w ⟨g0, 0, none⟩ (cellsOf key) (fun j v hj => by
    rw [add_plain, Nat.zero_add, cell_of_row w g0 j _ t0 (0, 0) h0]
    simpa using hj)
  have hst := run_storeCells_at Tryd.prog g 0 t (cellsOf key) 0 (cellsOf (List.replicate 64 0)).toArray w hg (by simp [cellsOf_length, hk]) (fun v hv => cellsOf_one _ v hv)
  simp only [Nat.zero_add, List.take_zero, List.nil_append] at hst
  rw [cellsOf_length, hk] at hl hst
  have e : (cellsOf key ++ (cellsOf (List.replicate 64 0)).drop 32) = cellsOf (key ++ List.replicate 32 0) := by
    rw [cellsOf_append]
    congr 1
  rw [e] at hst
  simp [Builtin.copy_, run_underlying Tryd.underlying38, Builtin.lenOf, Builtin.firstCells, sizeOf5, hl, hst]
theorem step_copy_key {ops : Array Oper} {o : Oper} {a : Act} {w : World} {K : Act → World → Prop} {Q : Exit → Act → World → Prop} {E : Prop} (hw : Region.wanted o (yielded ops a.tmps) = true) (s x : Operand) (hop : o.op = Op.call { callee := Callee.builtin Builtin.copy, args := #[s, x], argTypes := #[38, 38] })
    (g g0 : Nat) (t t0 : TypeId) (hs : a.eval s = .slice (some ⟨g, 0, none⟩) 64 64) (hx : a.eval x = .slice (some ⟨g0, 0, none⟩) 32 32) (key : List UInt8) (hk : key.length = 32) (Z C : Array Value) (HZ : Hid (Z = (cellsOf (List.replicate 64 0)).toArray)) (HC : Hid (C = (cellsOf key).toArray))
    (hg : w.heap[g]? = some (.cells Z t (0, 0))) (h0 : w.heap[g0]? = some (.cells C t0 (0, 0)))
    (h : ∀ w', Hid (Wrote g (cellsOf (key ++ List.replicate 32 0)).toArray t w w') → K (a.put o.dst (.int .i64 32)) w') : if Region.wanted o (yielded ops a.tmps) = true then Oper.wp Tryd.prog o a w K Q else E := by
  rw [if_pos hw]
  have hg' := hg
  rw [HZ.out] at hg'
  rw [HC.out] at h0
  have hrun := run_copy_key w o.type g g0 t t0 key hk hg' h0
  unfold Oper.wp
  simp [execOp, hop, resolve, invoke, builtin, hs, hx, hrun, Result.andThen]
  exact h _ (wrote_row hg)

/-- The block while it is turned: its first k bytes are. -/
def turnedD (key : List UInt8) (pad : UInt8) (k : Nat) : List UInt8 := (blockD key pad).take k ++ (key ++ List.replicate 32 0).drop k
theorem turnedD_length (key : List UInt8) (pad : UInt8) (k : Nat) (hk : key.length = 32) (h : k ≤ 64) : (turnedD key pad k).length = 64 := by
  unfold turnedD
  simp [blockD_length key pad hk, hk]
  omega
theorem turnedD_at (key : List UInt8) (pad : UInt8) (k : Nat) (hk : key.length = 32) (h : k < 64) : (turnedD key pad k)[k]? = (key ++ List.replicate 32 0)[k]? := by
  unfold turnedD
  have e : ((blockD key pad).take k).length = k := by rw [List.length_take, blockD_length key pad hk]; omega
  rw [List.getElem?_append_right (by omega), e, Nat.sub_self, List.getElem?_drop, Nat.add_zero]
theorem turnedD_put (key : List UInt8) (pad : UInt8) (k : Nat) (hk : key.length = 32) (h : k < 64) (y : UInt8) (hy : (blockD key pad)[k]? = some y) : (turnedD key pad k).set k y = turnedD key pad (k + 1) := by
  unfold turnedD
  have e : ((blockD key pad).take k).length = k := by rw [List.length_take, blockD_length key pad hk]; omega
  have hl : k < (key ++ List.replicate 32 0).length := by simp [hk]; omega
  rw [List.set_append_right _ _ (by omega), e, Nat.sub_self, List.take_add_one, hy, List.drop_eq_getElem_cons hl, List.set_cons_zero]
  simp
theorem turnedD_all (key : List UInt8) (pad : UInt8) (hk : key.length = 32) : turnedD key pad 64 = blockD key pad := by
  unfold turnedD
  rw [List.take_of_length_le (by rw [blockD_length key pad hk]; omega), List.drop_of_length_le (by simp [hk])]
  simp
theorem turnedD_none (key : List UInt8) (pad : UInt8) : turnedD key pad 0 = key ++ List.replicate 32 0 := by
  unfold turnedD; simp

theorem conv_any {W : World} {g : Nat} {l : List UInt8} {n : Nat} {t : TypeId} (h : W.heap[g]? = some (.cells (cellsOf l).toArray t (0, 0))) (hn : l.length = n) : (convert 38 9 (.slice (some ⟨g, 0, none⟩) n n)).run Tryd.prog W = .ok (.string ⟨l.toArray⟩) W := by
  have := run_convert_bytes_back (P := Tryd.prog) W 38 9 5 ⟨g, 0, none⟩ n l Tryd.underlying38 Tryd.underlying5 Tryd.underlying9 (fun j hj => by
    rw [add_plain, Nat.zero_add, cell_of_row W g j _ t (0, 0) h]
    simp [cellsOf_at l j hj])
  rw [hn] at this
  exact this

set_option maxHeartbeats 4000000 in
theorem blk_any (key : List UInt8) (pad : UInt8) (w : World) (Ky : Array Value) (HK : Hid (Ky = (cellsOf key).toArray)) (hk : key.length = 32) (s : ByteArray) (Hs : Hid (s = ⟨(blockD key pad).toArray⟩)) :
    Calls Tryd.prog 19 #[.agg Ky, .int .u8 (pad.toNat : Int)] w fun e w' => e = .returned (.string s) ∧ Below w.heap.size w w' := by
  obtain ⟨Z, HZ, HA⟩ := noughtsB
  have hbl := blockD_length key pad hk
  go_enter Tryd.func19, Tryd.ntmps19
  go_wp2_with (first
    | (show wpList _ _ _ ({ dst := some 5, op := _, type := _, pos := _, after := _, guard := _ } :: _) _ _; refine wpList_new_var rfl 52 rfl Z HA.out ?_; intro g5 w1 HM5; try simp only [Act.put, List.setIfInBounds_toArray, List.set_cons_zero, List.set_cons_succ])
    | fail)
  have HB1 : Hid (Below w.heap.size w w1) := ((Below.refl _ _).alloc (Nat.le_refl _) _).trans (HM5.out.below.mono (by simp))
  have HK1 := hidk ((HM5.out.below.block _ (by simp)).trans (heap_alloc_new w (.cells Ky 23)))
  have h5 : w.heap.size < g5 := by have e := HM5.out.new; simp at e; omega
  have HR5 := hidk HM5.out.row
  clear HM5
  refine wp_region_held_drew (S := (fun W => W.heap[w.heap.size]? = some (.cells Ky 23 (0, 0)))) (by kernel_rfl) HK1.out (fun hHeld => ?_)
  refine wpAnyH_take (i := 0) (oi := { dst := some 7, op := Op.slice 52 (Operand.tmp 5) none none none, type := 38, pos := "tag.go:57", after := #[], guard := none }) (v := .slice (some ⟨g5, 0, none⟩) 64 64) rfl (by kernel_rfl) (by kernel_rfl) (by kernel_rfl) (fun _ _ _ h => h) (Or.inl ⟨by rfl, by intro W hSw; go_simp⟩) hHeld ?_
  try simp only [Act.put, List.setIfInBounds_toArray, List.set_cons_zero, List.set_cons_succ]
  refine wpAnyH_take (i := 1) (oi := { dst := some 8, op := Op.slice 23 (Operand.tmp 2) none none none, type := 38, pos := "tag.go:57", after := #[], guard := none }) (v := .slice (some ⟨w.heap.size, 0, none⟩) 32 32) rfl (by kernel_rfl) (by kernel_rfl) (by kernel_rfl) (fun _ _ _ h => h) (Or.inl ⟨by rfl, by intro W hSw; go_simp⟩) hHeld ?_
  try simp only [Act.put, List.setIfInBounds_toArray, List.set_cons_zero, List.set_cons_succ]
  refine wpAnyH_ready (rs := [2]) (by kernel_rfl) (by simp) ?_
  refine (AllReadyH.cons (o := { dst := some 9, op := Op.call { callee := Callee.builtin Builtin.copy, args := #[Operand.tmp 7, Operand.tmp 8], argTypes := #[38, 38] }, type := 3, pos := "tag.go:57", after := #[{ on := 0, ground := Ground.data }, { on := 1, ground := Ground.data }], guard := none }) rfl (fun K hK => ?_) AllReadyH.nil)
  refine step_copy_key (by rfl) (.tmp 7) (.tmp 8) rfl g5 w.heap.size 52 23 rfl rfl key hk Z Ky HZ HK HR5.out hHeld ?_
  intro wz HW5
  refine hK.out _ _ ((HW5.out.other _ (by omega)).trans hHeld) (fun hHeld => ?_)
  clear hK K
  try simp only [Act.put, List.setIfInBounds_toArray, List.set_cons_zero, List.set_cons_succ]
  refine wpAnyH_done (by kernel_rfl) ?_ _
  have HL0 : Hid (wz.heap[g5]? = some (.cells (cellsOf (turnedD key pad 0)).toArray 52 (0, 0)) ∧ Below w.heap.size w wz) := ⟨by rw [turnedD_none]; exact HW5.out.row, HW5.out.below _ _ HB1.out.drew (by omega)⟩
  clear HW5 HB1 HK1 HR5
  go_wp2
  go_loopw [10] (fun i wr => ∃ k : Nat, k ≤ 64 ∧ i = .int .i64 k ∧ Hid (wr.heap[g5]? = some (.cells (cellsOf (turnedD key pad k)).toArray 52 (0, 0)) ∧ Below w.heap.size w wr)) (fun i _ => 64 - (intOf i).toNat)
  case atStart => exact ⟨0, by omega, rfl, HL0⟩
  case round =>
    clear HL0
    obtain ⟨k, hk64, rfl, HL⟩ := hrel
    by_cases hlt : k < 64
    · have dk : decide ((k : Int) < 64) = true := by rw [decide_eq_true_eq]; omega
      have dk' : decide (k < 64) = true := by rw [decide_eq_true_eq]; omega
      have hlk : k < (key ++ List.replicate 32 0).length := by simp [hk]; omega
      obtain ⟨x, HX⟩ : ∃ x : UInt8, Hid ((key ++ List.replicate 32 0)[k]? = some x) := ⟨(key ++ List.replicate 32 0)[k], List.getElem?_eq_getElem hlk⟩
      obtain ⟨y, HY⟩ : ∃ y : UInt8, Hid (y = x ^^^ pad) := ⟨x ^^^ pad, hidk rfl⟩
      have Hy : Hid ((blockD key pad)[k]? = some y) := by
        show _ = _
        unfold blockD
        rw [List.getElem?_map, HX.out, HY.out]
        rfl
      have hx : bits .xor .u8 (x.toNat : Int) (pad.toNat : Int) = (y.toNat : Int) := by rw [HY.out]; exact xor8 x pad
      have hc : wr.cell? ⟨g5, k, none⟩ = some (.int .u8 (x.toNat : Int)) := by
        rw [cell_of_row wr _ k _ 52 (0, 0) HL.out.1]
        have e := turnedD_at key pad k hk hlt
        rw [HX.out] at e
        obtain ⟨hh, e2⟩ := List.getElem?_eq_some_iff.1 e
        rw [← e2]
        simpa using cellsOf_at (turnedD key pad k) k hh
      have hz := hidk (show (cellsOf (turnedD key pad k)).toArray.size = 64 by rw [List.size_toArray, cellsOf_length, turnedD_length key pad k hk hk64])
      clear HX HY hlk
      go_wp2_with (first
        | (refine wpList_put8 rfl 5 (.tmp 18) (.tmp 17) rfl sizeOf5 g5 k (y.toNat : Int) rfl rfl (cellsOf (turnedD key pad k)).toArray 52 HL.out.1 (by rw [hz.out]; exact hlt) ?_; intro wa H1; try simp only [Act.put, List.setIfInBounds_toArray, List.set_cons_zero, List.set_cons_succ])
        | fail)
      have HL' : Hid (wa.heap[g5]? = some (.cells (cellsOf (turnedD key pad (k + 1))).toArray 52 (0, 0)) ∧ Below w.heap.size w wa) := by
        refine ⟨?_, H1.out.below _ _ HL.out.2 (by omega)⟩
        rw [H1.out.row, cells_put, turnedD_put key pad k hk hlt y Hy.out]
      clear H1 HL hc hx
      go_roundw
      case rel => exact ⟨k + 1, by omega, by go_num, HL'⟩
      case measure => simp [intOf]; omega
    · obtain rfl : k = 64 := by omega
      have hcv : (convert 38 9 (.slice (some ⟨g5, 0, none⟩) 64 64)).run Tryd.prog wr = .ok (.string s) wr := by
        rw [Hs.out]
        have := HL.out.1
        rw [turnedD_all key pad hk] at this
        exact conv_any this hbl
      have HBL := hidk HL.out.2
      clear HL
      go_wp2
      go_ret
      exact ⟨rfl, HBL.out⟩
end Go.Proofs.YtkmndchbmbhlhaaDoor
