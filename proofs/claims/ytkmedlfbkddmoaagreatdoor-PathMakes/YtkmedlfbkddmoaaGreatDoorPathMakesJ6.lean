/- Texts of our own that the row of PathMakes leans on, part 6. -/
import Derived.Test.YtkmedlfbkddmoaaGreatDoorPathMakesJ0
import Derived.Test.YtkmedlfbkddmoaaGreatDoorPathMakesJ5
import Derived.Deep.RegionHeld3
/- What sha.schedule answers: W 0 to 63 of a block. -/
namespace Go.Proofs.YtkmedlfbkddmoaaGreatDoor
open Go.RowKit Sums
set_option maxRecDepth 100000
set_option linter.unusedVariables false
set_option linter.unusedSimpArgs false
def wcells (l : List Int) : List Value := l.map fun z => .int .u32 z
theorem wcells_length (l : List Int) : (wcells l).length = l.length := by simp [wcells]
theorem wcells_set (l : List Int) (j : Nat) (z : Int) : (wcells l).set j (.int .u32 z) = wcells (l.set j z) := by simp [wcells, List.map_set]
theorem wcells_at (l : List Int) (j : Nat) (hj : j < l.length) : (wcells l)[j]? = some (.int .u32 l[j]) := by simp [wcells, List.getElem?_eq_getElem hj]
theorem wcells_all (l : List Int) : (wcells l).toArray.all (·.oneCell') = true := by
  rw [Array.all_eq_true_iff_forall_mem]
  intro u hu
  simp only [wcells, List.mem_toArray, List.mem_map] at hu
  obtain ⟨z, _, rfl⟩ := hu
  rfl
theorem wrow_set {w : World} {b t : Nat} {l : List Int} (hg : w.heap[b]? = some (.cells (wcells l).toArray t (0, 0))) (j : Nat) (x : Int) :
    (w.setCell ⟨b, j, none⟩ (.int .u32 x)).heap[b]? = some (.cells (wcells (l.set j x)).toArray t (0, 0)) := by
  rw [heap_setCell_same w b j _ t _ hg, ← wcells_set]
  simp
theorem wrow_cell {w : World} {b t : Nat} {l : List Int} (hg : w.heap[b]? = some (.cells (wcells l).toArray t (0, 0))) (j : Nat) (hj : j < l.length) :
    w.cell? ⟨b, j, none⟩ = some (.int .u32 l[j]) := by
  rw [cell_of_row w b j _ t (0, 0) hg]
  simp [wcells_at l j hj]
theorem size45 : (Tryz.prog.info? 160).map (·.size) = some 64 := by kernel_rfl
theorem zero45 : (Tryz.prog.info? 160).map (fun i => (i.zero, i.size)) = some (some (.agg (wcells (List.replicate 64 0)).toArray), 64) := by kernel_rfl
theorem noughts45 : ∃ Z : Array Value, Hid (Z = (wcells (List.replicate 64 0)).toArray) ∧ Hid ((Tryz.prog.info? 160).map (fun i => (i.zero, i.size)) = some (some (.agg Z), Z.size)) ∧
    Hid ((Tryz.prog.info? 160).map (·.size) = some Z.size) ∧ Hid (Z.all (·.oneCell') = true) ∧ Hid (Z.size = 64) :=
  ⟨(wcells (List.replicate 64 0)).toArray, (rfl : _ = _), zero45, size45, wcells_all _, (rfl : _ = _)⟩
def Lies (w : World) (b off : Nat) (l : List UInt8) : Prop := ∀ i, (hi : i < l.length) → w.cell? ⟨b, off + i, none⟩ = some (.int .u8 l[i].toNat)
theorem Lies.keep {w w' : World} {b off B : Nat} {l : List UInt8} (h : Lies w b off l) (hb : Below B w w') (hB : b < B) : Lies w' b off l := fun i hi => by
  rw [hb.cell (p := ⟨b, off + i, none⟩) hB]; exact h i hi
theorem Lies.drop {w : World} {b off : Nat} {l : List UInt8} (h : Lies w b off l) (n : Nat) : Lies w b (off + n) (l.drop n) := fun i hi => by
  have := h (n + i) (by simp at hi; omega)
  rw [← Nat.add_assoc] at this
  rw [this]
  simp
theorem Lies.take {w : World} {b off : Nat} {l : List UInt8} (h : Lies w b off l) (n : Nat) : Lies w b off (l.take n) := fun i hi => by
  have := h i (by simp at hi; omega)
  rw [this]
  simp
def Ok (l : List Int) : Prop := ∀ z ∈ l, 0 ≤ z ∧ z ≤ 4294967295
theorem wordAt_range (b : List UInt8) (t : Nat) : 0 ≤ wordAt b t ∧ wordAt b t ≤ 4294967295 := by
  have h0 := (b.getD (4 * t) 0).toNat_lt
  have h1 := (b.getD (4 * t + 1) 0).toNat_lt
  have h2 := (b.getD (4 * t + 2) 0).toNat_lt
  have h3 := (b.getD (4 * t + 3) 0).toNat_lt
  unfold wordAt
  omega
theorem ok16 (b : List UInt8) : Ok (words16 b) := by
  intro z hz
  obtain ⟨t, _, rfl⟩ := List.mem_map.1 hz
  exact wordAt_range b t
theorem words16_length (b : List UInt8) : (words16 b).length = 16 := by simp [words16]
theorem add32_range (a b : Int) : 0 ≤ add32 a b ∧ add32 a b ≤ 4294967295 := by unfold add32; omega
theorem grow_length (l : List Int) (n : Nat) : (grow l n).length = l.length + n := by
  induction n with
  | zero => rfl
  | succ n ih => simp [grow, ih]; omega
theorem grow_ok (l : List Int) (n : Nat) (h : Ok l) : Ok (grow l n) := by
  induction n with
  | zero => exact h
  | succ n ih =>
    intro z hz
    simp only [grow, List.mem_append, List.mem_singleton] at hz
    rcases hz with hz | rfl
    · exact ih z hz
    · exact add32_range _ _
def fill (l : List Int) : List Int := l ++ List.replicate (64 - l.length) 0
theorem fill_length (l : List Int) (h : l.length ≤ 64) : (fill l).length = 64 := by simp [fill]; omega
theorem fill_set (l : List Int) (z : Int) (h : l.length < 64) : (fill l).set l.length z = fill (l ++ [z]) := by
  unfold fill
  rw [List.set_append, if_neg (by omega), Nat.sub_self, show 64 - l.length = (64 - (l ++ [z]).length) + 1 by simp; omega, List.replicate_succ, List.set_cons_zero]
  simp
theorem fill_at (l : List Int) (j : Nat) (hj : j < l.length) (h : j < (fill l).length) : (fill l)[j] = l.getD j 0 := by
  have e : (fill l)[j]? = l[j]? := by unfold fill; rw [List.getElem?_append_left hj]
  rw [List.getElem?_eq_getElem h, List.getElem?_eq_getElem hj] at e
  simp [List.getD, List.getElem?_eq_getElem hj, Option.some.inj e]
theorem u32w (z : Int) : IntKind.u32.wrap z = z % 4294967296 := by
  simp [IntKind.wrap, IntKind.bits, IntKind.signed]
theorem idxW (W : World) (g j : Nat) (z : Int) (hz : z = j) (hj : j < 64) : (Instr.indexAt 160 (.pointer (some ⟨g, 0, none⟩)) (.int .i64 z)).run Tryz.prog W = .ok (.pointer (some ⟨g, j, none⟩)) W := by
  subst hz
  have hs : ∀ w, (sizeOf 131).run Tryz.prog w = .ok 1 w := by
    intro w
    have hq : (Tryz.prog.info? 131).map (·.size) = some 1 := by kernel_rfl
    cases h : Tryz.prog.info? 131 with
    | none => simp [h] at hq
    | some i => simp [h] at hq; simp [sizeOf, typeInfo, h, hq]
  simp [Instr.indexAt, run_underlying Tryz.underlying160, Instr.sureAddr, asIntOf, hj, hs, add_plain]
set_option maxHeartbeats 2000000 in
theorem sched_any (b off cap : Nat) (bl : List UInt8) (w : World) (hl : bl.length = 64) (hc : 64 ≤ cap) (hc2 : cap ≤ 9223372036854775807) (hb : b < w.heap.size) (hL : Lies w b off bl) :
    Calls Tryz.prog 129 #[.slice (some ⟨b, off, none⟩) 64 cap] w fun e w' => e = .returned (.agg (wcells (sched bl)).toArray) ∧ Below w.heap.size w w' := by
  obtain ⟨Z, HZ, HA, HS, H1, HZ64⟩ := noughts45
  have HL : Hid (Lies w b off bl) := hL
  have HLL : Hid (bl.length = 64) := hl
  clear hL hl
  go_enter Tryz.func129, Tryz.ntmps129
  go_wp2_with (first
    | (refine wpList_alloc_row rfl 160 rfl Z HA.out ?_)
    | fail)
  go_loopw [8] (fun i wr => ∃ k : Nat, k ≤ 16 ∧ i = .int .i64 k ∧ Hid (wr.heap[w.heap.size]? = some (.cells Z 160 (0, 0))) ∧
      Hid (wr.heap[w.heap.size + 1]? = some (.cells (wcells (fill ((words16 bl).take k))).toArray 160 (0, 0))) ∧ Below w.heap.size w wr)
    (fun i _ => 16 - (intOf i).toNat)
  case atStart =>
    refine ⟨0, by omega, rfl, heap_alloc2_old w _ _, ?_, ((Below.refl _ _).alloc (Nat.le_refl _) _).alloc (by simp) _⟩
    show _ = _
    have e : (wcells (fill ((words16 bl).take 0))).toArray = Z := by rw [HZ.out]; rfl
    rw [e]
    exact heap_alloc2_new w _ _
  case round =>
    obtain ⟨k, hk, rfl, HR, HD, hB⟩ := hrel
    by_cases hlt : k < 16
    · have hdi : decide ((k : Int) < 16) = true := by rw [decide_eq_true_eq]; omega
      have hlen := HLL.out
      have c0 := (HL.out.keep hB hb) (4 * k) (by omega)
      have c1 := (HL.out.keep hB hb) (4 * k + 1) (by omega)
      have c2 := (HL.out.keep hB hb) (4 * k + 2) (by omega)
      have c3 := (HL.out.keep hB hb) (4 * k + 3) (by omega)
      have HW : Hid (∀ len cap, 4 ≤ len → Calls Tryz.prog 138 #[.slice (some ⟨b, off + 4 * k, none⟩) len cap] wr fun e w' => e = .returned (.int .u32 (wordAt bl k)) ∧ ∃ n, w' = wr.drewN n) := by
        intro len cap h4
        have := word_any b (off + 4 * k) len cap wr _ _ _ _ h4 (by have := bl[4 * k].toNat_lt; omega) (by have := bl[4 * k + 1].toNat_lt; omega) (by have := bl[4 * k + 2].toNat_lt; omega) (by have := bl[4 * k + 3].toNat_lt; omega) c0 c1 c2 c3
        have e : wordAt bl k = (bl[4 * k].toNat : Int) * 16777216 + (bl[4 * k + 1].toNat : Int) * 65536 + (bl[4 * k + 2].toNat : Int) * 256 + (bl[4 * k + 3].toNat : Int) := by
          unfold wordAt
          simp [List.getD, List.getElem?_eq_getElem (show 4 * k < bl.length by omega), List.getElem?_eq_getElem (show 4 * k + 1 < bl.length by omega), List.getElem?_eq_getElem (show 4 * k + 2 < bl.length by omega), List.getElem?_eq_getElem (show 4 * k + 3 < bl.length by omega)]
        rw [e]
        exact this
      clear c0 c1 c2 c3
      have hw4 := wrap_int (4 * (k : Int)) (by omega) (by omega)
      have HT : Hid (((words16 bl).take k).length = k) := by show _ = _; simp [words16_length]; omega
      have hcell := wrow_cell HD.out k (by rw [fill_length _ (by rw [HT.out]; omega)]; omega)
      have hfz : wr.frozen? ⟨w.heap.size + 1, k, none⟩ = false := frozen_of_row wr _ k _ 160 HD.out
      clear hlen
      have HN : Hid (fill ((words16 bl).take (k + 1)) = (fill ((words16 bl).take k)).set k (wordAt bl k)) := by
        show _ = _
        have h16 := words16_length bl
        have e : (words16 bl).take (k + 1) = (words16 bl).take k ++ [wordAt bl k] := by
          rw [List.take_add_one, List.getElem?_eq_getElem (by omega)]
          simp [words16]
        have := fill_set ((words16 bl).take k) (wordAt bl k) (by rw [HT.out]; omega)
        rw [HT.out] at this
        rw [e, this]
      go_wp2_with fail
      refine (HW.out _ _ (by omega)).mono ?_
      rintro e w1 ⟨rfl, n, rfl⟩
      go_wp2
      go_roundw
      case rel =>
        refine ⟨k + 1, by omega, by go_num, ?_, ?_, (below_drewN hB n).setCell (by simp) _⟩
        · show _ = _
          rw [heap_setCell_other _ _ _ _ (by simp)]
          exact HR.out
        · show _ = _
          rw [HN.out]
          exact wrow_set (w := wr.drewN n) HD.out k _
      case measure => simp [intOf]; omega
    · obtain rfl : k = 16 := by omega
      have HD16 : Hid (wr.heap[w.heap.size + 1]? = some (.cells (wcells (fill (grow (words16 bl) 0))).toArray 160 (0, 0))) := by
        have := HD.out
        rw [List.take_of_length_le (by rw [words16_length]; exact Nat.le_refl _)] at this
        exact this
      clear HD
      simp only [Int.cast_ofNat_Int]
      go_wp2
      go_loopw [5] (fun i wt => ∃ k : Nat, k ≤ 48 ∧ i = .int .i64 ((k : Int) + 16) ∧ Hid (wt.heap[w.heap.size]? = some (.cells Z 160 (0, 0))) ∧
          Hid (wt.heap[w.heap.size + 1]? = some (.cells (wcells (fill (grow (words16 bl) k))).toArray 160 (0, 0))) ∧ Below w.heap.size w wt)
        (fun i _ => 64 - (intOf i).toNat)
      case atStart => exact ⟨0, by omega, rfl, HR, HD16, hB⟩
      case round =>
        clear HD16 HR hB
        obtain ⟨k, hk, rfl, HR, HD, hB⟩ := hrel
        by_cases hlt : k < 48
        · have hdi : decide ((k : Int) + 16 < 64) = true := by rw [decide_eq_true_eq]; omega
          have hw15 := wrap_int ((k : Int) + 16 - 15) (by omega) (by omega)
          have hw2 := wrap_int ((k : Int) + 16 - 2) (by omega) (by omega)
          have hw16 := wrap_int ((k : Int) + 16 - 16) (by omega) (by omega)
          have hw7 := wrap_int ((k : Int) + 16 - 7) (by omega) (by omega)
          rw [show (k : Int) + 16 - 15 = (k : Int) + 1 by omega] at hw15
          obtain ⟨l, HLW⟩ : ∃ l, Hid (l = grow (words16 bl) k) := ⟨_, (rfl : grow (words16 bl) k = _)⟩
          have HLn : Hid (l.length = k + 16) := by show _ = _; rw [HLW.out, grow_length, words16_length]; omega
          have HOK : Hid (Ok l) := by show Ok _; rw [HLW.out]; exact grow_ok _ _ (ok16 bl)
          rw [← HLW.out] at HD
          have HF : Hid ((fill l).length = 64) := fill_length _ (by have := HLn.out; omega)
          obtain ⟨x16, X16⟩ : ∃ x, Hid (x = l.getD k 0) := ⟨_, (rfl : l.getD k 0 = _)⟩
          obtain ⟨x15, X15⟩ : ∃ x, Hid (x = l.getD (k + 1) 0) := ⟨_, (rfl : l.getD (k + 1) 0 = _)⟩
          obtain ⟨x7, X7⟩ : ∃ x, Hid (x = l.getD (k + 9) 0) := ⟨_, (rfl : l.getD (k + 9) 0 = _)⟩
          obtain ⟨x2, X2⟩ : ∃ x, Hid (x = l.getD (k + 14) 0) := ⟨_, (rfl : l.getD (k + 14) 0 = _)⟩
          have at_ : ∀ j, j < k + 16 → wr.cell? ⟨w.heap.size + 1, j, none⟩ = some (.int .u32 (l.getD j 0)) := fun j hj => by
            have h1 := HLn.out
            have h2 := HF.out
            rw [wrow_cell HD.out j (by omega), fill_at l j (by omega)]
          have range : ∀ j, j < k + 16 → 0 ≤ l.getD j 0 ∧ l.getD j 0 ≤ 4294967295 := fun j hj => by
            have h1 := HLn.out
            simp only [List.getD, List.getElem?_eq_getElem (show j < l.length by omega), Option.getD_some]
            exact HOK.out _ (List.getElem_mem _)
          have c16 := at_ k (by omega)
          have c15 := at_ (k + 1) (by omega)
          have c7 := at_ (k + 9) (by omega)
          have c2 := at_ (k + 14) (by omega)
          have r15 := range (k + 1) (by omega)
          have r2 := range (k + 14) (by omega)
          rw [← X16.out] at c16
          rw [← X15.out] at c15 r15
          rw [← X7.out] at c7
          rw [← X2.out] at c2 r2
          have ho := wrow_cell HD.out (k + 16) (by have := HF.out; omega)
          have hfz : wr.frozen? ⟨w.heap.size + 1, k + 16, none⟩ = false := frozen_of_row wr _ _ _ 160 HD.out
          clear at_ range
          have T7 : Hid _ := fun w => turned_any x15 7 128 33554432 w r15.1 r15.2 (by unfold Turn; decide)
          have T18 : Hid _ := fun w => turned_any x15 18 262144 16384 w r15.1 r15.2 (by unfold Turn; decide)
          have T17 : Hid _ := fun w => turned_any x2 17 131072 32768 w r2.1 r2.2 (by unfold Turn; decide)
          have T19 : Hid _ := fun w => turned_any x2 19 524288 8192 w r2.1 r2.2 (by unfold Turn; decide)
          go_wp2
          go_quiet (fail)
          go_wp2
          have hv16 : IntKind.i64.wrap ((k : Int) + 16 - 16) = (k : Int) := by rw [show (k : Int) + 16 - 16 = (k : Int) by omega]; exact wrap_int _ (by omega) (by omega)
          have hv7 : IntKind.i64.wrap ((k : Int) + 16 - 7) = (k : Int) + 9 := by rw [show (k : Int) + 16 - 7 = (k : Int) + 9 by omega]; exact wrap_int _ (by omega) (by omega)
          have ia := fun W => idxW W (w.heap.size + 1) k (k : Int) rfl (by omega)
          have ib := fun W => idxW W (w.heap.size + 1) (k + 9) ((k : Int) + 9) (by omega) (by omega)
          have ic := fun W => idxW W (w.heap.size + 1) (k + 16) ((k : Int) + 16) (by omega) (by omega)
          refine wp_region_held_drew (S := (fun W => W.cell? ⟨w.heap.size + 1, k, none⟩ = some (.int .u32 x16) ∧ W.cell? ⟨w.heap.size + 1, k + 9, none⟩ = some (.int .u32 x7))) (by kernel_rfl) ⟨c16, c7⟩ (fun hHeld => ?_)
          refine zX 0 (.int .i64 ((k : Int) + 16)) rfl hHeld ?_
          try simp only [Act.put, pS1, pS2, pS3]
          refine zX 1 (.int .i64 ((k : Int) + 16)) rfl hHeld ?_
          try simp only [Act.put, pS1, pS2, pS3]
          refine zW 2 (.int .i64 ((k : Int))) rfl (Or.inl ⟨by rfl, by intro W hSw; go_simp; first | done | exact u32w _ | (rw [u32w]; first | rfl | omega) | omega | exact wrap_int _ (by omega) (by omega)⟩) hHeld ?_
          try simp only [Act.put, pS1, pS2, pS3]
          refine zX 3 (.pointer (some ⟨w.heap.size + 1, k, none⟩)) rfl hHeld ?_
          try simp only [Act.put, pS1, pS2, pS3]
          refine zW 4 (.int .u32 (x16)) rfl (Or.inl ⟨by rfl, by intro W hSw; obtain ⟨s1, s2⟩ := hSw; go_simp⟩) hHeld ?_
          try simp only [Act.put, pS1, pS2, pS3]
          refine zX 5 (.int .i64 ((k : Int) + 16)) rfl hHeld ?_
          try simp only [Act.put, pS1, pS2, pS3]
          refine zW 6 (.int .i64 ((k : Int) + 9)) rfl (Or.inl ⟨by rfl, by intro W hSw; go_simp; first | done | exact u32w _ | (rw [u32w]; first | rfl | omega) | omega | exact wrap_int _ (by omega) (by omega)⟩) hHeld ?_
          try simp only [Act.put, pS1, pS2, pS3]
          refine zX 7 (.pointer (some ⟨w.heap.size + 1, k + 9, none⟩)) rfl hHeld ?_
          try simp only [Act.put, pS1, pS2, pS3]
          refine zW 8 (.int .u32 (x7)) rfl (Or.inl ⟨by rfl, by intro W hSw; obtain ⟨s1, s2⟩ := hSw; go_simp⟩) hHeld ?_
          try simp only [Act.put, pS1, pS2, pS3]
          refine zW 9 (.int .u32 (((x16) + (x7)) % 4294967296)) rfl (Or.inl ⟨by rfl, by intro W hSw; go_simp; first | done | exact u32w _ | (rw [u32w]; first | rfl | omega) | omega | exact wrap_int _ (by omega) (by omega)⟩) hHeld ?_
          try simp only [Act.put, pS1, pS2, pS3]
          refine zX 10 (.int .u32 (x15)) rfl hHeld ?_
          try simp only [Act.put, pS1, pS2, pS3]
          refine zX 12 (.int .u32 (x15)) rfl hHeld ?_
          try simp only [Act.put, pS1, pS2, pS3]
          refine zX 15 (.int .u32 (x15)) rfl hHeld ?_
          try simp only [Act.put, pS1, pS2, pS3]
          refine zW 16 (.int .u32 ((x15) / 8)) rfl (Or.inl ⟨by rfl, by intro W hSw; go_simp; first | done | exact u32w _ | (rw [u32w]; first | rfl | omega) | omega | exact wrap_int _ (by omega) (by omega)⟩) hHeld ?_
          try simp only [Act.put, pS1, pS2, pS3]
          refine zX 19 (.int .u32 (x2)) rfl hHeld ?_
          try simp only [Act.put, pS1, pS2, pS3]
          refine zX 21 (.int .u32 (x2)) rfl hHeld ?_
          try simp only [Act.put, pS1, pS2, pS3]
          refine zX 24 (.int .u32 (x2)) rfl hHeld ?_
          try simp only [Act.put, pS1, pS2, pS3]
          refine zW 25 (.int .u32 ((x2) / 1024)) rfl (Or.inl ⟨by rfl, by intro W hSw; go_simp; first | done | exact u32w _ | (rw [u32w]; first | rfl | omega) | omega | exact wrap_int _ (by omega) (by omega)⟩) hHeld ?_
          try simp only [Act.put, pS1, pS2, pS3]
          refine wpAnyH_ready (rs := [11]) (by kernel_rfl) (by simp) ?_
          refine AllReadyH.cons (o := { dst := some 42, op := .call { callee := .value (.func 130), args := #[.tmp 41, .const (.int .i64 7)], argTypes := #[131, 3] }, type := 131, pos := "sha.go:97", after := #[zD 10], guard := none }) rfl (fun K hK => ?_) AllReadyH.nil
          go_simp
          refine (T7.out _).mono ?_
          rintro e w' ⟨rfl, rfl⟩
          go_wp2_with fail
          refine hK.out _ _ hHeld (fun hHeld => ?_)
          clear hK K
          try simp only [Act.put, pS1, pS2, pS3]
          refine wpAnyH_ready (rs := [13]) (by kernel_rfl) (by simp) ?_
          refine AllReadyH.cons (o := { dst := some 44, op := .call { callee := .value (.func 130), args := #[.tmp 43, .const (.int .i64 18)], argTypes := #[131, 3] }, type := 131, pos := "sha.go:97", after := #[zD 12, zC 11], guard := none }) rfl (fun K hK => ?_) AllReadyH.nil
          go_simp
          refine (T18.out _).mono ?_
          rintro e w' ⟨rfl, rfl⟩
          go_wp2_with fail
          refine hK.out _ _ hHeld (fun hHeld => ?_)
          clear hK K
          try simp only [Act.put, pS1, pS2, pS3]
          refine zW 14 (.int .u32 (bits .xor .u32 (rot (x15) 128 33554432) (rot (x15) 262144 16384))) rfl (Or.inl ⟨by rfl, by intro W hSw; go_simp; first | done | exact u32w _ | (rw [u32w]; first | rfl | omega) | omega | exact wrap_int _ (by omega) (by omega)⟩) hHeld ?_
          try simp only [Act.put, pS1, pS2, pS3]
          refine zW 17 (.int .u32 (bits .xor .u32 (bits .xor .u32 (rot (x15) 128 33554432) (rot (x15) 262144 16384)) ((x15) / 8))) rfl (Or.inl ⟨by rfl, by intro W hSw; go_simp; first | done | exact u32w _ | (rw [u32w]; first | rfl | omega) | omega | exact wrap_int _ (by omega) (by omega)⟩) hHeld ?_
          try simp only [Act.put, pS1, pS2, pS3]
          refine zW 18 (.int .u32 (((((x16) + (x7)) % 4294967296) + (bits .xor .u32 (bits .xor .u32 (rot (x15) 128 33554432) (rot (x15) 262144 16384)) ((x15) / 8))) % 4294967296)) rfl (Or.inl ⟨by rfl, by intro W hSw; go_simp; first | done | exact u32w _ | (rw [u32w]; first | rfl | omega) | omega | exact wrap_int _ (by omega) (by omega)⟩) hHeld ?_
          try simp only [Act.put, pS1, pS2, pS3]
          refine wpAnyH_ready (rs := [20]) (by kernel_rfl) (by simp) ?_
          refine AllReadyH.cons (o := { dst := some 51, op := .call { callee := .value (.func 130), args := #[.tmp 50, .const (.int .i64 17)], argTypes := #[131, 3] }, type := 131, pos := "sha.go:97", after := #[zD 19, zC 13], guard := none }) rfl (fun K hK => ?_) AllReadyH.nil
          go_simp
          refine (T17.out _).mono ?_
          rintro e w' ⟨rfl, rfl⟩
          go_wp2_with fail
          refine hK.out _ _ hHeld (fun hHeld => ?_)
          clear hK K
          try simp only [Act.put, pS1, pS2, pS3]
          refine wpAnyH_ready (rs := [22]) (by kernel_rfl) (by simp) ?_
          refine AllReadyH.cons (o := { dst := some 53, op := .call { callee := .value (.func 130), args := #[.tmp 52, .const (.int .i64 19)], argTypes := #[131, 3] }, type := 131, pos := "sha.go:97", after := #[zD 21, zC 20], guard := none }) rfl (fun K hK => ?_) AllReadyH.nil
          go_simp
          refine (T19.out _).mono ?_
          rintro e w' ⟨rfl, rfl⟩
          go_wp2_with fail
          refine hK.out _ _ hHeld (fun hHeld => ?_)
          clear hK K
          try simp only [Act.put, pS1, pS2, pS3]
          refine zW 23 (.int .u32 (bits .xor .u32 (rot (x2) 131072 32768) (rot (x2) 524288 8192))) rfl (Or.inl ⟨by rfl, by intro W hSw; go_simp; first | done | exact u32w _ | (rw [u32w]; first | rfl | omega) | omega | exact wrap_int _ (by omega) (by omega)⟩) hHeld ?_
          try simp only [Act.put, pS1, pS2, pS3]
          refine zW 26 (.int .u32 (bits .xor .u32 (bits .xor .u32 (rot (x2) 131072 32768) (rot (x2) 524288 8192)) ((x2) / 1024))) rfl (Or.inl ⟨by rfl, by intro W hSw; go_simp; first | done | exact u32w _ | (rw [u32w]; first | rfl | omega) | omega | exact wrap_int _ (by omega) (by omega)⟩) hHeld ?_
          try simp only [Act.put, pS1, pS2, pS3]
          refine zW 27 (.int .u32 (((((((x16) + (x7)) % 4294967296) + (bits .xor .u32 (bits .xor .u32 (rot (x15) 128 33554432) (rot (x15) 262144 16384)) ((x15) / 8))) % 4294967296) + (bits .xor .u32 (bits .xor .u32 (rot (x2) 131072 32768) (rot (x2) 524288 8192)) ((x2) / 1024))) % 4294967296)) rfl (Or.inl ⟨by rfl, by intro W hSw; go_simp; first | done | exact u32w _ | (rw [u32w]; first | rfl | omega) | omega | exact wrap_int _ (by omega) (by omega)⟩) hHeld ?_
          try simp only [Act.put, pS1, pS2, pS3]
          refine zX 28 (.pointer (some ⟨w.heap.size + 1, k + 16, none⟩)) rfl hHeld ?_
          try simp only [Act.put, pS1, pS2, pS3]
          refine wpAnyH_ready (rs := [29]) (by kernel_rfl) (by simp) ?_
          refine AllReadyH.cons (o := { dst := none, op := .store 131 (.tmp 59) (.tmp 58), type := 0, pos := "sha.go:97", after := #[zD 28, zD 27, zC 22, zP 0, zP 1, zP 2, zP 3, zP 4, zP 5, zP 6, zP 7, zP 8, zP 9, zP 10, zP 11, zP 12, zP 13, zP 14, zP 15, zP 16, zP 17, zP 18, zP 19, zP 20, zP 21, zP 22, zP 23, zP 24, zP 25, zP 26, zP 27], guard := none }) rfl (fun K hK => ?_) AllReadyH.nil
          go_simp
          try go_wp2_with fail
          refine hK.out _ _ ⟨(World.cell?_setCell_other _ _ _ _ (by simp)).trans c16, (World.cell?_setCell_other _ _ _ _ (by simp)).trans c7⟩ (fun hHeld => ?_)
          clear hK K
          try simp only [Act.put, pS1, pS2, pS3]
          refine wpAnyH_done (by kernel_rfl) ?_ _
          have HN : Hid ((x16 + x7 + bits .xor .u32 (bits .xor .u32 (rot x15 128 33554432) (rot x15 262144 16384)) (x15 / 8) + bits .xor .u32 (bits .xor .u32 (rot x2 131072 32768) (rot x2 524288 8192)) (x2 / 1024)) % 4294967296 = nextW l) := by
            show _ = _
            have h1 := HLn.out
            unfold nextW
            rw [h1, show k + 16 - 16 = k by omega, show k + 16 - 7 = k + 9 by omega, show k + 16 - 15 = k + 1 by omega, show k + 16 - 2 = k + 14 by omega, ← X16.out, ← X7.out, ← X15.out, ← X2.out]
            unfold add32 xor32
            omega
          have HFS : Hid (fill (grow (words16 bl) (k + 1)) = (fill l).set (k + 16) (nextW l)) := by
            show _ = _
            have h1 := HLn.out
            have := fill_set l (nextW l) (by omega)
            rw [h1] at this
            rw [this]
            unfold grow
            rw [← HLW.out]
          go_wp2
          rw [HN.out]
          go_roundw
          case rel =>
            refine ⟨k + 1, by omega, by go_num, ?_, ?_, (below_drewN hB _).setCell (by simp) _⟩
            · show _ = _
              rw [heap_setCell_other _ _ _ _ (by simp)]
              exact HR.out
            · show _ = _
              rw [HFS.out]
              exact wrow_set (w := wr.drewN _) HD.out (k + 16) _
          case measure => simp [intOf]; omega
        · obtain rfl : k = 48 := by omega
          obtain ⟨D, HDD⟩ : ∃ D, Hid (D = (wcells (sched bl)).toArray) := ⟨_, (rfl : (wcells (sched bl)).toArray = _)⟩
          have HDL : Hid (wr.heap[w.heap.size + 1]? = some (.cells D 160 (0, 0))) := by
            show _ = _
            rw [HDD.out]
            have := HD.out
            have e : fill (grow (words16 bl) 48) = sched bl := by
              unfold fill sched
              rw [grow_length, words16_length]
              simp
            rw [e] at this
            exact this
          have HD64 : Hid (Z.size = D.size) := by
            show _ = _
            rw [HZ64.out, HDD.out]
            simp [wcells_length, sched, grow_length, words16_length]
          have HSD : Hid ((Tryz.prog.info? 160).map (·.size) = some D.size) := by
            show _ = _
            rw [← HD64.out]; exact HS.out
          have H1D : Hid (D.all (·.oneCell') = true) := by
            show _ = _
            rw [HDD.out]; exact wcells_all _
          go_wp2_with (first
            | (refine wpList_load_row rfl 160 (.tmp 3) rfl (w.heap.size + 1) rfl 160 D (0, 0) _ HDL.out Tryz.underlying160 rfl HSD.out ?_)
            | (refine wpList_store_row rfl 160 (.tmp 2) (.tmp 60) rfl w.heap.size D rfl rfl 160 Z HR.out HSD.out HD64.out H1D.out ?_)
            | fail)
          refine bodyPost_ret (v := .agg D) ?_ rfl ⟨?_, ?_⟩
          · exact results_cell_row (p := 2) (ty := 160) rfl _ _ w.heap.size 160 D (0, 0) _ rfl (setRow_heap _ _ _ _ 160 _ HR.out) Tryz.underlying160 rfl HSD.out
          · rw [HDD.out]
          · exact below_setRow hB (Nat.le_refl _) _
def Table (g : Nat) (w : World) : Prop := g < w.heap.size ∧ ∀ k, k < 64 → w.cell? ⟨g, k, none⟩ = some (.int .u32 (kT.getD k 0))
theorem Table.keep {g : Nat} {w w' : World} (h : Table g w) (hb : Below w.heap.size w w') : Table g w' :=
  ⟨Nat.lt_of_lt_of_le h.1 hb.size, fun k hk => by rw [hb.cell (p := ⟨g, k, none⟩) h.1]; exact h.2 k hk⟩
def OkSt (s : St) : Prop := Ok s.list
theorem list_length (s : St) : s.list.length = 8 := rfl
theorem step_ok (s : St) (k w : Int) (h : OkSt s) : OkSt (Sums.step s k w) := by
  intro z hz
  simp only [Sums.step, St.list, List.mem_cons, List.not_mem_nil, or_false] at hz
  have H : ∀ y ∈ s.list, 0 ≤ y ∧ y ≤ 4294967295 := h
  simp only [St.list, List.mem_cons, List.not_mem_nil, or_false, forall_eq_or_imp, forall_eq] at H
  rcases hz with rfl | rfl | rfl | rfl | rfl | rfl | rfl | rfl
  · exact add32_range _ _
  · exact H.1
  · exact H.2.1
  · exact H.2.2.1
  · exact add32_range _ _
  · exact H.2.2.2.2.1
  · exact H.2.2.2.2.2.1
  · exact H.2.2.2.2.2.2.1
theorem run_ok (s : St) (w : List Int) (n : Nat) (h : OkSt s) : OkSt (Sums.run s w n) := by
  induction n with
  | zero => exact h
  | succ n ih => exact step_ok _ _ _ ih
theorem plus_ok (s r : St) : OkSt (plus s r) := by
  intro z hz
  simp only [plus, St.list, List.mem_cons, List.not_mem_nil, or_false] at hz
  rcases hz with rfl | rfl | rfl | rfl | rfl | rfl | rfl | rfl <;> exact add32_range _ _
theorem sched_length (b : List UInt8) : (sched b).length = 64 := by simp [sched, grow_length, words16_length]
theorem size38 : (Tryz.prog.info? 132).map (·.size) = some 8 := by kernel_rfl
theorem zero38 : (Tryz.prog.info? 132).map (fun i => (i.zero, i.size)) = some (some (.agg (wcells (List.replicate 8 0)).toArray), 8) := by kernel_rfl
theorem noughts38 : ∃ Z : Array Value, Hid ((Tryz.prog.info? 132).map (fun i => (i.zero, i.size)) = some (some (.agg Z), Z.size)) ∧
    Hid ((Tryz.prog.info? 132).map (·.size) = some Z.size) ∧ Hid (Z.size = 8) :=
  ⟨(wcells (List.replicate 8 0)).toArray, zero38, size38, (rfl : _ = _)⟩
theorem words_row (l : List Int) (t n : Nat) (hl : l.length = n) (hs : (Tryz.prog.info? t).map (·.size) = some n) : ∃ D : Array Value, Hid (D = (wcells l).toArray) ∧ Hid ((Tryz.prog.info? t).map (·.size) = some D.size) ∧ Hid (D.all (·.oneCell') = true) ∧ Hid (D.size = n) := by
  refine ⟨(wcells l).toArray, (rfl : _ = _), ?_, wcells_all l, ?_⟩
  · show _ = _
    rw [hs]; simp [wcells_length, hl]
  · show _ = _
    simp [wcells_length, hl]
set_option maxHeartbeats 2000000 in
set_option maxRecDepth 100000 in
theorem mixed_any (s : St) (b off cap : Nat) (bl : List UInt8) (w : World) (hs : OkSt s) (hl : bl.length = 64) (hc : 64 ≤ cap) (hc2 : cap ≤ 9223372036854775807) (hb : b < w.heap.size) (hL : Lies w b off bl) (hT : Table 1 w) :
    Calls Tryz.prog 118 #[.agg (wcells s.list).toArray, .slice (some ⟨b, off, none⟩) 64 cap] w fun e w' => e = .returned (.agg (wcells (block s bl).list).toArray) ∧ Below w.heap.size w w' := by
  obtain ⟨Z8, HA8, HS8, H8⟩ := noughts38
  obtain ⟨Z, HZ, HA, HS, H1, HZ64⟩ := noughts45
  obtain ⟨D, HD, HSD, H1D, H8D⟩ := words_row s.list 132 8 rfl size38
  obtain ⟨V, HV, HSV, H1V, H64V⟩ := words_row (sched bl) 160 64 (sched_length bl) size45
  have HZV : Hid (Z.size = V.size) := by show _ = _; rw [HZ64.out, H64V.out]
  have HTB : Hid (Table 1 w) := hT
  have HOK : Hid (OkSt s) := hs
  have HK : Hid (∀ w1, Below w.heap.size w w1 → Calls Tryz.prog 129 #[.slice (some ⟨b, off, none⟩) 64 cap] w1 fun e w' => e = .returned (.agg V) ∧ Below w1.heap.size w1 w') := by
    intro w1 hb1
    rw [HV.out]
    exact sched_any b off cap bl w1 hl hc hc2 (Nat.lt_of_lt_of_le hb hb1.size) (hL.keep hb1 hb)
  rw [← HD.out]
  clear hL hl hT hs
  go_enter Tryz.func118, Tryz.ntmps118
  go_wp2_with (first
    | (refine wpList_alloc_row rfl 132 rfl Z8 HA8.out ?_)
    | fail)
  have hB0 : Below w.heap.size w ((w.alloc (.cells D 132)).alloc (.cells Z8 132)) := ((Below.refl _ _).alloc (Nat.le_refl _) _).alloc (by simp) _
  refine (HK.out _ hB0).mono ?_
  rintro e w1 ⟨rfl, hb1⟩
  have hs1 := hb1.size
  simp only [World.size_alloc] at hs1
  go_wp2_with (first
    | (refine wpList_alloc_row rfl 160 rfl Z HA.out ?_)
    | (refine wpList_store_row rfl 160 (.tmp 5) (.tmp 18) rfl w1.heap.size V rfl rfl 160 Z (heap_alloc_new w1 _) HSV.out HZV.out H1V.out ?_)
    | fail)
  obtain ⟨w2, hw2⟩ : ∃ w2, w2 = (w1.alloc (.cells Z 160)).setRow w1.heap.size V := ⟨_, rfl⟩
  rw [← hw2]
  have HG : Hid (w2.heap[w.heap.size]? = some (.cells D 132 (0, 0)) ∧ w2.heap[w.heap.size + 1]? = some (.cells Z8 132 (0, 0)) ∧ w2.heap[w1.heap.size]? = some (.cells V 160 (0, 0))) := by
    rw [hw2]
    refine ⟨keep_var ?_ _ _, keep_var ?_ _ _, new_var w1 Z V 160⟩
    · rw [hb1.block _ (by simp only [World.size_alloc]; omega)]; exact heap_alloc2_old w _ _
    · rw [hb1.block _ (by simp only [World.size_alloc]; omega)]; exact heap_alloc2_new w _ _
  have hB2 : Below w.heap.size w w2 := by
    rw [hw2]
    exact below_var (hB0.trans (hb1.mono (by simp only [World.size_alloc]; omega))) (by omega) _ _
  have HT2 : Hid (Table 1 w2) := HTB.out.keep hB2
  obtain ⟨gw, HGW⟩ : ∃ gw, Hid (gw = w1.heap.size) := ⟨_, (rfl : w1.heap.size = _)⟩
  rw [← HGW.out] at HG ⊢
  clear hw2 hb1 hs1 hB0 HK HTB
  have D8 : ∀ j, (hj : j < 8) → w2.cell? ⟨w.heap.size, j, none⟩ = some (.int .u32 (s.list[j]'(by rw [list_length]; exact hj))) := fun j hj => by
    have := HG.out.1
    rw [HD.out] at this
    exact wrow_cell this j hj
  have d0 : w2.cell? ⟨w.heap.size, 0, none⟩ = some (.int .u32 s.a) := D8 0 (by omega)
  have d1 : w2.cell? ⟨w.heap.size, 1, none⟩ = some (.int .u32 s.b) := D8 1 (by omega)
  have d2 : w2.cell? ⟨w.heap.size, 2, none⟩ = some (.int .u32 s.c) := D8 2 (by omega)
  have d3 : w2.cell? ⟨w.heap.size, 3, none⟩ = some (.int .u32 s.d) := D8 3 (by omega)
  have d4 : w2.cell? ⟨w.heap.size, 4, none⟩ = some (.int .u32 s.e) := D8 4 (by omega)
  have d5 : w2.cell? ⟨w.heap.size, 5, none⟩ = some (.int .u32 s.f) := D8 5 (by omega)
  have d6 : w2.cell? ⟨w.heap.size, 6, none⟩ = some (.int .u32 s.g) := D8 6 (by omega)
  have d7 : w2.cell? ⟨w.heap.size, 7, none⟩ = some (.int .u32 s.h) := D8 7 (by omega)
  clear D8
  go_quiet (fail)
  go_wp2
  go_quiet (fail)
  go_wp2
  go_loopw [6, 7, 8, 9, 10, 11, 12, 13, 35] (fun v6 v7 v8 v9 v10 v11 v12 v13 v35 wr => ∃ (k : Nat) (r : St) (n : Nat), k ≤ 64 ∧ v35 = .int .i64 k ∧ v6 = .int .u32 r.a ∧ v7 = .int .u32 r.b ∧ v8 = .int .u32 r.c ∧ v9 = .int .u32 r.d ∧
      v10 = .int .u32 r.e ∧ v11 = .int .u32 r.f ∧ v12 = .int .u32 r.g ∧ v13 = .int .u32 r.h ∧ Hid (r = Sums.run s (sched bl) k) ∧ wr = w2.drewN n)
    (fun _ _ _ _ _ _ _ _ v _ => 64 - (intOf v).toNat)
  case atStart => exact ⟨0, s, _, by omega, rfl, rfl, rfl, rfl, rfl, rfl, rfl, rfl, rfl, (rfl : s = _), by rw [World.drewN_drewN]⟩
  case round =>
    obtain ⟨k, r, n, hk, rfl, rfl, rfl, rfl, rfl, rfl, rfl, rfl, rfl, HR, rfl⟩ := hrel
    by_cases hlt : k < 64
    · have hdi : decide ((k : Int) < 64) = true := by rw [decide_eq_true_eq]; omega
      have HOr : Hid (OkSt r) := by show OkSt _; rw [HR.out]; exact run_ok _ _ _ HOK.out
      obtain ⟨kk, HKK⟩ : ∃ kk, Hid (kk = kT.getD k 0) := ⟨_, (rfl : kT.getD k 0 = _)⟩
      obtain ⟨ww, HWW⟩ : ∃ ww, Hid (ww = (sched bl).getD k 0) := ⟨_, (rfl : (sched bl).getD k 0 = _)⟩
      have ck : (w2.drewN n).cell? ⟨1, k, none⟩ = some (.int .u32 kk) := by
        rw [HKK.out]; exact HT2.out.2 k hlt
      have cw : (w2.drewN n).cell? ⟨gw, k, none⟩ = some (.int .u32 ww) := by
        have h1 := HG.out.2.2
        rw [HV.out] at h1
        have := wrow_cell h1 k (by rw [sched_length]; omega)
        rw [HWW.out]
        simpa [List.getD, List.getElem?_eq_getElem (show k < (sched bl).length by rw [sched_length]; omega)] using this
      have HE : Hid (Sums.step r kk ww = Sums.run s (sched bl) (k + 1)) := by
        show _ = _
        rw [HKK.out, HWW.out, HR.out]
        rfl
      obtain ⟨ra, rb, rc, rd, re, rf, rg, rh⟩ := r
      have HB : Hid ((0 ≤ ra ∧ ra ≤ 4294967295) ∧ (0 ≤ re ∧ re ≤ 4294967295)) := ⟨HOr.out ra (by simp [St.list]), HOr.out re (by simp [St.list])⟩
      have T6 : Hid _ := fun w => turned_any re 6 64 67108864 w HB.out.2.1 HB.out.2.2 (by unfold Turn; decide)
      have T11 : Hid _ := fun w => turned_any re 11 2048 2097152 w HB.out.2.1 HB.out.2.2 (by unfold Turn; decide)
      have T25 : Hid _ := fun w => turned_any re 25 33554432 128 w HB.out.2.1 HB.out.2.2 (by unfold Turn; decide)
      have T2 : Hid _ := fun w => turned_any ra 2 4 1073741824 w HB.out.1.1 HB.out.1.2 (by unfold Turn; decide)
      have T13 : Hid _ := fun w => turned_any ra 13 8192 524288 w HB.out.1.1 HB.out.1.2 (by unfold Turn; decide)
      have T22 : Hid _ := fun w => turned_any ra 22 4194304 1024 w HB.out.1.1 HB.out.1.2 (by unfold Turn; decide)
      have ia := fun W => idxW W 1 k (k : Int) rfl hlt
      have ib := fun W => idxW W gw k (k : Int) rfl hlt
      clear HR HOr
      go_wp2
      refine wp_region_held_drew (S := (fun W => W.cell? ⟨1, k, none⟩ = some (.int .u32 kk) ∧ W.cell? ⟨gw, k, none⟩ = some (.int .u32 ww))) (by kernel_rfl) ⟨ck, cw⟩ (fun hHeld => ?_)
      refine zX 0 (.int .u32 (rh)) rfl hHeld ?_
      try simp only [Act.put, pS1, pS2, pS3]
      refine zX 1 (.int .u32 (re)) rfl hHeld ?_
      try simp only [Act.put, pS1, pS2, pS3]
      refine zX 3 (.int .u32 (re)) rfl hHeld ?_
      try simp only [Act.put, pS1, pS2, pS3]
      refine zX 6 (.int .u32 (re)) rfl hHeld ?_
      try simp only [Act.put, pS1, pS2, pS3]
      refine zX 10 (.int .u32 (re)) rfl hHeld ?_
      try simp only [Act.put, pS1, pS2, pS3]
      refine zX 11 (.int .u32 (rf)) rfl hHeld ?_
      try simp only [Act.put, pS1, pS2, pS3]
      refine zW 12 (.int .u32 (bits .and .u32 (re) (rf))) rfl (Or.inl ⟨by rfl, by intro W hSw; go_simp; first | done | exact u32w _ | (rw [u32w]; first | rfl | omega) | omega | exact wrap_int _ (by omega) (by omega)⟩) hHeld ?_
      try simp only [Act.put, pS1, pS2, pS3]
      refine zX 13 (.int .u32 (re)) rfl hHeld ?_
      try simp only [Act.put, pS1, pS2, pS3]
      refine zW 14 (.int .u32 (bits .xor .u32 4294967295 (re))) rfl (Or.inl ⟨by rfl, by intro W hSw; go_simp; first | done | rfl⟩) hHeld ?_
      try simp only [Act.put, pS1, pS2, pS3]
      refine zX 15 (.int .u32 (rg)) rfl hHeld ?_
      try simp only [Act.put, pS1, pS2, pS3]
      refine zW 16 (.int .u32 (bits .and .u32 (bits .xor .u32 4294967295 (re)) (rg))) rfl (Or.inl ⟨by rfl, by intro W hSw; go_simp; first | done | exact u32w _ | (rw [u32w]; first | rfl | omega) | omega | exact wrap_int _ (by omega) (by omega)⟩) hHeld ?_
      try simp only [Act.put, pS1, pS2, pS3]
      refine zW 17 (.int .u32 (bits .xor .u32 (bits .and .u32 (re) (rf)) (bits .and .u32 (bits .xor .u32 4294967295 (re)) (rg)))) rfl (Or.inl ⟨by rfl, by intro W hSw; go_simp; first | done | exact u32w _ | (rw [u32w]; first | rfl | omega) | omega | exact wrap_int _ (by omega) (by omega)⟩) hHeld ?_
      try simp only [Act.put, pS1, pS2, pS3]
      refine zX 19 (.int .i64 (k : Int)) rfl hHeld ?_
      try simp only [Act.put, pS1, pS2, pS3]
      refine zX 20 (.pointer (some ⟨1, k, none⟩)) rfl hHeld ?_
      try simp only [Act.put, pS1, pS2, pS3]
      refine zW 21 (.int .u32 (kk)) rfl (Or.inl ⟨by rfl, by intro W hSw; obtain ⟨s1, s2⟩ := hSw; go_simp⟩) hHeld ?_
      try simp only [Act.put, pS1, pS2, pS3]
      refine zX 23 (.int .i64 (k : Int)) rfl hHeld ?_
      try simp only [Act.put, pS1, pS2, pS3]
      refine zX 24 (.pointer (some ⟨gw, k, none⟩)) rfl hHeld ?_
      try simp only [Act.put, pS1, pS2, pS3]
      refine zW 25 (.int .u32 (ww)) rfl (Or.inl ⟨by rfl, by intro W hSw; obtain ⟨s1, s2⟩ := hSw; go_simp⟩) hHeld ?_
      try simp only [Act.put, pS1, pS2, pS3]
      refine wpAnyH_ready (rs := [2]) (by kernel_rfl) (by simp) ?_
      refine AllReadyH.cons (o := { dst := some 40, op := .call { callee := .value (.func 130), args := #[.tmp 39, .const (.int .i64 6)], argTypes := #[131, 3] }, type := 131, pos := "sha.go:79", after := #[zD 1], guard := none }) rfl (fun K hK => ?_) AllReadyH.nil
      go_simp
      refine (T6.out _).mono ?_
      rintro e w' ⟨rfl, rfl⟩
      go_wp2_with fail
      refine hK.out _ _ hHeld (fun hHeld => ?_)
      clear hK K
      try simp only [Act.put, pS1, pS2, pS3]
      refine wpAnyH_ready (rs := [4]) (by kernel_rfl) (by simp) ?_
      refine AllReadyH.cons (o := { dst := some 42, op := .call { callee := .value (.func 130), args := #[.tmp 41, .const (.int .i64 11)], argTypes := #[131, 3] }, type := 131, pos := "sha.go:79", after := #[zD 3, zC 2], guard := none }) rfl (fun K hK => ?_) AllReadyH.nil
      go_simp
      refine (T11.out _).mono ?_
      rintro e w' ⟨rfl, rfl⟩
      go_wp2_with fail
      refine hK.out _ _ hHeld (fun hHeld => ?_)
      clear hK K
      try simp only [Act.put, pS1, pS2, pS3]
      refine zW 5 (.int .u32 (bits .xor .u32 (rot (re) 64 67108864) (rot (re) 2048 2097152))) rfl (Or.inl ⟨by rfl, by intro W hSw; go_simp; first | done | exact u32w _ | (rw [u32w]; first | rfl | omega) | omega | exact wrap_int _ (by omega) (by omega)⟩) hHeld ?_
      try simp only [Act.put, pS1, pS2, pS3]
      refine wpAnyH_ready (rs := [7]) (by kernel_rfl) (by simp) ?_
      refine AllReadyH.cons (o := { dst := some 45, op := .call { callee := .value (.func 130), args := #[.tmp 44, .const (.int .i64 25)], argTypes := #[131, 3] }, type := 131, pos := "sha.go:79", after := #[zD 6, zC 4], guard := none }) rfl (fun K hK => ?_) AllReadyH.nil
      go_simp
      refine (T25.out _).mono ?_
      rintro e w' ⟨rfl, rfl⟩
      go_wp2_with fail
      refine hK.out _ _ hHeld (fun hHeld => ?_)
      clear hK K
      try simp only [Act.put, pS1, pS2, pS3]
      refine zW 8 (.int .u32 (bits .xor .u32 (bits .xor .u32 (rot (re) 64 67108864) (rot (re) 2048 2097152)) (rot (re) 33554432 128))) rfl (Or.inl ⟨by rfl, by intro W hSw; go_simp; first | done | exact u32w _ | (rw [u32w]; first | rfl | omega) | omega | exact wrap_int _ (by omega) (by omega)⟩) hHeld ?_
      try simp only [Act.put, pS1, pS2, pS3]
      refine zW 9 (.int .u32 (((rh) + (bits .xor .u32 (bits .xor .u32 (rot (re) 64 67108864) (rot (re) 2048 2097152)) (rot (re) 33554432 128))) % 4294967296)) rfl (Or.inl ⟨by rfl, by intro W hSw; go_simp; first | done | exact u32w _ | (rw [u32w]; first | rfl | omega) | omega | exact wrap_int _ (by omega) (by omega)⟩) hHeld ?_
      try simp only [Act.put, pS1, pS2, pS3]
      refine zW 18 (.int .u32 (((((rh) + (bits .xor .u32 (bits .xor .u32 (rot (re) 64 67108864) (rot (re) 2048 2097152)) (rot (re) 33554432 128))) % 4294967296) + (bits .xor .u32 (bits .and .u32 (re) (rf)) (bits .and .u32 (bits .xor .u32 4294967295 (re)) (rg)))) % 4294967296)) rfl (Or.inl ⟨by rfl, by intro W hSw; go_simp; first | done | exact u32w _ | (rw [u32w]; first | rfl | omega) | omega | exact wrap_int _ (by omega) (by omega)⟩) hHeld ?_
      try simp only [Act.put, pS1, pS2, pS3]
      refine zW 22 (.int .u32 (((((((rh) + (bits .xor .u32 (bits .xor .u32 (rot (re) 64 67108864) (rot (re) 2048 2097152)) (rot (re) 33554432 128))) % 4294967296) + (bits .xor .u32 (bits .and .u32 (re) (rf)) (bits .and .u32 (bits .xor .u32 4294967295 (re)) (rg)))) % 4294967296) + (kk)) % 4294967296)) rfl (Or.inl ⟨by rfl, by intro W hSw; go_simp; first | done | exact u32w _ | (rw [u32w]; first | rfl | omega) | omega | exact wrap_int _ (by omega) (by omega)⟩) hHeld ?_
      try simp only [Act.put, pS1, pS2, pS3]
      refine zW 26 (.int .u32 (((((((((rh) + (bits .xor .u32 (bits .xor .u32 (rot (re) 64 67108864) (rot (re) 2048 2097152)) (rot (re) 33554432 128))) % 4294967296) + (bits .xor .u32 (bits .and .u32 (re) (rf)) (bits .and .u32 (bits .xor .u32 4294967295 (re)) (rg)))) % 4294967296) + (kk)) % 4294967296) + (ww)) % 4294967296)) rfl (Or.inl ⟨by rfl, by intro W hSw; go_simp; first | done | exact u32w _ | (rw [u32w]; first | rfl | omega) | omega | exact wrap_int _ (by omega) (by omega)⟩) hHeld ?_
      try simp only [Act.put, pS1, pS2, pS3]
      refine zX 27 (.int .u32 (((((((((rh) + (bits .xor .u32 (bits .xor .u32 (rot (re) 64 67108864) (rot (re) 2048 2097152)) (rot (re) 33554432 128))) % 4294967296) + (bits .xor .u32 (bits .and .u32 (re) (rf)) (bits .and .u32 (bits .xor .u32 4294967295 (re)) (rg)))) % 4294967296) + (kk)) % 4294967296) + (ww)) % 4294967296)) rfl hHeld ?_
      try simp only [Act.put, pS1, pS2, pS3]
      refine wpAnyH_done (by kernel_rfl) ?_ _
      go_wp2_with (first
        | (go_at_call 130; refine (T2.out _).mono ?_; rintro e w' ⟨rfl, rfl⟩)
        | (go_at_call 130; refine (T13.out _).mono ?_; rintro e w' ⟨rfl, rfl⟩)
        | (go_at_call 130; refine (T22.out _).mono ?_; rintro e w' ⟨rfl, rfl⟩))
      go_roundw
      case rel =>
        refine ⟨k + 1, Sums.step ⟨ra, rb, rc, rd, re, rf, rg, rh⟩ kk ww, n + 1, by omega, by go_num, ?_, rfl, rfl, rfl, ?_, rfl, rfl, rfl, HE, rfl⟩
        · congr 1
          simp only [Sums.step, pOf, qOf, add32, xor32, and32, not32]
          omega
        · congr 1
          simp only [Sums.step, pOf, qOf, add32, xor32, and32, not32]
          omega
      case measure => simp [intOf]; omega
    · obtain rfl : k = 64 := by omega
      obtain ⟨ra, rb, rc, rd, re, rf, rg, rh⟩ := r
      have HE : Hid (block s bl = plus s ⟨ra, rb, rc, rd, re, rf, rg, rh⟩) := by
        show _ = _
        rw [HR.out]
        rfl
      have H8Z : Hid (w2.heap[w.heap.size + 1]? = some (.cells Z8 132 (0, 0))) := HG.out.2.1
      have F1 : Hid ((wcells (plus s ⟨ra, rb, rc, rd, re, rf, rg, rh⟩).list).toArray.size = 8) := (rfl : _ = _)
      have F2 : Hid ((Tryz.prog.info? 132).map (·.size) = some (wcells (plus s ⟨ra, rb, rc, rd, re, rf, rg, rh⟩).list).toArray.size) := by show _ = _; rw [F1.out]; exact size38
      have F3 : Hid (Z8.size = (wcells (plus s ⟨ra, rb, rc, rd, re, rf, rg, rh⟩).list).toArray.size) := by show _ = _; rw [F1.out]; exact H8.out
      have F4 : Hid ((wcells (plus s ⟨ra, rb, rc, rd, re, rf, rg, rh⟩).list).toArray.all (·.oneCell') = true) := wcells_all _
      go_wp2_with (first
        | (refine wpList_store_row rfl 132 (.tmp 4) (.tmp 130) rfl (w.heap.size + 1) (wcells (plus s ⟨ra, rb, rc, rd, re, rf, rg, rh⟩).list).toArray rfl (by rfl) 132 Z8 H8Z.out F2.out F3.out F4.out ?_)
        | fail)
      rw [HE.out]
      refine bodyPost_ret (v := .agg (wcells (plus s ⟨ra, rb, rc, rd, re, rf, rg, rh⟩).list).toArray) ?_ rfl ⟨rfl, ?_⟩
      · exact results_cell_row (p := 4) (ty := 132) rfl _ _ (w.heap.size + 1) 132 _ (0, 0) _ rfl (setRow_heap _ _ _ _ 132 _ H8Z.out) Tryz.underlying132 rfl F2.out
      · exact below_setRow (below_drewN hB2 _) (by omega) _
theorem idxB (W : World) (b off len cap j : Nat) (z : Int) (hz : z = j) (hj : j < len) : (Instr.indexAt 69 (.slice (some ⟨b, off, none⟩) len cap) (.int .i64 z)).run Tryz.prog W = .ok (.pointer (some ⟨b, off + j, none⟩)) W := by
  subst hz
  have hs : ∀ w, (sizeOf 5).run Tryz.prog w = .ok 1 w := by
    intro w
    have hq : (Tryz.prog.info? 5).map (·.size) = some 1 := by kernel_rfl
    cases h : Tryz.prog.info? 5 with
    | none => simp [h] at hq
    | some i => simp [h] at hq; simp [sizeOf, typeInfo, h, hq]
  simp [Instr.indexAt, run_underlying Tryz.underlying69, Instr.sureAddr, asIntOf, hj, hs, add_plain]
def wpart (b : List UInt8) (t : Nat) : Nat → Nat
  | 0 => 0
  | j + 1 => wpart b t j * 256 + (b.getD (4 * t + j) 0).toNat
theorem wpart_lt (b : List UInt8) (t j : Nat) (hj : j ≤ 3) : wpart b t j < 16777216 := by
  have h0 := (b.getD (4 * t + 0) 0).toNat_lt
  have h1 := (b.getD (4 * t + 1) 0).toNat_lt
  have h2 := (b.getD (4 * t + 2) 0).toNat_lt
  have : j = 0 ∨ j = 1 ∨ j = 2 ∨ j = 3 := by omega
  rcases this with rfl | rfl | rfl | rfl <;> simp only [wpart] <;> omega
theorem wpart_all (b : List UInt8) (t : Nat) : (wpart b t 4 : Int) = wordAt b t := by
  unfold wordAt
  simp only [wpart, Nat.add_zero]
  omega
set_option maxHeartbeats 4000000 in
set_option maxRecDepth 100000 in
theorem refWords_any (b off cap : Nat) (bl : List UInt8) (w : World) (hl : bl.length = 64) (hc : 64 ≤ cap) (hc2 : cap ≤ 9223372036854775807) (hb : b < w.heap.size) (hL : Lies w b off bl) :
    Calls Tryz.prog 115 #[.slice (some ⟨b, off, none⟩) 64 cap] w fun e w' => e = .returned (.agg (wcells (sched bl)).toArray) ∧ Below w.heap.size w w' := by
  obtain ⟨Z, HZ, HA, HS, H1, HZ64⟩ := noughts45
  have HL : Hid (Lies w b off bl) := hL
  have HLL : Hid (bl.length = 64) := hl
  clear hL hl
  go_enter Tryz.func115, Tryz.ntmps115
  go_wp2_with (first
    | (refine wpList_alloc_row rfl 160 rfl Z HA.out ?_)
    | fail)
  go_loopw [4] (fun i wr => ∃ k : Nat, k ≤ 16 ∧ i = .int .i64 k ∧ Hid (wr.heap[w.heap.size]? = some (.cells Z 160 (0, 0))) ∧
      Hid (wr.heap[w.heap.size + 1]? = some (.cells (wcells (fill ((words16 bl).take k))).toArray 160 (0, 0))) ∧ Below w.heap.size w wr)
    (fun i _ => 16 - (intOf i).toNat)
  case atStart =>
    refine ⟨0, by omega, rfl, heap_alloc2_old w _ _, ?_, ((Below.refl _ _).alloc (Nat.le_refl _) _).alloc (by simp) _⟩
    show _ = _
    have e : (wcells (fill ((words16 bl).take 0))).toArray = Z := by rw [HZ.out]; rfl
    rw [e]
    exact heap_alloc2_new w _ _
  case round =>
    obtain ⟨k, hk, rfl, HR, HD, hB⟩ := hrel
    by_cases hlt : k < 16
    · have hdi : decide ((k : Int) < 16) = true := by rw [decide_eq_true_eq]; omega
      have HT : Hid (((words16 bl).take k).length = k) := by show _ = _; simp [words16_length]; omega
      obtain ⟨F, HF⟩ : ∃ F, Hid (F = fill ((words16 bl).take k)) := ⟨_, (rfl : fill ((words16 bl).take k) = _)⟩
      have HFL : Hid (F.length = 64) := by show _ = _; rw [HF.out]; exact fill_length _ (by rw [HT.out]; omega)
      have HF0 : Hid (F.set k 0 = F) := by
        show _ = _
        have h0 := HFL.out
        have e : F[k]'(by omega) = 0 := by
          have h1 : F[k]? = some 0 := by
            rw [HF.out]
            unfold fill
            rw [List.getElem?_append_right (by rw [HT.out]; omega), HT.out, Nat.sub_self, List.getElem?_replicate, if_pos (by omega)]
          rw [List.getElem?_eq_getElem (by omega)] at h1
          exact Option.some.inj h1
        rw [← e]
        exact List.set_getElem_self (by omega)
      have HD0 : Hid (wr.heap[w.heap.size + 1]? = some (.cells (wcells (F.set k ((wpart bl k 0 : Nat) : Int))).toArray 160 (0, 0))) := by
        show _ = _
        rw [show ((wpart bl k 0 : Nat) : Int) = 0 from rfl, HF0.out, HF.out]; exact HD.out
      clear HD
      go_wp2
      go_loopw [5] (fun v wi => ∃ j : Nat, j ≤ 4 ∧ v = .int .i64 j ∧ Hid (wi.heap[w.heap.size]? = some (.cells Z 160 (0, 0))) ∧
          Hid (wi.heap[w.heap.size + 1]? = some (.cells (wcells (F.set k ((wpart bl k j : Nat) : Int))).toArray 160 (0, 0))) ∧ Below w.heap.size w wi)
        (fun v _ => 4 - (intOf v).toNat)
      case atStart => exact ⟨0, by omega, rfl, HR, HD0, hB⟩
      case round =>
        clear HR HD0 hB
        obtain ⟨j, hj, rfl, HR, HD, hB⟩ := hrel
        by_cases hlj : j < 4
        · have hdj : decide ((j : Int) < 4) = true := by rw [decide_eq_true_eq]; omega
          obtain ⟨x, HX⟩ : ∃ x : Nat, Hid (x = wpart bl k j) := ⟨_, (rfl : wpart bl k j = _)⟩
          obtain ⟨c, HC⟩ : ∃ c : Nat, Hid (c = (bl.getD (4 * k + j) 0).toNat) := ⟨_, (rfl : (bl.getD (4 * k + j) 0).toNat = _)⟩
          have hx : x < 16777216 := by rw [HX.out]; exact wpart_lt bl k j (by omega)
          have hcc : c < 256 := by rw [HC.out]; exact (bl.getD (4 * k + j) 0).toNat_lt
          have HN : Hid (x * 256 + c = wpart bl k (j + 1)) := by show _ = _; rw [HX.out, HC.out]; rfl
          rw [← HX.out] at HD
          have cx : wr.cell? ⟨w.heap.size + 1, k, none⟩ = some (.int .u32 (x : Int)) := by
            have h0 := HFL.out
            rw [wrow_cell HD.out k (by simp; omega)]
            simp
          have cb : wr.cell? ⟨b, off + (4 * k + j), none⟩ = some (.int .u8 (c : Int)) := by
            have h0 := HLL.out
            rw [(HL.out.keep hB hb) (4 * k + j) (by omega), HC.out]
            simp [List.getD, List.getElem?_eq_getElem (show 4 * k + j < bl.length by omega)]
          have hfz : wr.frozen? ⟨w.heap.size + 1, k, none⟩ = false := frozen_of_row wr _ k _ 160 HD.out
          have hw4 := wrap_int (4 * (k : Int)) (by omega) (by omega)
          have hw4j := wrap_int (4 * (k : Int) + (j : Int)) (by omega) (by omega)
          have ia := fun W => idxW W (w.heap.size + 1) k (k : Int) rfl (by omega)
          have ib := fun W => idxB W b off 64 cap (4 * k + j) (4 * (k : Int) + (j : Int)) (by omega) (by omega)
          go_wp2
          have hw256 : IntKind.u32.wrap ((x : Int) * 256) = (x : Int) * 256 := by rw [u32w]; omega
          have hwc : IntKind.u32.wrap (c : Int) = (c : Int) := by rw [u32w]; omega
          have hwn : IntKind.u32.wrap ((x : Int) * 256 + (c : Int)) = (x : Int) * 256 + (c : Int) := by rw [u32w]; omega
          refine wp_region_held_drew (S := (fun _ => True)) (by kernel_rfl) trivial (fun hHeld => ?_)
          refine zX 0 (.int .i64 (k : Int)) rfl hHeld ?_
          try simp only [Act.put, pS1, pS2, pS3]
          refine zX 1 (.int .i64 (k : Int)) rfl hHeld ?_
          try simp only [Act.put, pS1, pS2, pS3]
          refine zX 2 (.pointer (some ⟨w.heap.size + 1, k, none⟩)) rfl hHeld ?_
          try simp only [Act.put, pS1, pS2, pS3]
          refine zX 5 (.slice (some ⟨b, off, none⟩) 64 cap) rfl hHeld ?_
          try simp only [Act.put, pS1, pS2, pS3]
          refine zX 6 (.int .i64 (k : Int)) rfl hHeld ?_
          try simp only [Act.put, pS1, pS2, pS3]
          refine zX 7 (.int .i64 (4 * (k : Int))) rfl hHeld ?_
          try simp only [Act.put, pS1, pS2, pS3]
          refine zX 8 (.int .i64 (j : Int)) rfl hHeld ?_
          try simp only [Act.put, pS1, pS2, pS3]
          refine zX 9 (.int .i64 (4 * (k : Int) + (j : Int))) rfl hHeld ?_
          try simp only [Act.put, pS1, pS2, pS3]
          refine zX 10 (.pointer (some ⟨b, off + (4 * k + j), none⟩)) rfl hHeld ?_
          try simp only [Act.put, pS1, pS2, pS3]
          refine wpAnyH_ready (rs := [3, 11]) (by kernel_rfl) (by simp) ?_
          refine (AllReadyH.cons (o := { dst := some 20, op := .load 131 (.tmp 19), type := 131, pos := "ref.go:41", after := #[zD 2], guard := none }) rfl (fun K hK => ?_) (AllReadyH.cons (o := { dst := some 28, op := .load 5 (.tmp 27), type := 5, pos := "ref.go:41", after := #[zD 10], guard := none }) rfl (fun K hK => ?_) AllReadyH.nil))
          · go_simp
            refine hK.out _ _ trivial (fun hHeld => ?_)
            clear hK K
            try simp only [Act.put, pS1, pS2, pS3]
            refine zX 4 (.int .u32 ((x : Int) * 256)) rfl hHeld ?_
            try simp only [Act.put, pS1, pS2, pS3]
            refine wpAnyH_ready (rs := [11]) (by kernel_rfl) (by simp) ?_
            refine (AllReadyH.cons (o := { dst := some 28, op := .load 5 (.tmp 27), type := 5, pos := "ref.go:41", after := #[zD 10], guard := none }) rfl (fun K hK => ?_) AllReadyH.nil)
            go_simp
            refine hK.out _ _ trivial (fun hHeld => ?_)
            clear hK K
            try simp only [Act.put, pS1, pS2, pS3]
            refine zX 12 (.int .u32 (c : Int)) rfl hHeld ?_
            try simp only [Act.put, pS1, pS2, pS3]
            refine zX 13 (.int .u32 ((x : Int) * 256 + (c : Int))) rfl hHeld ?_
            try simp only [Act.put, pS1, pS2, pS3]
            refine zX 14 (.pointer (some ⟨w.heap.size + 1, k, none⟩)) rfl hHeld ?_
            try simp only [Act.put, pS1, pS2, pS3]
            refine wpAnyH_ready (rs := [15]) (by kernel_rfl) (by simp) ?_
            refine (AllReadyH.cons (o := { dst := none, op := .store 131 (.tmp 31) (.tmp 30), type := 0, pos := "ref.go:41", after := #[zD 14, zD 13, zP 0, zP 1, zP 2, zP 3, zP 4, zP 5, zP 6, zP 7, zP 8, zP 9, zP 10, zP 11, zP 12, zP 13], guard := none }) rfl (fun K hK => ?_) AllReadyH.nil)
            go_simp
            refine hK.out _ _ trivial (fun hHeld => ?_)
            clear hK K
            try simp only [Act.put, pS1, pS2, pS3]
            refine wpAnyH_done (by kernel_rfl) ?_ _
            go_wp2
            go_roundw
            case rel => exact ⟨j + 1, by omega, by go_num, ((heap_setCell_other wr _ _ _ (by simp)).trans HR.out), (by show _ = _; rw [← HN.out, show F.set k ((x * 256 + c : Nat) : Int) = (F.set k (x : Int)).set k ((x : Int) * 256 + (c : Int)) by rw [List.set_set]; congr 1]; exact wrow_set (w := wr) HD.out k _), (hB.setCell (by simp) _).drew⟩
            case measure => simp [intOf]; omega
          · go_simp
            refine hK.out _ _ trivial (fun hHeld => ?_)
            clear hK K
            try simp only [Act.put, pS1, pS2, pS3]
            refine zX 12 (.int .u32 (c : Int)) rfl hHeld ?_
            try simp only [Act.put, pS1, pS2, pS3]
            refine wpAnyH_ready (rs := [3]) (by kernel_rfl) (by simp) ?_
            refine (AllReadyH.cons (o := { dst := some 20, op := .load 131 (.tmp 19), type := 131, pos := "ref.go:41", after := #[zD 2], guard := none }) rfl (fun K hK => ?_) AllReadyH.nil)
            go_simp
            refine hK.out _ _ trivial (fun hHeld => ?_)
            clear hK K
            try simp only [Act.put, pS1, pS2, pS3]
            refine zX 4 (.int .u32 ((x : Int) * 256)) rfl hHeld ?_
            try simp only [Act.put, pS1, pS2, pS3]
            refine zX 13 (.int .u32 ((x : Int) * 256 + (c : Int))) rfl hHeld ?_
            try simp only [Act.put, pS1, pS2, pS3]
            refine zX 14 (.pointer (some ⟨w.heap.size + 1, k, none⟩)) rfl hHeld ?_
            try simp only [Act.put, pS1, pS2, pS3]
            refine wpAnyH_ready (rs := [15]) (by kernel_rfl) (by simp) ?_
            refine (AllReadyH.cons (o := { dst := none, op := .store 131 (.tmp 31) (.tmp 30), type := 0, pos := "ref.go:41", after := #[zD 14, zD 13, zP 0, zP 1, zP 2, zP 3, zP 4, zP 5, zP 6, zP 7, zP 8, zP 9, zP 10, zP 11, zP 12, zP 13], guard := none }) rfl (fun K hK => ?_) AllReadyH.nil)
            go_simp
            refine hK.out _ _ trivial (fun hHeld => ?_)
            clear hK K
            try simp only [Act.put, pS1, pS2, pS3]
            refine wpAnyH_done (by kernel_rfl) ?_ _
            go_wp2
            go_roundw
            case rel => exact ⟨j + 1, by omega, by go_num, ((heap_setCell_other wr _ _ _ (by simp)).trans HR.out), (by show _ = _; rw [← HN.out, show F.set k ((x * 256 + c : Nat) : Int) = (F.set k (x : Int)).set k ((x : Int) * 256 + (c : Int)) by rw [List.set_set]; congr 1]; exact wrow_set (w := wr) HD.out k _), (hB.setCell (by simp) _).drew⟩
            case measure => simp [intOf]; omega
        · obtain rfl : j = 4 := by omega
          have HN : Hid (fill ((words16 bl).take (k + 1)) = F.set k ((wpart bl k 4 : Nat) : Int)) := by
            show _ = _
            have h16 := words16_length bl
            have e : (words16 bl).take (k + 1) = (words16 bl).take k ++ [wordAt bl k] := by
              rw [List.take_add_one, List.getElem?_eq_getElem (by omega)]
              simp [words16]
            have := fill_set ((words16 bl).take k) (wordAt bl k) (by rw [HT.out]; omega)
            rw [HT.out] at this
            rw [e, ← this, HF.out, wpart_all]
          rw [← HN.out] at HD
          go_wp2
          go_roundw
          case rel => exact ⟨k + 1, by omega, by go_num, HR, HD, hB⟩
          case measure => simp [intOf]; omega
    · obtain rfl : k = 16 := by omega
      have HD16 : Hid (wr.heap[w.heap.size + 1]? = some (.cells (wcells (fill (grow (words16 bl) 0))).toArray 160 (0, 0))) := by
        have := HD.out
        rw [List.take_of_length_le (by rw [words16_length]; exact Nat.le_refl _)] at this
        exact this
      clear HD
      simp only [Int.cast_ofNat_Int]
      go_wp2
      go_loopw [6] (fun i wt => ∃ k : Nat, k ≤ 48 ∧ i = .int .i64 ((k : Int) + 16) ∧ Hid (wt.heap[w.heap.size]? = some (.cells Z 160 (0, 0))) ∧
          Hid (wt.heap[w.heap.size + 1]? = some (.cells (wcells (fill (grow (words16 bl) k))).toArray 160 (0, 0))) ∧ Below w.heap.size w wt)
        (fun i _ => 64 - (intOf i).toNat)
      case atStart => exact ⟨0, by omega, rfl, HR, HD16, hB⟩
      case round =>
        clear HD16 HR hB
        obtain ⟨k, hk, rfl, HR, HD, hB⟩ := hrel
        by_cases hlt : k < 48
        · have hdi : decide ((k : Int) + 16 < 64) = true := by rw [decide_eq_true_eq]; omega
          have hw15 := wrap_int ((k : Int) + 16 - 15) (by omega) (by omega)
          have hw2 := wrap_int ((k : Int) + 16 - 2) (by omega) (by omega)
          have hw16 := wrap_int ((k : Int) + 16 - 16) (by omega) (by omega)
          have hw7 := wrap_int ((k : Int) + 16 - 7) (by omega) (by omega)
          rw [show (k : Int) + 16 - 15 = (k : Int) + 1 by omega] at hw15
          obtain ⟨l, HLW⟩ : ∃ l, Hid (l = grow (words16 bl) k) := ⟨_, (rfl : grow (words16 bl) k = _)⟩
          have HLn : Hid (l.length = k + 16) := by show _ = _; rw [HLW.out, grow_length, words16_length]; omega
          have HOK : Hid (Ok l) := by show Ok _; rw [HLW.out]; exact grow_ok _ _ (ok16 bl)
          rw [← HLW.out] at HD
          have HF : Hid ((fill l).length = 64) := fill_length _ (by have := HLn.out; omega)
          obtain ⟨x16, X16⟩ : ∃ x, Hid (x = l.getD k 0) := ⟨_, (rfl : l.getD k 0 = _)⟩
          obtain ⟨x15, X15⟩ : ∃ x, Hid (x = l.getD (k + 1) 0) := ⟨_, (rfl : l.getD (k + 1) 0 = _)⟩
          obtain ⟨x7, X7⟩ : ∃ x, Hid (x = l.getD (k + 9) 0) := ⟨_, (rfl : l.getD (k + 9) 0 = _)⟩
          obtain ⟨x2, X2⟩ : ∃ x, Hid (x = l.getD (k + 14) 0) := ⟨_, (rfl : l.getD (k + 14) 0 = _)⟩
          have at_ : ∀ j, j < k + 16 → wr.cell? ⟨w.heap.size + 1, j, none⟩ = some (.int .u32 (l.getD j 0)) := fun j hj => by
            have h1 := HLn.out
            have h2 := HF.out
            rw [wrow_cell HD.out j (by omega), fill_at l j (by omega)]
          have range : ∀ j, j < k + 16 → 0 ≤ l.getD j 0 ∧ l.getD j 0 ≤ 4294967295 := fun j hj => by
            have h1 := HLn.out
            simp only [List.getD, List.getElem?_eq_getElem (show j < l.length by omega), Option.getD_some]
            exact HOK.out _ (List.getElem_mem _)
          have c16 := at_ k (by omega)
          have c15 := at_ (k + 1) (by omega)
          have c7 := at_ (k + 9) (by omega)
          have c2 := at_ (k + 14) (by omega)
          have r15 := range (k + 1) (by omega)
          have r2 := range (k + 14) (by omega)
          rw [← X16.out] at c16
          rw [← X15.out] at c15 r15
          rw [← X7.out] at c7
          rw [← X2.out] at c2 r2
          have ho := wrow_cell HD.out (k + 16) (by have := HF.out; omega)
          have hfz : wr.frozen? ⟨w.heap.size + 1, k + 16, none⟩ = false := frozen_of_row wr _ _ _ 160 HD.out
          clear at_ range
          have T7 : Hid _ := fun w => refTurn_any x15 7 128 33554432 w r15.1 r15.2 (by unfold Turn; decide)
          have T18 : Hid _ := fun w => refTurn_any x15 18 262144 16384 w r15.1 r15.2 (by unfold Turn; decide)
          have T17 : Hid _ := fun w => refTurn_any x2 17 131072 32768 w r2.1 r2.2 (by unfold Turn; decide)
          have T19 : Hid _ := fun w => refTurn_any x2 19 524288 8192 w r2.1 r2.2 (by unfold Turn; decide)
          go_wp2
          have hv16 : IntKind.i64.wrap ((k : Int) + 16 - 16) = (k : Int) := by rw [show (k : Int) + 16 - 16 = (k : Int) by omega]; exact wrap_int _ (by omega) (by omega)
          have hv7 : IntKind.i64.wrap ((k : Int) + 16 - 7) = (k : Int) + 9 := by rw [show (k : Int) + 16 - 7 = (k : Int) + 9 by omega]; exact wrap_int _ (by omega) (by omega)
          have ia := fun W => idxW W (w.heap.size + 1) k (k : Int) rfl (by omega)
          have ib := fun W => idxW W (w.heap.size + 1) (k + 9) ((k : Int) + 9) (by omega) (by omega)
          have ic := fun W => idxW W (w.heap.size + 1) (k + 16) ((k : Int) + 16) (by omega) (by omega)
          refine wp_region_held_drew (S := (fun W => W.cell? ⟨w.heap.size + 1, k, none⟩ = some (.int .u32 x16) ∧ W.cell? ⟨w.heap.size + 1, k + 9, none⟩ = some (.int .u32 x7))) (by kernel_rfl) ⟨c16, c7⟩ (fun hHeld => ?_)
          refine zX 0 (.int .i64 ((k : Int) + 16)) rfl hHeld ?_
          try simp only [Act.put, pS1, pS2, pS3]
          refine zX 1 (.int .i64 ((k : Int) + 16)) rfl hHeld ?_
          try simp only [Act.put, pS1, pS2, pS3]
          refine zW 2 (.int .i64 ((k : Int))) rfl (Or.inl ⟨by rfl, by intro W hSw; go_simp; first | done | exact u32w _ | (rw [u32w]; first | rfl | omega) | omega | exact wrap_int _ (by omega) (by omega)⟩) hHeld ?_
          try simp only [Act.put, pS1, pS2, pS3]
          refine zX 3 (.pointer (some ⟨w.heap.size + 1, k, none⟩)) rfl hHeld ?_
          try simp only [Act.put, pS1, pS2, pS3]
          refine zW 4 (.int .u32 (x16)) rfl (Or.inl ⟨by rfl, by intro W hSw; obtain ⟨s1, s2⟩ := hSw; go_simp⟩) hHeld ?_
          try simp only [Act.put, pS1, pS2, pS3]
          refine zX 5 (.int .i64 ((k : Int) + 16)) rfl hHeld ?_
          try simp only [Act.put, pS1, pS2, pS3]
          refine zW 6 (.int .i64 ((k : Int) + 9)) rfl (Or.inl ⟨by rfl, by intro W hSw; go_simp; first | done | exact u32w _ | (rw [u32w]; first | rfl | omega) | omega | exact wrap_int _ (by omega) (by omega)⟩) hHeld ?_
          try simp only [Act.put, pS1, pS2, pS3]
          refine zX 7 (.pointer (some ⟨w.heap.size + 1, k + 9, none⟩)) rfl hHeld ?_
          try simp only [Act.put, pS1, pS2, pS3]
          refine zW 8 (.int .u32 (x7)) rfl (Or.inl ⟨by rfl, by intro W hSw; obtain ⟨s1, s2⟩ := hSw; go_simp⟩) hHeld ?_
          try simp only [Act.put, pS1, pS2, pS3]
          refine zW 9 (.int .u32 (((x16) + (x7)) % 4294967296)) rfl (Or.inl ⟨by rfl, by intro W hSw; go_simp; first | done | exact u32w _ | (rw [u32w]; first | rfl | omega) | omega | exact wrap_int _ (by omega) (by omega)⟩) hHeld ?_
          try simp only [Act.put, pS1, pS2, pS3]
          refine zX 10 (.int .u32 (x15)) rfl hHeld ?_
          try simp only [Act.put, pS1, pS2, pS3]
          refine zX 12 (.int .u32 (x15)) rfl hHeld ?_
          try simp only [Act.put, pS1, pS2, pS3]
          refine zX 15 (.int .u32 (x15)) rfl hHeld ?_
          try simp only [Act.put, pS1, pS2, pS3]
          refine zW 16 (.int .u32 ((x15) / 8)) rfl (Or.inl ⟨by rfl, by intro W hSw; go_simp; first | done | exact u32w _ | (rw [u32w]; first | rfl | omega) | omega | exact wrap_int _ (by omega) (by omega)⟩) hHeld ?_
          try simp only [Act.put, pS1, pS2, pS3]
          refine zX 19 (.int .u32 (x2)) rfl hHeld ?_
          try simp only [Act.put, pS1, pS2, pS3]
          refine zX 21 (.int .u32 (x2)) rfl hHeld ?_
          try simp only [Act.put, pS1, pS2, pS3]
          refine zX 24 (.int .u32 (x2)) rfl hHeld ?_
          try simp only [Act.put, pS1, pS2, pS3]
          refine zW 25 (.int .u32 ((x2) / 1024)) rfl (Or.inl ⟨by rfl, by intro W hSw; go_simp; first | done | exact u32w _ | (rw [u32w]; first | rfl | omega) | omega | exact wrap_int _ (by omega) (by omega)⟩) hHeld ?_
          try simp only [Act.put, pS1, pS2, pS3]
          refine wpAnyH_ready (rs := [11]) (by kernel_rfl) (by simp) ?_
          refine AllReadyH.cons (o := { dst := some 55, op := .call { callee := .value (.func 116), args := #[.tmp 54, .const (.int .i64 7)], argTypes := #[131, 3] }, type := 131, pos := "ref.go:47", after := #[zD 10], guard := none }) rfl (fun K hK => ?_) AllReadyH.nil
          go_simp
          refine (T7.out _).mono ?_
          rintro e w' ⟨rfl, n1, rfl⟩
          go_wp2_with fail
          refine hK.out _ _ hHeld (fun hHeld => ?_)
          clear hK K
          try simp only [Act.put, pS1, pS2, pS3]
          refine wpAnyH_ready (rs := [13]) (by kernel_rfl) (by simp) ?_
          refine AllReadyH.cons (o := { dst := some 57, op := .call { callee := .value (.func 116), args := #[.tmp 56, .const (.int .i64 18)], argTypes := #[131, 3] }, type := 131, pos := "ref.go:47", after := #[zD 12, zC 11], guard := none }) rfl (fun K hK => ?_) AllReadyH.nil
          go_simp
          refine (T18.out _).mono ?_
          rintro e w' ⟨rfl, n1, rfl⟩
          go_wp2_with fail
          refine hK.out _ _ hHeld (fun hHeld => ?_)
          clear hK K
          try simp only [Act.put, pS1, pS2, pS3]
          refine zW 14 (.int .u32 (bits .xor .u32 (rot (x15) 128 33554432) (rot (x15) 262144 16384))) rfl (Or.inl ⟨by rfl, by intro W hSw; go_simp; first | done | exact u32w _ | (rw [u32w]; first | rfl | omega) | omega | exact wrap_int _ (by omega) (by omega)⟩) hHeld ?_
          try simp only [Act.put, pS1, pS2, pS3]
          refine zW 17 (.int .u32 (bits .xor .u32 (bits .xor .u32 (rot (x15) 128 33554432) (rot (x15) 262144 16384)) ((x15) / 8))) rfl (Or.inl ⟨by rfl, by intro W hSw; go_simp; first | done | exact u32w _ | (rw [u32w]; first | rfl | omega) | omega | exact wrap_int _ (by omega) (by omega)⟩) hHeld ?_
          try simp only [Act.put, pS1, pS2, pS3]
          refine zW 18 (.int .u32 (((((x16) + (x7)) % 4294967296) + (bits .xor .u32 (bits .xor .u32 (rot (x15) 128 33554432) (rot (x15) 262144 16384)) ((x15) / 8))) % 4294967296)) rfl (Or.inl ⟨by rfl, by intro W hSw; go_simp; first | done | exact u32w _ | (rw [u32w]; first | rfl | omega) | omega | exact wrap_int _ (by omega) (by omega)⟩) hHeld ?_
          try simp only [Act.put, pS1, pS2, pS3]
          refine wpAnyH_ready (rs := [20]) (by kernel_rfl) (by simp) ?_
          refine AllReadyH.cons (o := { dst := some 64, op := .call { callee := .value (.func 116), args := #[.tmp 63, .const (.int .i64 17)], argTypes := #[131, 3] }, type := 131, pos := "ref.go:47", after := #[zD 19, zC 13], guard := none }) rfl (fun K hK => ?_) AllReadyH.nil
          go_simp
          refine (T17.out _).mono ?_
          rintro e w' ⟨rfl, n1, rfl⟩
          go_wp2_with fail
          refine hK.out _ _ hHeld (fun hHeld => ?_)
          clear hK K
          try simp only [Act.put, pS1, pS2, pS3]
          refine wpAnyH_ready (rs := [22]) (by kernel_rfl) (by simp) ?_
          refine AllReadyH.cons (o := { dst := some 66, op := .call { callee := .value (.func 116), args := #[.tmp 65, .const (.int .i64 19)], argTypes := #[131, 3] }, type := 131, pos := "ref.go:47", after := #[zD 21, zC 20], guard := none }) rfl (fun K hK => ?_) AllReadyH.nil
          go_simp
          refine (T19.out _).mono ?_
          rintro e w' ⟨rfl, n1, rfl⟩
          go_wp2_with fail
          refine hK.out _ _ hHeld (fun hHeld => ?_)
          clear hK K
          try simp only [Act.put, pS1, pS2, pS3]
          refine zW 23 (.int .u32 (bits .xor .u32 (rot (x2) 131072 32768) (rot (x2) 524288 8192))) rfl (Or.inl ⟨by rfl, by intro W hSw; go_simp; first | done | exact u32w _ | (rw [u32w]; first | rfl | omega) | omega | exact wrap_int _ (by omega) (by omega)⟩) hHeld ?_
          try simp only [Act.put, pS1, pS2, pS3]
          refine zW 26 (.int .u32 (bits .xor .u32 (bits .xor .u32 (rot (x2) 131072 32768) (rot (x2) 524288 8192)) ((x2) / 1024))) rfl (Or.inl ⟨by rfl, by intro W hSw; go_simp; first | done | exact u32w _ | (rw [u32w]; first | rfl | omega) | omega | exact wrap_int _ (by omega) (by omega)⟩) hHeld ?_
          try simp only [Act.put, pS1, pS2, pS3]
          refine zW 27 (.int .u32 (((((((x16) + (x7)) % 4294967296) + (bits .xor .u32 (bits .xor .u32 (rot (x15) 128 33554432) (rot (x15) 262144 16384)) ((x15) / 8))) % 4294967296) + (bits .xor .u32 (bits .xor .u32 (rot (x2) 131072 32768) (rot (x2) 524288 8192)) ((x2) / 1024))) % 4294967296)) rfl (Or.inl ⟨by rfl, by intro W hSw; go_simp; first | done | exact u32w _ | (rw [u32w]; first | rfl | omega) | omega | exact wrap_int _ (by omega) (by omega)⟩) hHeld ?_
          try simp only [Act.put, pS1, pS2, pS3]
          refine zX 28 (.pointer (some ⟨w.heap.size + 1, k + 16, none⟩)) rfl hHeld ?_
          try simp only [Act.put, pS1, pS2, pS3]
          refine wpAnyH_ready (rs := [29]) (by kernel_rfl) (by simp) ?_
          refine AllReadyH.cons (o := { dst := none, op := .store 131 (.tmp 72) (.tmp 71), type := 0, pos := "ref.go:47", after := #[zD 28, zD 27, zC 22, zP 0, zP 1, zP 2, zP 3, zP 4, zP 5, zP 6, zP 7, zP 8, zP 9, zP 10, zP 11, zP 12, zP 13, zP 14, zP 15, zP 16, zP 17, zP 18, zP 19, zP 20, zP 21, zP 22, zP 23, zP 24, zP 25, zP 26, zP 27], guard := none }) rfl (fun K hK => ?_) AllReadyH.nil
          go_simp
          try go_wp2_with fail
          refine hK.out _ _ ⟨(World.cell?_setCell_other _ _ _ _ (by simp)).trans c16, (World.cell?_setCell_other _ _ _ _ (by simp)).trans c7⟩ (fun hHeld => ?_)
          clear hK K
          try simp only [Act.put, pS1, pS2, pS3]
          refine wpAnyH_done (by kernel_rfl) ?_ _
          have HN : Hid ((x16 + x7 + bits .xor .u32 (bits .xor .u32 (rot x15 128 33554432) (rot x15 262144 16384)) (x15 / 8) + bits .xor .u32 (bits .xor .u32 (rot x2 131072 32768) (rot x2 524288 8192)) (x2 / 1024)) % 4294967296 = nextW l) := by
            show _ = _
            have h1 := HLn.out
            unfold nextW
            rw [h1, show k + 16 - 16 = k by omega, show k + 16 - 7 = k + 9 by omega, show k + 16 - 15 = k + 1 by omega, show k + 16 - 2 = k + 14 by omega, ← X16.out, ← X7.out, ← X15.out, ← X2.out]
            unfold add32 xor32
            omega
          have HFS : Hid (fill (grow (words16 bl) (k + 1)) = (fill l).set (k + 16) (nextW l)) := by
            show _ = _
            have h1 := HLn.out
            have := fill_set l (nextW l) (by omega)
            rw [h1] at this
            rw [this]
            unfold grow
            rw [← HLW.out]
          go_wp2
          rw [HN.out]
          go_roundw
          case rel =>
            refine ⟨k + 1, by omega, by go_num, ?_, ?_, (below_drewN hB _).setCell (by simp) _⟩
            · show _ = _
              rw [heap_setCell_other _ _ _ _ (by simp)]
              exact HR.out
            · show _ = _
              rw [HFS.out]
              exact wrow_set (w := wr.drewN _) HD.out (k + 16) _
          case measure => simp [intOf]; omega
        · obtain rfl : k = 48 := by omega
          obtain ⟨D, HDD⟩ : ∃ D, Hid (D = (wcells (sched bl)).toArray) := ⟨_, (rfl : (wcells (sched bl)).toArray = _)⟩
          have HDL : Hid (wr.heap[w.heap.size + 1]? = some (.cells D 160 (0, 0))) := by
            show _ = _
            rw [HDD.out]
            have := HD.out
            have e : fill (grow (words16 bl) 48) = sched bl := by
              unfold fill sched
              rw [grow_length, words16_length]
              simp
            rw [e] at this
            exact this
          have HD64 : Hid (Z.size = D.size) := by
            show _ = _
            rw [HZ64.out, HDD.out]
            simp [wcells_length, sched, grow_length, words16_length]
          have HSD : Hid ((Tryz.prog.info? 160).map (·.size) = some D.size) := by
            show _ = _
            rw [← HD64.out]; exact HS.out
          have H1D : Hid (D.all (·.oneCell') = true) := by
            show _ = _
            rw [HDD.out]; exact wcells_all _
          go_wp2_with (first
            | (refine wpList_load_row rfl 160 (.tmp 3) rfl (w.heap.size + 1) rfl 160 D (0, 0) _ HDL.out Tryz.underlying160 rfl HSD.out ?_)
            | (refine wpList_store_row rfl 160 (.tmp 2) (.tmp 73) rfl w.heap.size D rfl rfl 160 Z HR.out HSD.out HD64.out H1D.out ?_)
            | fail)
          refine bodyPost_ret (v := .agg D) ?_ rfl ⟨?_, ?_⟩
          · exact results_cell_row (p := 2) (ty := 160) rfl _ _ w.heap.size 160 D (0, 0) _ rfl (setRow_heap _ _ _ _ 160 _ HR.out) Tryz.underlying160 rfl HSD.out
          · rw [HDD.out]
          · exact below_setRow hB (Nat.le_refl _) _
theorem idxE (W : World) (g j : Nat) (z : Int) (hz : z = j) (hj : j < 8) : (Instr.indexAt 132 (.pointer (some ⟨g, 0, none⟩)) (.int .i64 z)).run Tryz.prog W = .ok (.pointer (some ⟨g, j, none⟩)) W := by
  subst hz
  have hs : ∀ w, (sizeOf 131).run Tryz.prog w = .ok 1 w := by
    intro w
    have hq : (Tryz.prog.info? 131).map (·.size) = some 1 := by kernel_rfl
    cases h : Tryz.prog.info? 131 with
    | none => simp [h] at hq
    | some i => simp [h] at hq; simp [sizeOf, typeInfo, h, hq]
  simp [Instr.indexAt, run_underlying Tryz.underlying132, Instr.sureAddr, asIntOf, hj, hs, add_plain]
def mixl (a b : List Int) (i : Nat) : List Int := b.take i ++ a.drop i
theorem mixl_length (a b : List Int) (i : Nat) (ha : a.length = 8) (hb : b.length = 8) (hi : i ≤ 8) : (mixl a b i).length = 8 := by simp [mixl]; omega
theorem mixl_at (a b : List Int) (i : Nat) (ha : a.length = 8) (hb : b.length = 8) (hi : i < 8) (h : i < (mixl a b i).length) : (mixl a b i)[i] = a[i] := by
  have e : (mixl a b i)[i]? = a[i]? := by
    unfold mixl
    rw [List.getElem?_append_right (by simp; omega), List.getElem?_drop, List.length_take]
    congr 1
    omega
  rw [List.getElem?_eq_getElem h, List.getElem?_eq_getElem (by omega)] at e
  exact Option.some.inj e
theorem mixl_set (a b : List Int) (i : Nat) (ha : a.length = 8) (hb : b.length = 8) (hi : i < 8) : (mixl a b i).set i b[i] = mixl a b (i + 1) := by
  unfold mixl
  rw [List.set_append, if_neg (by simp; omega), List.length_take, show i - min i b.length = 0 by omega, List.take_add_one, List.getElem?_eq_getElem (by omega), List.drop_eq_getElem_cons (show i < a.length by omega), List.set_cons_zero]
  simp only [Option.toList_some, List.append_assoc, List.cons_append, List.nil_append]
theorem plus_at (s r : St) (i : Nat) (hi : i < 8) (h1 : i < (plus s r).list.length) (h2 : i < s.list.length) (h3 : i < r.list.length) : (plus s r).list[i] = (s.list[i] + r.list[i]) % 4294967296 := by
  match i, hi with
  | 0, _ => rfl
  | 1, _ => rfl
  | 2, _ => rfl
  | 3, _ => rfl
  | 4, _ => rfl
  | 5, _ => rfl
  | 6, _ => rfl
  | 7, _ => rfl
theorem mixl_next (s r : St) (i : Nat) (hi : i < 8) (h2 : i < s.list.length) (h3 : i < r.list.length) : (mixl s.list (plus s r).list i).set i ((s.list[i] + r.list[i]) % 4294967296) = mixl s.list (plus s r).list (i + 1) := by
  have h1 : i < (plus s r).list.length := by rw [list_length]; exact hi
  have h := mixl_set s.list (plus s r).list i (list_length s) (list_length _) hi
  rw [← h]
  exact congrArg (fun z => (mixl s.list (plus s r).list i).set i z) (plus_at s r i hi h1 h2 h3).symm
set_option maxHeartbeats 4000000 in
set_option maxRecDepth 100000 in
theorem refBlock_any (s : St) (b off cap : Nat) (bl : List UInt8) (w : World) (hs : OkSt s) (hl : bl.length = 64) (hc : 64 ≤ cap) (hc2 : cap ≤ 9223372036854775807) (hb : b < w.heap.size) (hL : Lies w b off bl) (hT : Table 0 w) :
    Calls Tryz.prog 91 #[.agg (wcells s.list).toArray, .slice (some ⟨b, off, none⟩) 64 cap] w fun e w' => e = .returned (.agg (wcells (block s bl).list).toArray) ∧ Below w.heap.size w w' := by
  obtain ⟨Z8, HA8, HS8, H8⟩ := noughts38
  obtain ⟨Z, HZ, HA, HS, H1, HZ64⟩ := noughts45
  obtain ⟨D, HD, HSD, H1D, H8D⟩ := words_row s.list 132 8 rfl size38
  obtain ⟨V, HV, HSV, H1V, H64V⟩ := words_row (sched bl) 160 64 (sched_length bl) size45
  have HZV : Hid (Z.size = V.size) := by show _ = _; rw [HZ64.out, H64V.out]
  have H8Z : Hid (Z8.size = D.size) := by show _ = _; rw [H8.out, H8D.out]
  have HTB : Hid (Table 0 w) := hT
  have HOK : Hid (OkSt s) := hs
  have HK : Hid (∀ w1, Below w.heap.size w w1 → Calls Tryz.prog 115 #[.slice (some ⟨b, off, none⟩) 64 cap] w1 fun e w' => e = .returned (.agg V) ∧ Below w1.heap.size w1 w') := by
    intro w1 hb1
    rw [HV.out]
    exact refWords_any b off cap bl w1 hl hc hc2 (Nat.lt_of_lt_of_le hb hb1.size) (hL.keep hb1 hb)
  rw [← HD.out]
  clear hL hl hT hs
  go_enter Tryz.func91, Tryz.ntmps91
  go_wp2_with (first
    | (refine wpList_alloc_row rfl 132 rfl Z8 HA8.out ?_)
    | fail)
  have hB0 : Below w.heap.size w ((w.alloc (.cells D 132)).alloc (.cells Z8 132)) := ((Below.refl _ _).alloc (Nat.le_refl _) _).alloc (by simp) _
  refine (HK.out _ hB0).mono ?_
  rintro e w1 ⟨rfl, hb1⟩
  have hs1 := hb1.size
  simp only [World.size_alloc] at hs1
  have HG1 : Hid (w1.heap[w.heap.size]? = some (.cells D 132 (0, 0)) ∧ w1.heap[w.heap.size + 1]? = some (.cells Z8 132 (0, 0))) := by
    refine ⟨?_, ?_⟩
    · rw [hb1.block _ (by simp only [World.size_alloc]; omega)]; exact heap_alloc2_old w _ _
    · rw [hb1.block _ (by simp only [World.size_alloc]; omega)]; exact heap_alloc2_new w _ _
  go_wp2_with (first
    | (refine wpList_alloc_row rfl 160 rfl Z HA.out ?_)
    | (refine wpList_store_row rfl 160 (.tmp 5) (.tmp 12) rfl w1.heap.size V rfl rfl 160 Z (heap_alloc_new w1 _) HSV.out HZV.out H1V.out ?_)
    | (refine wpList_load_row rfl 132 (.tmp 2) rfl w.heap.size rfl 132 D (0, 0) _ (keep_var HG1.out.1 _ _) Tryz.underlying132 rfl HSD.out ?_)
    | (refine wpList_alloc_row rfl 132 rfl Z8 HA8.out ?_)
    | (refine wpList_store_row rfl 132 (.tmp 6) (.tmp 13) rfl ((w1.alloc (.cells Z 160)).setRow w1.heap.size V).heap.size D rfl rfl 132 Z8 (heap_alloc_new _ _) HSD.out H8Z.out H1D.out ?_)
    | fail)
  obtain ⟨wa, hwa⟩ : ∃ wa, wa = (w1.alloc (.cells Z 160)).setRow w1.heap.size V := ⟨_, rfl⟩
  have hwas : wa.heap.size = w1.heap.size + 1 := by rw [hwa]; exact size_var _ _ _
  rw [← hwa]
  obtain ⟨w2, hw2⟩ : ∃ w2, w2 = (wa.alloc (.cells Z8 132)).setRow (w1.heap.size + 1) D := ⟨_, rfl⟩
  rw [← hw2]
  have HG : Hid (w2.heap[w.heap.size]? = some (.cells D 132 (0, 0)) ∧ w2.heap[w.heap.size + 1]? = some (.cells Z8 132 (0, 0)) ∧ w2.heap[w1.heap.size]? = some (.cells V 160 (0, 0)) ∧
      w2.heap[w1.heap.size + 1]? = some (.cells (wcells (Sums.run s (sched bl) 0).list).toArray 132 (0, 0))) := by
    rw [hw2, ← hwas]
    have G1 : wa.heap[w.heap.size]? = some (.cells D 132 (0, 0)) := by rw [hwa]; exact keep_var HG1.out.1 _ _
    have G2 : wa.heap[w.heap.size + 1]? = some (.cells Z8 132 (0, 0)) := by rw [hwa]; exact keep_var HG1.out.2 _ _
    have G3 : wa.heap[w1.heap.size]? = some (.cells V 160 (0, 0)) := by rw [hwa]; exact new_var w1 Z V 160
    refine ⟨keep_var G1 _ _, keep_var G2 _ _, keep_var G3 _ _, ?_⟩
    have := new_var wa Z8 D 132
    rw [HD.out] at this ⊢
    exact this
  have hB2 : Below w.heap.size w w2 := by
    rw [hw2, ← hwas]
    refine below_var ?_ (by omega) _ _
    rw [hwa]
    exact below_var (hB0.trans (hb1.mono (by simp only [World.size_alloc]; omega))) (by omega) _ _
  obtain ⟨gw, HGW⟩ : ∃ gw, Hid (gw = w1.heap.size) := ⟨_, (rfl : w1.heap.size = _)⟩
  have hgw : w.heap.size + 2 ≤ gw := by rw [HGW.out]; omega
  rw [← HGW.out] at HG ⊢
  clear hw2 hb1 hs1 hB0 HK hwa hwas HG1 HGW
  clear wa w1
  go_loopw [7] (fun v wr => ∃ (k : Nat), k ≤ 64 ∧ v = .int .i64 k ∧ Hid (wr.heap[w.heap.size]? = some (.cells D 132 (0, 0)) ∧ wr.heap[w.heap.size + 1]? = some (.cells Z8 132 (0, 0)) ∧ wr.heap[gw]? = some (.cells V 160 (0, 0)) ∧
      wr.heap[gw + 1]? = some (.cells (wcells (Sums.run s (sched bl) k).list).toArray 132 (0, 0))) ∧ Below w.heap.size w wr)
    (fun v _ => 64 - (intOf v).toNat)
  case atStart => exact ⟨0, by omega, rfl, HG, hB2⟩
  case round =>
    clear HG hB2
    obtain ⟨k, hk, rfl, HG, hB⟩ := hrel
    obtain ⟨r, HR⟩ : ∃ r, Hid (r = Sums.run s (sched bl) k) := ⟨_, (rfl : Sums.run s (sched bl) k = _)⟩
    rw [← HR.out] at HG
    by_cases hlt : k < 64
    · have hdi : decide ((k : Int) < 64) = true := by rw [decide_eq_true_eq]; omega
      have HOr : Hid (OkSt r) := by show OkSt _; rw [HR.out]; exact run_ok _ _ _ HOK.out
      obtain ⟨kk, HKK⟩ : ∃ kk, Hid (kk = kT.getD k 0) := ⟨_, (rfl : kT.getD k 0 = _)⟩
      obtain ⟨ww, HWW⟩ : ∃ ww, Hid (ww = (sched bl).getD k 0) := ⟨_, (rfl : (sched bl).getD k 0 = _)⟩
      have ck : wr.cell? ⟨0, k, none⟩ = some (.int .u32 kk) := by
        rw [HKK.out]; exact (HTB.out.keep hB).2 k hlt
      have cw : wr.cell? ⟨gw, k, none⟩ = some (.int .u32 ww) := by
        have h1 := HG.out.2.2.1
        rw [HV.out] at h1
        have := wrow_cell h1 k (by rw [sched_length]; omega)
        rw [HWW.out]
        simpa [List.getD, List.getElem?_eq_getElem (show k < (sched bl).length by rw [sched_length]; omega)] using this
      have HE : Hid (Sums.step r kk ww = Sums.run s (sched bl) (k + 1)) := by
        show _ = _
        rw [HKK.out, HWW.out, HR.out]
        rfl
      obtain ⟨ra, rb, rc, rd, re, rf, rg, rh⟩ := r
      have HB : Hid ((0 ≤ ra ∧ ra ≤ 4294967295) ∧ (0 ≤ re ∧ re ≤ 4294967295)) := ⟨HOr.out ra (by simp [St.list]), HOr.out re (by simp [St.list])⟩
      have T6 : Hid _ := fun w => refTurn_any re 6 64 67108864 w HB.out.2.1 HB.out.2.2 (by unfold Turn; decide)
      have T11 : Hid _ := fun w => refTurn_any re 11 2048 2097152 w HB.out.2.1 HB.out.2.2 (by unfold Turn; decide)
      have T25 : Hid _ := fun w => refTurn_any re 25 33554432 128 w HB.out.2.1 HB.out.2.2 (by unfold Turn; decide)
      have T2 : Hid _ := fun w => refTurn_any ra 2 4 1073741824 w HB.out.1.1 HB.out.1.2 (by unfold Turn; decide)
      have T13 : Hid _ := fun w => refTurn_any ra 13 8192 524288 w HB.out.1.1 HB.out.1.2 (by unfold Turn; decide)
      have T22 : Hid _ := fun w => refTurn_any ra 22 4194304 1024 w HB.out.1.1 HB.out.1.2 (by unfold Turn; decide)
      have V8 : ∀ j, (hj : j < 8) → wr.cell? ⟨gw + 1, j, none⟩ = some (.int .u32 ((⟨ra, rb, rc, rd, re, rf, rg, rh⟩ : St).list[j]'(by rw [list_length]; exact hj))) := fun j hj => wrow_cell HG.out.2.2.2 j hj
      have c0 : wr.cell? ⟨gw + 1, 0, none⟩ = some (.int .u32 ra) := V8 0 (by omega)
      have c1 : wr.cell? ⟨gw + 1, 1, none⟩ = some (.int .u32 rb) := V8 1 (by omega)
      have c2 : wr.cell? ⟨gw + 1, 2, none⟩ = some (.int .u32 rc) := V8 2 (by omega)
      have c3 : wr.cell? ⟨gw + 1, 3, none⟩ = some (.int .u32 rd) := V8 3 (by omega)
      have c4 : wr.cell? ⟨gw + 1, 4, none⟩ = some (.int .u32 re) := V8 4 (by omega)
      have c5 : wr.cell? ⟨gw + 1, 5, none⟩ = some (.int .u32 rf) := V8 5 (by omega)
      have c6 : wr.cell? ⟨gw + 1, 6, none⟩ = some (.int .u32 rg) := V8 6 (by omega)
      have c7 : wr.cell? ⟨gw + 1, 7, none⟩ = some (.int .u32 rh) := V8 7 (by omega)
      clear V8
      have ia := fun W => idxW W 0 k (k : Int) rfl hlt
      have ib := fun W => idxW W gw k (k : Int) rfl hlt
      clear HR HOr
      go_wp2
      refine wp_region_held_drew (S := (fun W => W.cell? ⟨0, k, none⟩ = some (.int .u32 kk) ∧ W.cell? ⟨gw, k, none⟩ = some (.int .u32 ww) ∧ W.cell? ⟨gw + 1, 4, none⟩ = some (.int .u32 re) ∧ W.cell? ⟨gw + 1, 5, none⟩ = some (.int .u32 rf) ∧ W.cell? ⟨gw + 1, 6, none⟩ = some (.int .u32 rg) ∧ W.cell? ⟨gw + 1, 7, none⟩ = some (.int .u32 rh))) (by kernel_rfl) ⟨ck, cw, c4, c5, c6, c7⟩ (fun hHeld => ?_)
      refine zX 0 (.pointer (some ⟨gw + 1, 7, none⟩)) rfl hHeld ?_
      try simp only [Act.put, pS1, pS2, pS3]
      refine zW 1 (.int .u32 (rh)) rfl (Or.inl ⟨by rfl, by intro W hSw; obtain ⟨s1, s2, s3, s4, s5, s6⟩ := hSw; go_simp⟩) hHeld ?_
      try simp only [Act.put, pS1, pS2, pS3]
      refine zX 2 (.pointer (some ⟨gw + 1, 4, none⟩)) rfl hHeld ?_
      try simp only [Act.put, pS1, pS2, pS3]
      refine zW 3 (.int .u32 (re)) rfl (Or.inl ⟨by rfl, by intro W hSw; obtain ⟨s1, s2, s3, s4, s5, s6⟩ := hSw; go_simp⟩) hHeld ?_
      try simp only [Act.put, pS1, pS2, pS3]
      refine zX 5 (.pointer (some ⟨gw + 1, 4, none⟩)) rfl hHeld ?_
      try simp only [Act.put, pS1, pS2, pS3]
      refine zW 6 (.int .u32 (re)) rfl (Or.inl ⟨by rfl, by intro W hSw; obtain ⟨s1, s2, s3, s4, s5, s6⟩ := hSw; go_simp⟩) hHeld ?_
      try simp only [Act.put, pS1, pS2, pS3]
      refine zX 9 (.pointer (some ⟨gw + 1, 4, none⟩)) rfl hHeld ?_
      try simp only [Act.put, pS1, pS2, pS3]
      refine zW 10 (.int .u32 (re)) rfl (Or.inl ⟨by rfl, by intro W hSw; obtain ⟨s1, s2, s3, s4, s5, s6⟩ := hSw; go_simp⟩) hHeld ?_
      try simp only [Act.put, pS1, pS2, pS3]
      refine zX 14 (.pointer (some ⟨gw + 1, 4, none⟩)) rfl hHeld ?_
      try simp only [Act.put, pS1, pS2, pS3]
      refine zW 15 (.int .u32 (re)) rfl (Or.inl ⟨by rfl, by intro W hSw; obtain ⟨s1, s2, s3, s4, s5, s6⟩ := hSw; go_simp⟩) hHeld ?_
      try simp only [Act.put, pS1, pS2, pS3]
      refine zX 16 (.pointer (some ⟨gw + 1, 5, none⟩)) rfl hHeld ?_
      try simp only [Act.put, pS1, pS2, pS3]
      refine zW 17 (.int .u32 (rf)) rfl (Or.inl ⟨by rfl, by intro W hSw; obtain ⟨s1, s2, s3, s4, s5, s6⟩ := hSw; go_simp⟩) hHeld ?_
      try simp only [Act.put, pS1, pS2, pS3]
      refine zW 18 (.int .u32 (bits .and .u32 (re) (rf))) rfl (Or.inl ⟨by rfl, by intro W hSw; go_simp; first | done | exact u32w _ | (rw [u32w]; first | rfl | omega) | omega | exact wrap_int _ (by omega) (by omega)⟩) hHeld ?_
      try simp only [Act.put, pS1, pS2, pS3]
      refine zX 19 (.pointer (some ⟨gw + 1, 4, none⟩)) rfl hHeld ?_
      try simp only [Act.put, pS1, pS2, pS3]
      refine zW 20 (.int .u32 (re)) rfl (Or.inl ⟨by rfl, by intro W hSw; obtain ⟨s1, s2, s3, s4, s5, s6⟩ := hSw; go_simp⟩) hHeld ?_
      try simp only [Act.put, pS1, pS2, pS3]
      refine zW 21 (.int .u32 (bits .xor .u32 4294967295 (re))) rfl (Or.inl ⟨by rfl, by intro W hSw; go_simp; first | done | rfl⟩) hHeld ?_
      try simp only [Act.put, pS1, pS2, pS3]
      refine zX 22 (.pointer (some ⟨gw + 1, 6, none⟩)) rfl hHeld ?_
      try simp only [Act.put, pS1, pS2, pS3]
      refine zW 23 (.int .u32 (rg)) rfl (Or.inl ⟨by rfl, by intro W hSw; obtain ⟨s1, s2, s3, s4, s5, s6⟩ := hSw; go_simp⟩) hHeld ?_
      try simp only [Act.put, pS1, pS2, pS3]
      refine zW 24 (.int .u32 (bits .and .u32 (bits .xor .u32 4294967295 (re)) (rg))) rfl (Or.inl ⟨by rfl, by intro W hSw; go_simp; first | done | exact u32w _ | (rw [u32w]; first | rfl | omega) | omega | exact wrap_int _ (by omega) (by omega)⟩) hHeld ?_
      try simp only [Act.put, pS1, pS2, pS3]
      refine zW 25 (.int .u32 (bits .xor .u32 (bits .and .u32 (re) (rf)) (bits .and .u32 (bits .xor .u32 4294967295 (re)) (rg)))) rfl (Or.inl ⟨by rfl, by intro W hSw; go_simp; first | done | exact u32w _ | (rw [u32w]; first | rfl | omega) | omega | exact wrap_int _ (by omega) (by omega)⟩) hHeld ?_
      try simp only [Act.put, pS1, pS2, pS3]
      refine zX 27 (.int .i64 (k : Int)) rfl hHeld ?_
      try simp only [Act.put, pS1, pS2, pS3]
      refine zX 28 (.pointer (some ⟨0, k, none⟩)) rfl hHeld ?_
      try simp only [Act.put, pS1, pS2, pS3]
      refine zW 29 (.int .u32 (kk)) rfl (Or.inl ⟨by rfl, by intro W hSw; obtain ⟨s1, s2, s3, s4, s5, s6⟩ := hSw; go_simp⟩) hHeld ?_
      try simp only [Act.put, pS1, pS2, pS3]
      refine zX 31 (.int .i64 (k : Int)) rfl hHeld ?_
      try simp only [Act.put, pS1, pS2, pS3]
      refine zX 32 (.pointer (some ⟨gw, k, none⟩)) rfl hHeld ?_
      try simp only [Act.put, pS1, pS2, pS3]
      refine zW 33 (.int .u32 (ww)) rfl (Or.inl ⟨by rfl, by intro W hSw; obtain ⟨s1, s2, s3, s4, s5, s6⟩ := hSw; go_simp⟩) hHeld ?_
      try simp only [Act.put, pS1, pS2, pS3]
      refine wpAnyH_ready (rs := [4]) (by kernel_rfl) (by simp) ?_
      refine AllReadyH.cons (o := { dst := some 22, op := .call { callee := .value (.func 116), args := #[.tmp 21, .const (.int .i64 6)], argTypes := #[131, 3] }, type := 131, pos := "ref.go:57", after := #[zD 3], guard := none }) rfl (fun K hK => ?_) AllReadyH.nil
      go_simp
      refine (T6.out _).mono ?_
      rintro e w' ⟨rfl, n1, rfl⟩
      go_wp2_with fail
      refine hK.out _ _ hHeld (fun hHeld => ?_)
      clear hK K
      try simp only [Act.put, pS1, pS2, pS3]
      refine wpAnyH_ready (rs := [7]) (by kernel_rfl) (by simp) ?_
      refine AllReadyH.cons (o := { dst := some 25, op := .call { callee := .value (.func 116), args := #[.tmp 24, .const (.int .i64 11)], argTypes := #[131, 3] }, type := 131, pos := "ref.go:57", after := #[zD 6, zC 4], guard := none }) rfl (fun K hK => ?_) AllReadyH.nil
      go_simp
      refine (T11.out _).mono ?_
      rintro e w' ⟨rfl, n1, rfl⟩
      go_wp2_with fail
      refine hK.out _ _ hHeld (fun hHeld => ?_)
      clear hK K
      try simp only [Act.put, pS1, pS2, pS3]
      refine zW 8 (.int .u32 (bits .xor .u32 (rot (re) 64 67108864) (rot (re) 2048 2097152))) rfl (Or.inl ⟨by rfl, by intro W hSw; go_simp; first | done | exact u32w _ | (rw [u32w]; first | rfl | omega) | omega | exact wrap_int _ (by omega) (by omega)⟩) hHeld ?_
      try simp only [Act.put, pS1, pS2, pS3]
      refine wpAnyH_ready (rs := [11]) (by kernel_rfl) (by simp) ?_
      refine AllReadyH.cons (o := { dst := some 29, op := .call { callee := .value (.func 116), args := #[.tmp 28, .const (.int .i64 25)], argTypes := #[131, 3] }, type := 131, pos := "ref.go:57", after := #[zD 10, zC 7], guard := none }) rfl (fun K hK => ?_) AllReadyH.nil
      go_simp
      refine (T25.out _).mono ?_
      rintro e w' ⟨rfl, n1, rfl⟩
      go_wp2_with fail
      refine hK.out _ _ hHeld (fun hHeld => ?_)
      clear hK K
      try simp only [Act.put, pS1, pS2, pS3]
      refine zW 12 (.int .u32 (bits .xor .u32 (bits .xor .u32 (rot (re) 64 67108864) (rot (re) 2048 2097152)) (rot (re) 33554432 128))) rfl (Or.inl ⟨by rfl, by intro W hSw; go_simp; first | done | exact u32w _ | (rw [u32w]; first | rfl | omega) | omega | exact wrap_int _ (by omega) (by omega)⟩) hHeld ?_
      try simp only [Act.put, pS1, pS2, pS3]
      refine zW 13 (.int .u32 (((rh) + (bits .xor .u32 (bits .xor .u32 (rot (re) 64 67108864) (rot (re) 2048 2097152)) (rot (re) 33554432 128))) % 4294967296)) rfl (Or.inl ⟨by rfl, by intro W hSw; go_simp; first | done | exact u32w _ | (rw [u32w]; first | rfl | omega) | omega | exact wrap_int _ (by omega) (by omega)⟩) hHeld ?_
      try simp only [Act.put, pS1, pS2, pS3]
      refine zW 26 (.int .u32 (((((rh) + (bits .xor .u32 (bits .xor .u32 (rot (re) 64 67108864) (rot (re) 2048 2097152)) (rot (re) 33554432 128))) % 4294967296) + (bits .xor .u32 (bits .and .u32 (re) (rf)) (bits .and .u32 (bits .xor .u32 4294967295 (re)) (rg)))) % 4294967296)) rfl (Or.inl ⟨by rfl, by intro W hSw; go_simp; first | done | exact u32w _ | (rw [u32w]; first | rfl | omega) | omega | exact wrap_int _ (by omega) (by omega)⟩) hHeld ?_
      try simp only [Act.put, pS1, pS2, pS3]
      refine zW 30 (.int .u32 (((((((rh) + (bits .xor .u32 (bits .xor .u32 (rot (re) 64 67108864) (rot (re) 2048 2097152)) (rot (re) 33554432 128))) % 4294967296) + (bits .xor .u32 (bits .and .u32 (re) (rf)) (bits .and .u32 (bits .xor .u32 4294967295 (re)) (rg)))) % 4294967296) + (kk)) % 4294967296)) rfl (Or.inl ⟨by rfl, by intro W hSw; go_simp; first | done | exact u32w _ | (rw [u32w]; first | rfl | omega) | omega | exact wrap_int _ (by omega) (by omega)⟩) hHeld ?_
      try simp only [Act.put, pS1, pS2, pS3]
      refine zW 34 (.int .u32 (((((((((rh) + (bits .xor .u32 (bits .xor .u32 (rot (re) 64 67108864) (rot (re) 2048 2097152)) (rot (re) 33554432 128))) % 4294967296) + (bits .xor .u32 (bits .and .u32 (re) (rf)) (bits .and .u32 (bits .xor .u32 4294967295 (re)) (rg)))) % 4294967296) + (kk)) % 4294967296) + (ww)) % 4294967296)) rfl (Or.inl ⟨by rfl, by intro W hSw; go_simp; first | done | exact u32w _ | (rw [u32w]; first | rfl | omega) | omega | exact wrap_int _ (by omega) (by omega)⟩) hHeld ?_
      try simp only [Act.put, pS1, pS2, pS3]
      refine zX 35 (.int .u32 (((((((((rh) + (bits .xor .u32 (bits .xor .u32 (rot (re) 64 67108864) (rot (re) 2048 2097152)) (rot (re) 33554432 128))) % 4294967296) + (bits .xor .u32 (bits .and .u32 (re) (rf)) (bits .and .u32 (bits .xor .u32 4294967295 (re)) (rg)))) % 4294967296) + (kk)) % 4294967296) + (ww)) % 4294967296)) rfl hHeld ?_
      try simp only [Act.put, pS1, pS2, pS3]
      refine wpAnyH_done (by kernel_rfl) ?_ _
      go_wp2
      refine wp_region_held_drew (S := (fun W => W.cell? ⟨gw + 1, 0, none⟩ = some (.int .u32 ra) ∧ W.cell? ⟨gw + 1, 1, none⟩ = some (.int .u32 rb) ∧ W.cell? ⟨gw + 1, 2, none⟩ = some (.int .u32 rc))) (by kernel_rfl) ⟨c0, c1, c2⟩ (fun hHeld => ?_)
      refine zX 0 (.pointer (some ⟨gw + 1, 0, none⟩)) rfl hHeld ?_
      try simp only [Act.put, pS1, pS2, pS3]
      refine zW 1 (.int .u32 (ra)) rfl (Or.inl ⟨by rfl, by intro W hSw; obtain ⟨s1, s2, s3⟩ := hSw; go_simp⟩) hHeld ?_
      try simp only [Act.put, pS1, pS2, pS3]
      refine zX 3 (.pointer (some ⟨gw + 1, 0, none⟩)) rfl hHeld ?_
      try simp only [Act.put, pS1, pS2, pS3]
      refine zW 4 (.int .u32 (ra)) rfl (Or.inl ⟨by rfl, by intro W hSw; obtain ⟨s1, s2, s3⟩ := hSw; go_simp⟩) hHeld ?_
      try simp only [Act.put, pS1, pS2, pS3]
      refine zX 7 (.pointer (some ⟨gw + 1, 0, none⟩)) rfl hHeld ?_
      try simp only [Act.put, pS1, pS2, pS3]
      refine zW 8 (.int .u32 (ra)) rfl (Or.inl ⟨by rfl, by intro W hSw; obtain ⟨s1, s2, s3⟩ := hSw; go_simp⟩) hHeld ?_
      try simp only [Act.put, pS1, pS2, pS3]
      refine zX 11 (.pointer (some ⟨gw + 1, 0, none⟩)) rfl hHeld ?_
      try simp only [Act.put, pS1, pS2, pS3]
      refine zW 12 (.int .u32 (ra)) rfl (Or.inl ⟨by rfl, by intro W hSw; obtain ⟨s1, s2, s3⟩ := hSw; go_simp⟩) hHeld ?_
      try simp only [Act.put, pS1, pS2, pS3]
      refine zX 13 (.pointer (some ⟨gw + 1, 1, none⟩)) rfl hHeld ?_
      try simp only [Act.put, pS1, pS2, pS3]
      refine zW 14 (.int .u32 (rb)) rfl (Or.inl ⟨by rfl, by intro W hSw; obtain ⟨s1, s2, s3⟩ := hSw; go_simp⟩) hHeld ?_
      try simp only [Act.put, pS1, pS2, pS3]
      refine zW 15 (.int .u32 (bits .and .u32 (ra) (rb))) rfl (Or.inl ⟨by rfl, by intro W hSw; go_simp; first | done | exact u32w _ | (rw [u32w]; first | rfl | omega) | omega | exact wrap_int _ (by omega) (by omega)⟩) hHeld ?_
      try simp only [Act.put, pS1, pS2, pS3]
      refine zX 16 (.pointer (some ⟨gw + 1, 0, none⟩)) rfl hHeld ?_
      try simp only [Act.put, pS1, pS2, pS3]
      refine zW 17 (.int .u32 (ra)) rfl (Or.inl ⟨by rfl, by intro W hSw; obtain ⟨s1, s2, s3⟩ := hSw; go_simp⟩) hHeld ?_
      try simp only [Act.put, pS1, pS2, pS3]
      refine zX 18 (.pointer (some ⟨gw + 1, 2, none⟩)) rfl hHeld ?_
      try simp only [Act.put, pS1, pS2, pS3]
      refine zW 19 (.int .u32 (rc)) rfl (Or.inl ⟨by rfl, by intro W hSw; obtain ⟨s1, s2, s3⟩ := hSw; go_simp⟩) hHeld ?_
      try simp only [Act.put, pS1, pS2, pS3]
      refine zW 20 (.int .u32 (bits .and .u32 (ra) (rc))) rfl (Or.inl ⟨by rfl, by intro W hSw; go_simp; first | done | exact u32w _ | (rw [u32w]; first | rfl | omega) | omega | exact wrap_int _ (by omega) (by omega)⟩) hHeld ?_
      try simp only [Act.put, pS1, pS2, pS3]
      refine zW 21 (.int .u32 (bits .xor .u32 (bits .and .u32 (ra) (rb)) (bits .and .u32 (ra) (rc)))) rfl (Or.inl ⟨by rfl, by intro W hSw; go_simp; first | done | exact u32w _ | (rw [u32w]; first | rfl | omega) | omega | exact wrap_int _ (by omega) (by omega)⟩) hHeld ?_
      try simp only [Act.put, pS1, pS2, pS3]
      refine zX 22 (.pointer (some ⟨gw + 1, 1, none⟩)) rfl hHeld ?_
      try simp only [Act.put, pS1, pS2, pS3]
      refine zW 23 (.int .u32 (rb)) rfl (Or.inl ⟨by rfl, by intro W hSw; obtain ⟨s1, s2, s3⟩ := hSw; go_simp⟩) hHeld ?_
      try simp only [Act.put, pS1, pS2, pS3]
      refine zX 24 (.pointer (some ⟨gw + 1, 2, none⟩)) rfl hHeld ?_
      try simp only [Act.put, pS1, pS2, pS3]
      refine zW 25 (.int .u32 (rc)) rfl (Or.inl ⟨by rfl, by intro W hSw; obtain ⟨s1, s2, s3⟩ := hSw; go_simp⟩) hHeld ?_
      try simp only [Act.put, pS1, pS2, pS3]
      refine zW 26 (.int .u32 (bits .and .u32 (rb) (rc))) rfl (Or.inl ⟨by rfl, by intro W hSw; go_simp; first | done | exact u32w _ | (rw [u32w]; first | rfl | omega) | omega | exact wrap_int _ (by omega) (by omega)⟩) hHeld ?_
      try simp only [Act.put, pS1, pS2, pS3]
      refine zW 27 (.int .u32 (bits .xor .u32 (bits .xor .u32 (bits .and .u32 (ra) (rb)) (bits .and .u32 (ra) (rc))) (bits .and .u32 (rb) (rc)))) rfl (Or.inl ⟨by rfl, by intro W hSw; go_simp; first | done | exact u32w _ | (rw [u32w]; first | rfl | omega) | omega | exact wrap_int _ (by omega) (by omega)⟩) hHeld ?_
      try simp only [Act.put, pS1, pS2, pS3]
      refine wpAnyH_ready (rs := [2]) (by kernel_rfl) (by simp) ?_
      refine AllReadyH.cons (o := { dst := some 55, op := .call { callee := .value (.func 116), args := #[.tmp 54, .const (.int .i64 2)], argTypes := #[131, 3] }, type := 131, pos := "ref.go:58", after := #[zD 1], guard := none }) rfl (fun K hK => ?_) AllReadyH.nil
      go_simp
      refine (T2.out _).mono ?_
      rintro e w' ⟨rfl, n2, rfl⟩
      go_wp2_with fail
      refine hK.out _ _ hHeld (fun hHeld => ?_)
      clear hK K
      try simp only [Act.put, pS1, pS2, pS3]
      refine wpAnyH_ready (rs := [5]) (by kernel_rfl) (by simp) ?_
      refine AllReadyH.cons (o := { dst := some 58, op := .call { callee := .value (.func 116), args := #[.tmp 57, .const (.int .i64 13)], argTypes := #[131, 3] }, type := 131, pos := "ref.go:58", after := #[zD 4, zC 2], guard := none }) rfl (fun K hK => ?_) AllReadyH.nil
      go_simp
      refine (T13.out _).mono ?_
      rintro e w' ⟨rfl, n2, rfl⟩
      go_wp2_with fail
      refine hK.out _ _ hHeld (fun hHeld => ?_)
      clear hK K
      try simp only [Act.put, pS1, pS2, pS3]
      refine zW 6 (.int .u32 (bits .xor .u32 (rot (ra) 4 1073741824) (rot (ra) 8192 524288))) rfl (Or.inl ⟨by rfl, by intro W hSw; go_simp; first | done | exact u32w _ | (rw [u32w]; first | rfl | omega) | omega | exact wrap_int _ (by omega) (by omega)⟩) hHeld ?_
      try simp only [Act.put, pS1, pS2, pS3]
      refine wpAnyH_ready (rs := [9]) (by kernel_rfl) (by simp) ?_
      refine AllReadyH.cons (o := { dst := some 62, op := .call { callee := .value (.func 116), args := #[.tmp 61, .const (.int .i64 22)], argTypes := #[131, 3] }, type := 131, pos := "ref.go:58", after := #[zD 8, zC 5], guard := none }) rfl (fun K hK => ?_) AllReadyH.nil
      go_simp
      refine (T22.out _).mono ?_
      rintro e w' ⟨rfl, n2, rfl⟩
      go_wp2_with fail
      refine hK.out _ _ hHeld (fun hHeld => ?_)
      clear hK K
      try simp only [Act.put, pS1, pS2, pS3]
      refine zW 10 (.int .u32 (bits .xor .u32 (bits .xor .u32 (rot (ra) 4 1073741824) (rot (ra) 8192 524288)) (rot (ra) 4194304 1024))) rfl (Or.inl ⟨by rfl, by intro W hSw; go_simp; first | done | exact u32w _ | (rw [u32w]; first | rfl | omega) | omega | exact wrap_int _ (by omega) (by omega)⟩) hHeld ?_
      try simp only [Act.put, pS1, pS2, pS3]
      refine zW 28 (.int .u32 (((bits .xor .u32 (bits .xor .u32 (rot (ra) 4 1073741824) (rot (ra) 8192 524288)) (rot (ra) 4194304 1024)) + (bits .xor .u32 (bits .xor .u32 (bits .and .u32 (ra) (rb)) (bits .and .u32 (ra) (rc))) (bits .and .u32 (rb) (rc)))) % 4294967296)) rfl (Or.inl ⟨by rfl, by intro W hSw; go_simp; first | done | exact u32w _ | (rw [u32w]; first | rfl | omega) | omega | exact wrap_int _ (by omega) (by omega)⟩) hHeld ?_
      try simp only [Act.put, pS1, pS2, pS3]
      refine zX 29 (.int .u32 (((bits .xor .u32 (bits .xor .u32 (rot (ra) 4 1073741824) (rot (ra) 8192 524288)) (rot (ra) 4194304 1024)) + (bits .xor .u32 (bits .xor .u32 (bits .and .u32 (ra) (rb)) (bits .and .u32 (ra) (rc))) (bits .and .u32 (rb) (rc)))) % 4294967296)) rfl hHeld ?_
      try simp only [Act.put, pS1, pS2, pS3]
      refine wpAnyH_done (by kernel_rfl) ?_ _
      have F2 : ∀ X Y : Int, (Tryz.prog.info? 132).map (·.size) = some (#[.int .u32 X, .int .u32 ra, .int .u32 rb, .int .u32 rc, .int .u32 Y, .int .u32 re, .int .u32 rf, .int .u32 rg] : Array Value).size := fun X Y => size38
      have F4 : ∀ X Y : Int, (#[.int .u32 X, .int .u32 ra, .int .u32 rb, .int .u32 rc, .int .u32 Y, .int .u32 re, .int .u32 rf, .int .u32 rg] : Array Value).all (·.oneCell') = true := fun X Y => wcells_all [X, ra, rb, rc, Y, re, rf, rg]
      have F5 : ∀ X Y : Int, X = (Sums.step ⟨ra, rb, rc, rd, re, rf, rg, rh⟩ kk ww).a → Y = (Sums.step ⟨ra, rb, rc, rd, re, rf, rg, rh⟩ kk ww).e →
          (#[.int .u32 X, .int .u32 ra, .int .u32 rb, .int .u32 rc, .int .u32 Y, .int .u32 re, .int .u32 rf, .int .u32 rg] : Array Value) = (wcells (Sums.step ⟨ra, rb, rc, rd, re, rf, rg, rh⟩ kk ww).list).toArray := by
        rintro _ _ rfl rfl; rfl
      have HF2 : Hid _ := F2
      have HF4 : Hid _ := F4
      have HF5 : Hid _ := F5
      clear F2 F4 F5
      go_wp2_with (first
        | (refine wpList_store_row rfl 132 (.tmp 6) (.tmp 101) rfl (gw + 1) _ rfl (by rfl) 132 (wcells (⟨ra, rb, rc, rd, re, rf, rg, rh⟩ : St).list).toArray HG.out.2.2.2 (HF2.out _ _) rfl (HF4.out _ _) ?_)
        | fail)
      go_roundw
      case rel =>
        refine ⟨k + 1, by omega, by go_num, ⟨?_, ?_, ?_, ?_⟩, below_setRow (below_drewN hB _) (by omega) _⟩
        · rw [setRow_other _ _ _ _ (by omega)]; exact HG.out.1
        · rw [setRow_other _ _ _ _ (by omega)]; exact HG.out.2.1
        · rw [setRow_other _ _ _ _ (by omega)]; exact HG.out.2.2.1
        · rw [← HE.out, HF5.out _ _ ?hx ?hy]
          · exact setRow_heap _ _ _ _ 132 _ HG.out.2.2.2
          · simp only [Sums.step, pOf, qOf, add32, xor32, and32, not32]
            omega
          · simp only [Sums.step, pOf, qOf, add32, xor32, and32, not32]
            omega
      case measure => simp [intOf]; omega
    · obtain rfl : k = 64 := by omega
      have HE : Hid (block s bl = plus s r) := by
        show _ = _
        rw [HR.out]
        rfl
      have HD1 : Hid (wr.heap[w.heap.size]? = some (.cells (wcells (mixl s.list (plus s r).list 0)).toArray 132 (0, 0))) := by
        show _ = _
        rw [HG.out.1, HD.out]; rfl
      have HGr : Hid (wr.heap[w.heap.size + 1]? = some (.cells Z8 132 (0, 0)) ∧ wr.heap[gw + 1]? = some (.cells (wcells r.list).toArray 132 (0, 0))) := ⟨HG.out.2.1, HG.out.2.2.2⟩
      clear HG HR HD
      simp only [Int.cast_ofNat_Int]
      go_wp2
      go_loopw [10] (fun v wt => ∃ i : Nat, i ≤ 8 ∧ v = .int .i64 i ∧ Hid (wt.heap[w.heap.size]? = some (.cells (wcells (mixl s.list (plus s r).list i)).toArray 132 (0, 0))) ∧
          Hid (wt.heap[w.heap.size + 1]? = some (.cells Z8 132 (0, 0)) ∧ wt.heap[gw + 1]? = some (.cells (wcells r.list).toArray 132 (0, 0))) ∧ Below w.heap.size w wt)
        (fun v _ => 8 - (intOf v).toNat)
      case atStart => exact ⟨0, by omega, rfl, HD1, HGr, hB⟩
      case round =>
        clear HD1 HGr hB
        obtain ⟨i, hi, rfl, HD, HG, hB⟩ := hrel
        by_cases hlt : i < 8
        · have hdi : decide ((i : Int) < 8) = true := by rw [decide_eq_true_eq]; omega
          obtain ⟨x, HX⟩ : ∃ x, Hid (x = s.list[i]'(by rw [list_length]; exact hlt)) := ⟨_, (rfl : s.list[i]'(by rw [list_length]; exact hlt) = _)⟩
          obtain ⟨y, HY⟩ : ∃ y, Hid (y = r.list[i]'(by rw [list_length]; exact hlt)) := ⟨_, (rfl : r.list[i]'(by rw [list_length]; exact hlt) = _)⟩
          have HML : Hid ((mixl s.list (plus s r).list i).length = 8) := mixl_length _ _ i rfl rfl (by omega)
          have cx : wr.cell? ⟨w.heap.size, i, none⟩ = some (.int .u32 x) := by
            rw [wrow_cell HD.out i (by rw [HML.out]; exact hlt), mixl_at _ _ i rfl rfl hlt, HX.out]
          have cy : wr.cell? ⟨gw + 1, i, none⟩ = some (.int .u32 y) := by
            rw [wrow_cell HG.out.2 i (by rw [list_length]; exact hlt), HY.out]
          have hfz : wr.frozen? ⟨w.heap.size, i, none⟩ = false := frozen_of_row wr _ i _ 132 HD.out
          have HN : Hid ((mixl s.list (plus s r).list i).set i ((x + y) % 4294967296) = mixl s.list (plus s r).list (i + 1)) := by
            show _ = _
            rw [HX.out, HY.out]
            exact mixl_next s r i hlt (by rw [list_length]; exact hlt) (by rw [list_length]; exact hlt)
          have ia := fun W => idxE W w.heap.size i (i : Int) rfl hlt
          have ib := fun W => idxE W (gw + 1) i (i : Int) rfl hlt
          have hwn : IntKind.u32.wrap (x + y) = (x + y) % 4294967296 := u32w _
          go_wp2
          refine wp_region_held_drew (S := (fun _ => True)) (by kernel_rfl) trivial (fun hHeld => ?_)
          refine zX 0 (.int .i64 (i : Int)) rfl hHeld ?_
          try simp only [Act.put, pS1, pS2, pS3]
          refine zX 1 (.int .i64 (i : Int)) rfl hHeld ?_
          try simp only [Act.put, pS1, pS2, pS3]
          refine zX 2 (.pointer (some ⟨w.heap.size, i, none⟩)) rfl hHeld ?_
          try simp only [Act.put, pS1, pS2, pS3]
          refine zX 4 (.int .i64 (i : Int)) rfl hHeld ?_
          try simp only [Act.put, pS1, pS2, pS3]
          refine zX 5 (.pointer (some ⟨gw + 1, i, none⟩)) rfl hHeld ?_
          try simp only [Act.put, pS1, pS2, pS3]
          refine wpAnyH_ready (rs := [3, 6]) (by kernel_rfl) (by simp) ?_
          refine (AllReadyH.cons (o := { dst := some 109, op := .load 131 (.tmp 108), type := 131, pos := "ref.go:62", after := #[zD 2], guard := none }) rfl (fun K hK => ?_) (AllReadyH.cons (o := { dst := some 112, op := .load 131 (.tmp 111), type := 131, pos := "ref.go:62", after := #[zD 5], guard := none }) rfl (fun K hK => ?_) AllReadyH.nil))
          · go_simp
            refine hK.out _ _ trivial (fun hHeld => ?_)
            clear hK K
            try simp only [Act.put, pS1, pS2, pS3]
            refine wpAnyH_ready (rs := [6]) (by kernel_rfl) (by simp) ?_
            refine (AllReadyH.cons (o := { dst := some 112, op := .load 131 (.tmp 111), type := 131, pos := "ref.go:62", after := #[zD 5], guard := none }) rfl (fun K hK => ?_) AllReadyH.nil)
            go_simp
            refine hK.out _ _ trivial (fun hHeld => ?_)
            clear hK K
            try simp only [Act.put, pS1, pS2, pS3]
            refine zX 7 (.int .u32 ((x + y) % 4294967296)) rfl hHeld ?_
            try simp only [Act.put, pS1, pS2, pS3]
            refine zX 8 (.pointer (some ⟨w.heap.size, i, none⟩)) rfl hHeld ?_
            try simp only [Act.put, pS1, pS2, pS3]
            refine wpAnyH_ready (rs := [9]) (by kernel_rfl) (by simp) ?_
            refine (AllReadyH.cons (o := { dst := none, op := .store 131 (.tmp 114) (.tmp 113), type := 0, pos := "ref.go:62", after := #[zD 8, zD 7, zP 0, zP 1, zP 2, zP 3, zP 4, zP 5, zP 6, zP 7], guard := none }) rfl (fun K hK => ?_) AllReadyH.nil)
            go_simp
            refine hK.out _ _ trivial (fun hHeld => ?_)
            clear hK K
            try simp only [Act.put, pS1, pS2, pS3]
            refine wpAnyH_done (by kernel_rfl) ?_ _
            go_wp2
            go_roundw
            case rel => exact ⟨i + 1, by omega, by go_num, (by show _ = _; rw [← HN.out]; exact wrow_set (w := wr) HD.out i _), ⟨(heap_setCell_other wr _ _ _ (by simp)).trans HG.out.1, (heap_setCell_other wr _ _ _ (by simp; omega)).trans HG.out.2⟩, (hB.setCell (by simp) _).drew⟩
            case measure => simp [intOf]; omega
          · go_simp
            refine hK.out _ _ trivial (fun hHeld => ?_)
            clear hK K
            try simp only [Act.put, pS1, pS2, pS3]
            refine wpAnyH_ready (rs := [3]) (by kernel_rfl) (by simp) ?_
            refine (AllReadyH.cons (o := { dst := some 109, op := .load 131 (.tmp 108), type := 131, pos := "ref.go:62", after := #[zD 2], guard := none }) rfl (fun K hK => ?_) AllReadyH.nil)
            go_simp
            refine hK.out _ _ trivial (fun hHeld => ?_)
            clear hK K
            try simp only [Act.put, pS1, pS2, pS3]
            refine zX 7 (.int .u32 ((x + y) % 4294967296)) rfl hHeld ?_
            try simp only [Act.put, pS1, pS2, pS3]
            refine zX 8 (.pointer (some ⟨w.heap.size, i, none⟩)) rfl hHeld ?_
            try simp only [Act.put, pS1, pS2, pS3]
            refine wpAnyH_ready (rs := [9]) (by kernel_rfl) (by simp) ?_
            refine (AllReadyH.cons (o := { dst := none, op := .store 131 (.tmp 114) (.tmp 113), type := 0, pos := "ref.go:62", after := #[zD 8, zD 7, zP 0, zP 1, zP 2, zP 3, zP 4, zP 5, zP 6, zP 7], guard := none }) rfl (fun K hK => ?_) AllReadyH.nil)
            go_simp
            refine hK.out _ _ trivial (fun hHeld => ?_)
            clear hK K
            try simp only [Act.put, pS1, pS2, pS3]
            refine wpAnyH_done (by kernel_rfl) ?_ _
            go_wp2
            go_roundw
            case rel => exact ⟨i + 1, by omega, by go_num, (by show _ = _; rw [← HN.out]; exact wrow_set (w := wr) HD.out i _), ⟨(heap_setCell_other wr _ _ _ (by simp)).trans HG.out.1, (heap_setCell_other wr _ _ _ (by simp; omega)).trans HG.out.2⟩, (hB.setCell (by simp) _).drew⟩
            case measure => simp [intOf]; omega
        · obtain rfl : i = 8 := by omega
          obtain ⟨D2, HD2, HSD2, H1D2, H8D2⟩ := words_row (plus s r).list 132 8 rfl size38
          have HL2 : Hid (wr.heap[w.heap.size]? = some (.cells D2 132 (0, 0))) := by
            show _ = _
            rw [HD2.out]
            have := HD.out
            rw [show mixl s.list (plus s r).list 8 = (plus s r).list by unfold mixl; rfl] at this
            exact this
          have HZD : Hid (Z8.size = D2.size) := by show _ = _; rw [H8.out, H8D2.out]
          clear HD
          go_wp2_with (first
            | (refine wpList_load_row rfl 132 (.tmp 2) rfl w.heap.size rfl 132 D2 (0, 0) _ HL2.out Tryz.underlying132 rfl HSD2.out ?_)
            | (refine wpList_store_row rfl 132 (.tmp 4) (.tmp 115) rfl (w.heap.size + 1) D2 rfl rfl 132 Z8 HG.out.1 HSD2.out HZD.out H1D2.out ?_)
            | fail)
          refine bodyPost_ret (v := .agg D2) ?_ rfl ⟨by rw [HE.out, ← HD2.out], ?_⟩
          · exact results_cell_row (p := 4) (ty := 132) rfl _ _ (w.heap.size + 1) 132 D2 (0, 0) _ rfl (setRow_heap _ _ _ _ 132 _ HG.out.1) Tryz.underlying132 rfl HSD2.out
          · exact below_setRow hB (by omega) _
end Go.Proofs.YtkmedlfbkddmoaaGreatDoor
