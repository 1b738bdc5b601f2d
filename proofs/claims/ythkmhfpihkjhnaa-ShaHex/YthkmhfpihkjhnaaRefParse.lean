/- What the document's own Parse answers: the same digest, or ErrArg. -/
import Derived.Test.YthkmhfpihkjhnaaParse
namespace Go.Proofs.Ythkmhfpihkjhnaa
open Go.RowKit Digs
set_option linter.unusedVariables false

/-- What holds behind i digits. -/
def HalfTo (s : List UInt8) (i : Nat) (A : List UInt8) : Prop :=
  (∃ k, i = 2 * k ∧ ParsedTo s k A) ∨
  (∃ k A' c, i = 2 * k + 1 ∧ ParsedTo s k A' ∧ k < 32 ∧ A'.length = 32 ∧ s[2 * k]? = some c ∧ ¬ vC c < 0 ∧ A = A'.set k (UInt8.ofNat (vC c).toNat))

theorem HalfTo.next {s A : List UInt8} {i : Nat} (hs : s.length = 64) (hi : i < 64) (hA : A.length = 32) (h : HalfTo s i A) (x n : Nat) (hx : x = (A[i / 2]'(by omega)).toNat) (hn : vC (s[i]'(by omega)) = n) :
    HalfTo s (i + 1) (A.set (i / 2) (UInt8.ofNat (x * 16 + n))) := by
  rcases h with ⟨k, rfl, hp⟩ | ⟨k, A', c, rfl, hp, hk, hA', hc, hv, rfl⟩
  · refine .inr ⟨k, A, _, rfl, hp, by omega, hA, List.getElem?_eq_getElem (by omega), by omega, ?_⟩
    obtain ⟨pre, hpp, rfl⟩ := hp
    have hl := pairs_length _ _ hpp
    rw [List.length_take] at hl
    have h0 : x = 0 := by
      rw [hx]
      simp only [show 2 * k / 2 = k by omega]
      rw [List.getElem_append_right (by omega)]
      simp
    rw [hn, h0, show 2 * k / 2 = k by omega]
    simp
  · refine .inl ⟨k + 1, by omega, ?_⟩
    have e : (2 * k + 1) / 2 = k := by omega
    have hc' : s[2 * k]'(by omega) = c := by
      have := List.getElem?_eq_getElem (show 2 * k < s.length by omega)
      rw [this] at hc
      exact Option.some.inj hc
    have hr := vC_range c
    have hx' : x = (vC c).toNat := by
      rw [hx]
      simp only [e, List.getElem_set_self]
      rw [UInt8.toNat_ofNat']
      omega
    have := ParsedTo.next hs hp hk (by rw [hc']; exact hv) (by rw [hn]; omega)
    rw [hc', hn] at this
    rw [e, List.set_set, hx']
    rw [show (vC c).toNat * 16 + n = (16 * vC c + (n : Int)).toNat by omega]
    exact this

theorem HalfTo.bad {s A : List UInt8} {i : Nat} (hs : s.length = 64) (hi : i < 64) (h : HalfTo s i A) (hn : vC (s[i]'(by omega)) < 0) : parseD s = zeros ∧ parseE s = 1 := by
  rcases h with ⟨k, rfl, hp⟩ | ⟨k, A', c, rfl, hp, hk, hA', hc, hv, rfl⟩
  · exact ParsedTo.bad hs hp (by omega) (.inl hn)
  · exact ParsedTo.bad hs hp (by omega) (.inr hn)

theorem HalfTo.done {s A : List UInt8} (hs : s.length = 64) (h : HalfTo s 64 A) : parseD s = A ∧ parseE s = 0 := by
  rcases h with ⟨k, hk, hp⟩ | ⟨k, A', c, hk, hp, _⟩
  · obtain rfl : k = 32 := by omega
    exact ParsedTo.done hs hp
  · omega

set_option maxHeartbeats 1000000 in
theorem refParse_short (s : ByteArray) (w : World) (hs : s.size ≤ maxLen) (h : ((s.size : Int) != 64) = true) :
    Calls Try.prog 6 #[.string s] w fun e w' => e = .returned (.tuple #[digV zeros, .int .i64 1]) ∧ Below w.heap.size w w' := by
  unfold maxLen at hs
  obtain ⟨Z, HZ, HA, HB, HS, H1⟩ := noughts
  go_enter Try.func6, Try.ntmps6
  go_wp2_with (first
    | (refine wpList_alloc_row rfl 23 rfl Z HA.out ?_)
    | (refine wpList_build_none rfl 23 rfl Z HB.out ?_)
    | (refine wpList_store_row rfl 23 (.tmp 2) (.tmp 11) rfl w.heap.size Z rfl rfl 23 Z (heap_alloc_new w _) HS.out rfl H1.out ?_)
    | fail)
  refine bodyPost_ret (v := .tuple #[.agg Z, .int .i64 1]) ?_ rfl ⟨?_, ?_⟩
  · exact results_row_tmp (p := 2) (q := 3) (ty := 23) rfl _ _ w.heap.size 23 Z (0, 0) _ rfl (setRow_heap _ _ _ _ 23 _ (heap_alloc_new w _)) Try.underlying23 rfl HS.out
  · rw [HZ.out]; rfl
  · exact below_setRow ((Below.refl _ _).alloc (Nat.le_refl _) _) (Nat.le_refl _) _

/-- The last digit among the first k that is this one. -/
def nth (c : UInt8) (k : Nat) : Int := if 0 ≤ vC c ∧ vC c < k then vC c else -1
theorem nth_step (c : UInt8) (k : Nat) (hk : k < 16) : nth c (k + 1) = if hexC k = c then (k : Int) else nth c k := by
  have h := dig_at k c hk
  unfold nth
  by_cases e : hexC k = c
  · rw [if_pos e]
    have := h.1 e
    rw [if_pos (by omega)]
    exact this
  · rw [if_neg e]
    have : vC c ≠ k := fun q => e (h.2 q)
    by_cases q : 0 ≤ vC c ∧ vC c < k
    · rw [if_pos q, if_pos (by omega)]
    · rw [if_neg q, if_neg (by omega)]
theorem nth_end (c : UInt8) : nth c 16 = vC c := by
  have := vC_range c
  unfold nth
  split <;> omega

set_option maxHeartbeats 2000000 in
theorem refParse_64 (s : ByteArray) (w : World) (h : s.size = 64) :
    Calls Try.prog 6 #[.string s] w fun e w' => e = .returned (.tuple #[digV (parseD s.data.toList), .int .i64 (parseE s.data.toList)]) ∧ Below w.heap.size w w' := by
  obtain ⟨Z, HZ, HA, HB, HS, H1⟩ := noughts
  have HL : Hid (s.data.toList.length = 64) := h
  have h64 : ((s.size : Int) != 64) = false := by simp [h]
  have HSZ : Hid (s.size = 64) := h
  clear h
  go_enter Try.func6, Try.ntmps6
  go_wp2_with (first
    | (refine wpList_alloc_row rfl 23 rfl Z HA.out ?_)
    | fail)
  go_loopw [5] (fun v wr => ∃ (i : Nat) (A : List UInt8), i ≤ 64 ∧ v = .int .i64 i ∧ Hid (A.length = 32 ∧ HalfTo s.data.toList i A) ∧ Hid (wr.heap[w.heap.size]? = some (.cells Z 23 (0, 0))) ∧
      Hid (wr.heap[w.heap.size + 1]? = some (.cells (cellsOf A).toArray 23 (0, 0))) ∧ Below w.heap.size w wr)
    (fun v _ => 64 - (intOf v).toNat)
  case atStart =>
    refine ⟨0, zeros, by omega, rfl, ⟨rfl, .inl ⟨0, rfl, ParsedTo.start _⟩⟩, heap_alloc2_old w _ _, ?_, ((Below.refl _ _).alloc (Nat.le_refl _) _).alloc (by simp) _⟩
    show _ = _
    rw [← HZ.out]
    exact heap_alloc2_new w _ _
  case round =>
    obtain ⟨i, A, hi, rfl, HP, HR, HD, hB⟩ := hrel
    by_cases hlt : i < 64
    · obtain ⟨c, HC⟩ : ∃ c : UInt8, Hid (c = s.data.toList[i]'(by have := HL.out; omega)) := ⟨_, (rfl : s.data.toList[i]'(by have := HL.out; omega) = _)⟩
      have hdi : decide ((i : Int) < 64) = true := by rw [decide_eq_true_eq]; omega
      have i0 := run_at s i (by have := HSZ.out; omega) .i64 (i : Int) rfl c HC.out
      go_wp2
      go_loopw [6, 7] (fun v u wi => ∃ (k : Nat) (n : Int), k ≤ 16 ∧ u = .int .i64 k ∧ v = .int .i64 n ∧ Hid (n = nth c k) ∧ Hid (wi.heap[w.heap.size]? = some (.cells Z 23 (0, 0))) ∧
          Hid (wi.heap[w.heap.size + 1]? = some (.cells (cellsOf A).toArray 23 (0, 0))) ∧ Below w.heap.size w wi)
        (fun _ u _ => 16 - (intOf u).toNat)
      case atStart => exact ⟨0, -1, by omega, rfl, rfl, (by show _ = _; unfold nth; rw [if_neg (by omega)]), HR, HD, hB⟩
      case round =>
        clear HR HD hB
        obtain ⟨k, n, hk, rfl, rfl, HN, HR, HD, hB⟩ := hrel
        by_cases hlk : k < 16
        · have hdg := fun w => run_dig w .i64 k hlk
          obtain ⟨y, HY⟩ : ∃ y : Nat, Hid (y = (hexC k).toNat) := ⟨_, (rfl : (hexC k).toNat = _)⟩
          rw [← HY.out] at hdg
          obtain ⟨z, HZC⟩ : ∃ z : Nat, Hid (z = c.toNat) := ⟨_, (rfl : c.toNat = _)⟩
          rw [← HZC.out] at i0
          cases he : ((y : Int) == (z : Int))
          · have HN2 : Hid (n = nth c (k + 1)) := by
              show _ = _
              rw [nth_step c k hlk, if_neg, HN.out]
              intro q
              rw [beq_eq_false_iff_ne] at he
              apply he
              rw [HY.out, HZC.out, q]
            go_wp2
            go_region_held3 (fun _ => True) (trivial) (fail)
            all_goals
              go_wp2
              go_roundw
              case rel => exact ⟨k + 1, n, by omega, by go_num, rfl, HN2, HR, HD, hB.drew⟩
              case measure => simp [intOf]; omega
          · have HN2 : Hid ((k : Int) = nth c (k + 1)) := by
              show _ = _
              rw [nth_step c k hlk, if_pos]
              rw [beq_iff_eq] at he
              apply UInt8.toNat_inj.mp
              rw [← HY.out, ← HZC.out]
              omega
            go_wp2
            go_region_held3 (fun _ => True) (trivial) (fail)
            all_goals
              go_wp2
              go_roundw
              case rel => exact ⟨k + 1, k, by omega, by go_num, rfl, HN2, HR, HD, hB.drew⟩
              case measure => simp [intOf]; omega
        · obtain rfl : k = 16 := by omega
          have HV : Hid (vC c = n) := by
            show _ = _
            rw [HN.out, nth_end]
          by_cases hneg : n < 0
          · have HE : Hid (parseD s.data.toList = zeros ∧ parseE s.data.toList = 1) := HalfTo.bad HL.out hlt HP.out.2 (by rw [← HC.out, HV.out]; exact hneg)
            go_wp2_with (first
              | (refine wpList_build_none rfl 23 rfl Z HB.out ?_)
              | (refine wpList_store_row rfl 23 (.tmp 2) (.tmp 29) rfl w.heap.size Z rfl rfl 23 Z HR.out HS.out rfl H1.out ?_)
              | fail)
            refine bodyPost_ret (v := .tuple #[.agg Z, .int .i64 1]) ?_ rfl ⟨?_, ?_⟩
            · exact results_row_tmp (p := 2) (q := 3) (ty := 23) rfl _ _ w.heap.size 23 Z (0, 0) _ rfl (setRow_heap _ _ _ _ 23 _ HR.out) Try.underlying23 rfl HS.out
            · rw [HE.out.1, HE.out.2, HZ.out]; rfl
            · exact below_setRow hB (Nat.le_refl _) _
          · obtain ⟨m, rfl⟩ : ∃ m : Nat, n = m := ⟨n.toNat, by omega⟩
            have hm : m ≤ 15 := by have := vC_range c; have := HV.out; omega
            have hA : A.length = 32 := HP.out.1
            obtain ⟨x, HX⟩ : ∃ x : Nat, Hid (x = (A[i / 2]'(by omega)).toNat) := ⟨_, (rfl : (A[i / 2]'(by omega)).toNat = _)⟩
            have hcell : wr.cell? ⟨w.heap.size + 1, i / 2, none⟩ = some (.int .u8 (x : Int)) := by
              rw [cell_of_row wr _ _ _ 23 (0, 0) HD.out, HX.out]; simp [cellsOf_at A (i / 2) (by omega)]
            have hfz : wr.frozen? ⟨w.heap.size + 1, i / 2, none⟩ = false := frozen_of_row wr _ _ _ 23 HD.out
            have HN3 : Hid (HalfTo s.data.toList (i + 1) (A.set (i / 2) (UInt8.ofNat (x * 16 + m)))) := HalfTo.next HL.out hlt hA HP.out.2 x m HX.out (by rw [← HC.out]; exact HV.out)
            have HD2 : Hid ((wr.setCell ⟨w.heap.size + 1, i / 2, none⟩ (.int .u8 ((UInt8.ofNat (x * 16 + m)).toNat : Int))).heap[w.heap.size + 1]? = some (.cells (cellsOf (A.set (i / 2) (UInt8.ofNat (x * 16 + m)))).toArray 23 (0, 0))) := by
              show _ = _
              rw [heap_setCell_same wr _ _ _ 23 _ HD.out, ← cellsOf_set]
              simp
            have HR2 : Hid ((wr.setCell ⟨w.heap.size + 1, i / 2, none⟩ (.int .u8 ((UInt8.ofNat (x * 16 + m)).toNat : Int))).heap[w.heap.size]? = some (.cells Z 23 (0, 0))) := by
              show _ = _
              rw [heap_setCell_other wr _ _ _ (by simp)]
              exact HR.out
            have HAL : Hid (A.length = 32) := hA
            have HV2 : Hid ((x : Int) * 16 % 256 + (m : Int) = ((UInt8.ofNat (x * 16 + m)).toNat : Int)) := by
              show _ = _
              rw [UInt8.toNat_ofNat']; omega
            go_wp2
            rw [HV2.out]
            go_roundw
            case rel => exact ⟨i + 1, A.set (i / 2) (UInt8.ofNat (x * 16 + m)), by omega, by go_num, ⟨by rw [List.length_set]; exact HP.out.1, HN3.out⟩, HR2, HD2, hB.setCell (by simp) _⟩
            case measure => simp [intOf]; omega
    · obtain rfl : i = 64 := by omega
      have HE : Hid _ := HalfTo.done HL.out HP.out.2
      obtain ⟨D, HDD⟩ : ∃ D, Hid (D = (cellsOf A).toArray) := ⟨_, (rfl : (cellsOf A).toArray = _)⟩
      rw [← HDD.out] at HD
      have HSD : Hid ((Try.prog.info? 23).map (·.size) = some D.size) := by
        show _ = _
        rw [size23, HDD.out]; simp [cellsOf_length, HP.out.1]
      have H1D : Hid (D.all (·.oneCell') = true) := by
        show _ = _
        rw [HDD.out]; exact cellsOf_all A
      have HZD : Hid (Z.size = D.size) := by
        have h1 := HS.out
        have h2 := HSD.out
        rw [h1] at h2
        exact Option.some.inj h2
      go_wp2_with (first
        | (refine wpList_load_row rfl 23 (.tmp 4) rfl (w.heap.size + 1) rfl 23 D (0, 0) _ HD.out Try.underlying23 rfl HSD.out ?_)
        | (refine wpList_store_row rfl 23 (.tmp 2) (.tmp 41) rfl w.heap.size D rfl rfl 23 Z HR.out HSD.out HZD.out H1D.out ?_)
        | fail)
      refine bodyPost_ret (v := .tuple #[.agg D, .int .i64 0]) ?_ rfl ⟨?_, ?_⟩
      · exact results_row_tmp (p := 2) (q := 3) (ty := 23) rfl _ _ w.heap.size 23 D (0, 0) _ rfl (setRow_heap _ _ _ _ 23 _ HR.out) Try.underlying23 rfl HSD.out
      · rw [HE.out.1, HE.out.2, HDD.out]; rfl
      · exact below_setRow hB (Nat.le_refl _) _

theorem refParse_any (s : ByteArray) (w : World) (hs : s.size ≤ maxLen) :
    Calls Try.prog 6 #[.string s] w fun e w' => e = .returned (.tuple #[digV (parseD s.data.toList), .int .i64 (parseE s.data.toList)]) ∧ Below w.heap.size w w' := by
  by_cases h : s.size = 64
  · exact refParse_64 s w h
  · have hn : parseO s.data.toList = none := by
      unfold parseO
      rw [if_neg (by rw [size_list]; exact h)]
    rw [(parse_none hn).1, (parse_none hn).2]
    exact refParse_short s w hs (by simp; omega)
end Go.Proofs.Ythkmhfpihkjhnaa
