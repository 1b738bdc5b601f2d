/- What sha.Parse answers: the digest that 64 digits are, or ErrArg. -/
import Derived.Test.YthkmhfpihkjhnaaHex
import Derived.BigQuiet
namespace Go.Proofs.Ythkmhfpihkjhnaa
open Go.RowKit Digs
set_option linter.unusedVariables false

theorem lite_any (s : ByteArray) (c : Nat) (w : World) :
    Calls Try.prog 11 #[.string s, .int .u8 c] w fun e w' => e = .returned (.int .i64 (Lib.indexByte s.data.toList c.toUInt8)) ∧ w = w' := by
  go_enter Try.func11, Try.ntmps11
  go_wp2
  rw [run_callFunc_extern Try.func12 (by kernel_rfl) (by kernel_rfl) (by kernel_rfl) (e := Extern.BytealgIndexByte.indexByte) (by kernel_rfl), Lib.run_indexByteString]
  simp only [Result.andThen]
  rw [Oper.upon_value]
  go_wp2
  go_ret
  exact ⟨rfl, rfl⟩

theorem index_any (s : ByteArray) (c : Nat) (w : World) :
    Calls Try.prog 10 #[.string s, .int .u8 c] w fun e w' => e = .returned (.int .i64 (Lib.indexByte s.data.toList c.toUInt8)) ∧ w = w' := by
  go_enter Try.func10, Try.ntmps10
  go_wp2_with (go_at_call 11; refine (lite_any s c _).mono ?_; rintro e w' ⟨rfl, rfl⟩)
  go_ret
  exact ⟨rfl, rfl⟩

theorem indexDig (c : UInt8) (w : World) :
    Calls Try.prog 10 #[.string ⟨#[48, 49, 50, 51, 52, 53, 54, 55, 56, 57, 97, 98, 99, 100, 101, 102]⟩, .int .u8 c.toNat] w fun e w' => e = .returned (.int .i64 (vC c)) ∧ w = w' := by
  have h := index_any ⟨#[48, 49, 50, 51, 52, 53, 54, 55, 56, 57, 97, 98, 99, 100, 101, 102]⟩ c.toNat w
  have e : c.toNat.toUInt8 = c := by simp
  rw [e] at h
  exact h

theorem size_list (s : ByteArray) : s.data.toList.length = s.size := rfl

theorem zero23 : (Try.prog.info? 23).map (fun i => (i.zero, i.size)) = some (some (.agg (cellsOf zeros).toArray), 32) := by kernel_rfl
theorem built23 : Try.prog.built 23 [] = some (cellsOf zeros).toArray := by kernel_rfl

/-- What is known of the array of noughts. -/
theorem noughts : ∃ Z : Array Value, Hid (Z = (cellsOf zeros).toArray) ∧ Hid ((Try.prog.info? 23).map (fun i => (i.zero, i.size)) = some (some (.agg Z), Z.size)) ∧ Hid (Try.prog.built 23 [] = some Z) ∧
    Hid ((Try.prog.info? 23).map (·.size) = some Z.size) ∧ Hid (Z.all (·.oneCell') = true) :=
  ⟨(cellsOf zeros).toArray, (rfl : _ = _), zero23, built23, size23, cellsOf_all _⟩

set_option maxHeartbeats 1000000 in
theorem parse_short (s : ByteArray) (w : World) (hs : s.size ≤ maxLen) (h : ((s.size : Int) != 64) = true) :
    Calls Try.prog 5 #[.string s] w fun e w' => e = .returned (.tuple #[digV zeros, .int .i64 1]) ∧ Below w.heap.size w w' := by
  unfold maxLen at hs
  obtain ⟨Z, HZ, HA, HB, HS, H1⟩ := noughts
  go_enter Try.func5, Try.ntmps5
  go_wp2_with (first
    | (refine wpList_alloc_row rfl 23 rfl Z HA.out ?_)
    | (refine wpList_build_none rfl 23 rfl Z HB.out ?_)
    | (refine wpList_store_row rfl 23 (.tmp 2) (.tmp 11) rfl w.heap.size Z rfl rfl 23 Z (heap_alloc2_old w _ _) HS.out rfl H1.out ?_)
    | fail)
  refine bodyPost_ret (v := .tuple #[.agg Z, .int .i64 1]) ?_ rfl ⟨?_, ?_⟩
  · exact results_row_tmp (p := 2) (q := 3) (ty := 23) rfl _ _ w.heap.size 23 Z (0, 0) _ rfl (setRow_heap _ _ _ _ 23 _ (heap_alloc2_old w _ _)) Try.underlying23 rfl HS.out
  · rw [HZ.out]; rfl
  · exact below_setRow (((Below.refl _ _).alloc (Nat.le_refl _) _).alloc (by simp) _) (Nat.le_refl _) _


/-- What holds at the round k: the first k bytes are parsed, and lie in the array. -/
def ParsedTo (s : List UInt8) (k : Nat) (A : List UInt8) : Prop :=
  ∃ pre, pairs (s.take (2 * k)) = some pre ∧ A = pre ++ List.replicate (32 - k) 0

theorem ParsedTo.next {s : List UInt8} {k : Nat} {A : List UInt8} (hs : s.length = 64) (h : ParsedTo s k A) (hk : k < 32) (h0 : ¬ vC (s[2 * k]'(by omega)) < 0) (h1 : ¬ vC (s[2 * k + 1]'(by omega)) < 0) :
    ParsedTo s (k + 1) (A.set k (UInt8.ofNat (16 * vC (s[2 * k]'(by omega)) + vC (s[2 * k + 1]'(by omega))).toNat)) := by
  obtain ⟨pre, hp, rfl⟩ := h
  have hl := pairs_length _ _ hp
  rw [List.length_take] at hl
  refine ⟨_, pairs_next s pre k (by omega) hp h0 h1, ?_⟩
  rw [List.set_append, if_neg (by omega), show k - pre.length = 0 by omega, show 32 - k = (32 - (k + 1)) + 1 by omega, List.replicate_succ, List.set_cons_zero]
  simp

theorem ParsedTo.bad {s : List UInt8} {k : Nat} {A : List UInt8} (hs : s.length = 64) (h : ParsedTo s k A) (hk : k < 32) (hb : vC (s[2 * k]'(by omega)) < 0 ∨ vC (s[2 * k + 1]'(by omega)) < 0) : parseD s = zeros ∧ parseE s = 1 := by
  obtain ⟨pre, hp, rfl⟩ := h
  apply parse_none
  unfold parseO
  rw [if_pos hs, pairs_bad s pre k (by omega) hp hb]

theorem ParsedTo.done {s : List UInt8} {A : List UInt8} (hs : s.length = 64) (h : ParsedTo s 32 A) : parseD s = A ∧ parseE s = 0 := by
  obtain ⟨pre, hp, rfl⟩ := h
  apply parse_some
  unfold parseO
  rw [if_pos hs]
  rw [List.take_of_length_le (by omega)] at hp
  simp [hp]

theorem ParsedTo.start (s : List UInt8) : ParsedTo s 0 zeros := ⟨[], rfl, rfl⟩

theorem run_at (s : ByteArray) (i : Nat) (h : i < s.size) (k : IntKind) (z : Int) (hz : z = i) (c : UInt8) (hc : c = s.data.toList[i]) (w : World) : (Instr.index 9 (.string s) (.int k z)).run Try.prog w = .ok (.int .u8 c.toNat) w := by
  subst hz
  rw [run_index_string w 9 _ k i Try.underlying9, dif_pos (by omega), hc]
  rfl

theorem or_digits (x y : Nat) (hx : x ≤ 15) (hy : y ≤ 15) : bits .or .i64 ((x : Int) * 16) (y : Int) = 16 * (x : Int) + (y : Int) := by
  have h : ∀ x : Nat, x < 16 → ∀ y : Nat, y < 16 → bits .or .i64 ((x : Int) * 16) (y : Int) = 16 * (x : Int) + (y : Int) := by decide +kernel
  exact h x (by omega) y (by omega)

set_option maxHeartbeats 1000000 in
theorem parse_64 (s : ByteArray) (w : World) (h : s.size = 64) :
    Calls Try.prog 5 #[.string s] w fun e w' => e = .returned (.tuple #[digV (parseD s.data.toList), .int .i64 (parseE s.data.toList)]) ∧ Below w.heap.size w w' := by
  obtain ⟨Z, HZ, HA, HB, HS, H1⟩ := noughts
  have HL : Hid (s.data.toList.length = 64) := h
  have h64 : ((s.size : Int) != 64) = false := by simp [h]
  have HSZ : Hid (s.size = 64) := h
  clear h
  go_enter Try.func5, Try.ntmps5
  go_wp2_with (first
    | (refine wpList_alloc_row rfl 23 rfl Z HA.out ?_)
    | fail)
  go_loopw [12] (fun i wr => ∃ (k : Nat) (A : List UInt8), k ≤ 32 ∧ i = .int .i64 k ∧ Hid (A.length = 32 ∧ ParsedTo s.data.toList k A) ∧ Hid (wr.heap[w.heap.size]? = some (.cells Z 23 (0, 0))) ∧
      Hid (wr.heap[w.heap.size + 1]? = some (.cells (cellsOf A).toArray 23 (0, 0))) ∧ Below w.heap.size w wr)
    (fun i _ => 32 - (intOf i).toNat)
  case atStart =>
    refine ⟨0, zeros, by omega, rfl, ⟨rfl, ParsedTo.start _⟩, heap_alloc2_old w _ _, ?_, ((Below.refl _ _).alloc (Nat.le_refl _) _).alloc (by simp) _⟩
    show _ = _
    rw [← HZ.out]
    exact heap_alloc2_new w _ _
  case round =>
    obtain ⟨k, A, hk, rfl, HP, HR, HD, hB⟩ := hrel
    by_cases hlt : k < 32
    · obtain ⟨c0, C0⟩ : ∃ c : UInt8, Hid (c = s.data.toList[2 * k]'(by have := HL.out; omega)) := ⟨_, (rfl : s.data.toList[2 * k]'(by have := HL.out; omega) = _)⟩
      obtain ⟨c1, C1⟩ : ∃ c : UInt8, Hid (c = s.data.toList[2 * k + 1]'(by have := HL.out; omega)) := ⟨_, (rfl : s.data.toList[2 * k + 1]'(by have := HL.out; omega) = _)⟩
      have i0 := run_at s (2 * k) (by have := HSZ.out; omega) .i64 (2 * (k : Int)) (by omega) c0 C0.out
      have i1 := run_at s (2 * k + 1) (by have := HSZ.out; omega) .i64 (2 * (k : Int) + 1) (by omega) c1 C1.out
      have hw0 := wrap_int (2 * (k : Int)) (by omega) (by omega)
      have hw1 := wrap_int (2 * (k : Int) + 1) (by omega) (by omega)
      obtain ⟨v0, V0⟩ : ∃ v : Int, Hid (vC c0 = v) := ⟨_, (rfl : vC c0 = _)⟩
      obtain ⟨v1, V1⟩ : ∃ v : Int, Hid (vC c1 = v) := ⟨_, (rfl : vC c1 = _)⟩
      have K0 : Hid (∀ w, Calls Try.prog 10 #[.string ⟨#[48, 49, 50, 51, 52, 53, 54, 55, 56, 57, 97, 98, 99, 100, 101, 102]⟩, .int .u8 c0.toNat] w fun e w' => e = .returned (.int .i64 v0) ∧ w = w') := by
        intro w; rw [← V0.out]; exact indexDig c0 w
      have K1 : Hid (∀ w, Calls Try.prog 10 #[.string ⟨#[48, 49, 50, 51, 52, 53, 54, 55, 56, 57, 97, 98, 99, 100, 101, 102]⟩, .int .u8 c1.toNat] w fun e w' => e = .returned (.int .i64 v1) ∧ w = w') := by
        intro w; rw [← V1.out]; exact indexDig c1 w
      have hcell : wr.cell? ⟨w.heap.size + 1, k, none⟩ = some (.int .u8 ((A[k]'(by have := HP.out.1; omega)).toNat : Int)) := by
        rw [cell_of_row wr _ k _ 23 (0, 0) HD.out]; simp [cellsOf_at A k (by have := HP.out.1; omega)]
      have hfz : wr.frozen? ⟨w.heap.size + 1, k, none⟩ = false := frozen_of_row wr _ k _ 23 HD.out
      by_cases hb : v0 < 0 ∨ v1 < 0
      · have HE : Hid (parseD s.data.toList = zeros ∧ parseE s.data.toList = 1) := ParsedTo.bad HL.out HP.out.2 hlt (by rw [← C0.out, ← C1.out, V0.out, V1.out]; exact hb)
        have hb' : v0 < 0 ∨ (¬ v0 < 0 ∧ v1 < 0) := by omega
        clear hb hcell hfz
        rcases hb' with hb0 | ⟨hb0, hb1⟩
        all_goals
          go_wp2
          go_region_held3 (fun _ => True) (trivial) (first
            | (go_at_call 10; refine (K0.out _).mono ?_; rintro e w' ⟨rfl, rfl⟩)
            | (go_at_call 10; refine (K1.out _).mono ?_; rintro e w' ⟨rfl, rfl⟩))
          all_goals
            go_wp2_with (first
              | (refine wpList_build_none rfl 23 rfl Z HB.out ?_)
              | (refine wpList_store_row rfl 23 (.tmp 2) (.tmp 32) rfl w.heap.size Z rfl rfl 23 Z HR.out HS.out rfl H1.out ?_)
              | fail)
            refine bodyPost_ret (v := .tuple #[.agg Z, .int .i64 1]) ?_ rfl ⟨?_, ?_⟩
            · exact results_row_tmp (p := 2) (q := 3) (ty := 23) rfl _ _ w.heap.size 23 Z (0, 0) _ rfl (setRow_heap _ _ _ _ 23 _ HR.out) Try.underlying23 rfl HS.out
            · rw [HE.out.1, HE.out.2, HZ.out]; rfl
            · exact below_setRow hB.drew (Nat.le_refl _) _
      · obtain ⟨x0, rfl⟩ : ∃ x : Nat, v0 = x := ⟨v0.toNat, by omega⟩
        obtain ⟨x1, rfl⟩ : ∃ x : Nat, v1 = x := ⟨v1.toNat, by omega⟩
        have hx0 : x0 ≤ 15 := by have := vC_range c0; have := V0.out; omega
        have hx1 : x1 ≤ 15 := by have := vC_range c1; have := V1.out; omega
        have hor := or_digits x0 x1 hx0 hx1
        have HN : Hid (ParsedTo s.data.toList (k + 1) (A.set k (UInt8.ofNat (16 * x0 + x1)))) := by
          have := ParsedTo.next HL.out HP.out.2 hlt (by rw [← C0.out, V0.out]; omega) (by rw [← C1.out, V1.out]; omega)
          rw [← C0.out, ← C1.out, V0.out, V1.out, show (16 * (x0 : Int) + (x1 : Int)).toNat = 16 * x0 + x1 by omega] at this
          exact this
        have HD2 : Hid ((wr.setCell ⟨w.heap.size + 1, k, none⟩ (.int .u8 (16 * (x0 : Int) + (x1 : Int)))).heap[w.heap.size + 1]? = some (.cells (cellsOf (A.set k (UInt8.ofNat (16 * x0 + x1)))).toArray 23 (0, 0))) := by
          show _ = _
          rw [heap_setCell_same wr _ k _ 23 _ HD.out, ← cellsOf_set, UInt8.toNat_ofNat', show (16 * x0 + x1) % 2 ^ 8 = 16 * x0 + x1 by omega]
          simp
        have HR2 : Hid ((wr.setCell ⟨w.heap.size + 1, k, none⟩ (.int .u8 (16 * (x0 : Int) + (x1 : Int)))).heap[w.heap.size]? = some (.cells Z 23 (0, 0))) := by
          show _ = _
          rw [heap_setCell_other wr _ _ _ (by simp)]
          exact HR.out
        have hm : (16 * (x0 : Int) + (x1 : Int)) % 256 = 16 * (x0 : Int) + (x1 : Int) := by omega
        clear hb
        go_wp2
        go_region_held3 (fun _ => True) (trivial) (first
          | (go_at_call 10; refine (K0.out _).mono ?_; rintro e w' ⟨rfl, rfl⟩)
          | (go_at_call 10; refine (K1.out _).mono ?_; rintro e w' ⟨rfl, rfl⟩))
        all_goals
          go_wp2
          go_roundw
          case rel => exact ⟨k + 1, A.set k (UInt8.ofNat (16 * x0 + x1)), by omega, by go_num, ⟨by rw [List.length_set]; exact HP.out.1, HN.out⟩, HR2.out, HD2.out, hB.drew.setCell (by simp) _⟩
          case measure => simp [intOf]; omega
    · obtain rfl : k = 32 := by omega
      have HE : Hid _ := ParsedTo.done HL.out HP.out.2
      obtain ⟨D, HDD⟩ : ∃ D, Hid (D = (cellsOf A).toArray) := ⟨_, (rfl : (cellsOf A).toArray = _)⟩
      rw [← HDD.out] at HD
      have HSD : Hid ((Try.prog.info? 23).map (·.size) = some D.size) := by
        show _ = _
        rw [size23, HDD.out]; simp [cellsOf_length, HP.out.1]
      have H1D : Hid (D.all (·.oneCell') = true) := by
        show _ = _
        rw [HDD.out]; exact cellsOf_all A
      have HZD : Hid (Z.size = D.size) := by
        have h1 := HS.out
        have h2 := HSD.out
        rw [h1] at h2
        exact Option.some.inj h2
      go_wp2_with (first
        | (refine wpList_load_row rfl 23 (.tmp 4) rfl (w.heap.size + 1) rfl 23 D (0, 0) _ HD.out Try.underlying23 rfl HSD.out ?_)
        | (refine wpList_store_row rfl 23 (.tmp 2) (.tmp 41) rfl w.heap.size D rfl rfl 23 Z HR.out HSD.out HZD.out H1D.out ?_)
        | fail)
      refine bodyPost_ret (v := .tuple #[.agg D, .int .i64 0]) ?_ rfl ⟨?_, ?_⟩
      · exact results_row_tmp (p := 2) (q := 3) (ty := 23) rfl _ _ w.heap.size 23 D (0, 0) _ rfl (setRow_heap _ _ _ _ 23 _ HR.out) Try.underlying23 rfl HSD.out
      · rw [HE.out.1, HE.out.2, HDD.out]; rfl
      · exact below_setRow hB (Nat.le_refl _) _

theorem parse_any (s : ByteArray) (w : World) (hs : s.size ≤ maxLen) :
    Calls Try.prog 5 #[.string s] w fun e w' => e = .returned (.tuple #[digV (parseD s.data.toList), .int .i64 (parseE s.data.toList)]) ∧ Below w.heap.size w w' := by
  by_cases h : s.size = 64
  · exact parse_64 s w h
  · have hn : parseO s.data.toList = none := by
      unfold parseO
      rw [if_neg (by rw [size_list]; exact h)]
    rw [(parse_none hn).1, (parse_none hn).2]
    exact parse_short s w hs (by simp; omega)
end Go.Proofs.Ythkmhfpihkjhnaa
