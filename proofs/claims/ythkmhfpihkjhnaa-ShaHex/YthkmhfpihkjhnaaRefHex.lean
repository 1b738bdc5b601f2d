/- What the document's own Hex answers: the same digits. -/
import Derived.Test.YthkmhfpihkjhnaaHex
import Derived.BigQuiet
namespace Go.Proofs.Ythkmhfpihkjhnaa
open Go.RowKit Digs
set_option linter.unusedVariables false

theorem run_digs (w : World) (n : Nat) (h : n < 16) :
    (Instr.slice 9 (.string ⟨#[48, 49, 50, 51, 52, 53, 54, 55, 56, 57, 97, 98, 99, 100, 101, 102]⟩) (some (.int .i64 n)) (some (.int .i64 (n + 1))) none).run Try.prog w = .ok (.string ⟨#[hexC n]⟩) w := by
  have hs : (ByteArray.mk #[48, 49, 50, 51, 52, 53, 54, 55, 56, 57, 97, 98, 99, 100, 101, 102]).size = 16 := rfl
  rw [run_slice_string w 9 _ .i64 .i64 n (n + 1) Try.underlying9 (by omega) (by omega) (by rw [hs]; omega)]
  have hn : n = 0 ∨ n = 1 ∨ n = 2 ∨ n = 3 ∨ n = 4 ∨ n = 5 ∨ n = 6 ∨ n = 7 ∨ n = 8 ∨ n = 9 ∨ n = 10 ∨ n = 11 ∨ n = 12 ∨ n = 13 ∨ n = 14 ∨ n = 15 := by omega
  rcases hn with rfl | rfl | rfl | rfl | rfl | rfl | rfl | rfl | rfl | rfl | rfl | rfl | rfl | rfl | rfl | rfl <;> rfl

set_option maxHeartbeats 1000000 in
theorem refHex_any (d : List UInt8) (hd : d.length = 32) (w : World) :
    Calls Try.prog 9 #[digV d] w fun e w' => e = .returned (.string ⟨(hexL d).toArray⟩) ∧ Below w.heap.size w w' := by
  obtain ⟨cs, HCS⟩ : ∃ cs, Hid (cs = (cellsOf d).toArray) := ⟨_, (rfl : (cellsOf d).toArray = _)⟩
  unfold digV
  rw [← HCS.out]
  go_enter Try.func9, Try.ntmps9
  go_wp2
  go_loopw [3, 4] (fun b i wr => ∃ k : Nat, ∃ B : ByteArray, k ≤ 32 ∧ i = .int .i64 k ∧ b = .string B ∧ Hid (B = ⟨(hexL (d.take k)).toArray⟩) ∧ B.size ≤ 64 ∧
      Hid (wr.heap[w.heap.size]? = some (.cells cs 23 (0, 0))) ∧ Below w.heap.size w wr)
    (fun _ i _ => 32 - (intOf i).toNat)
  case atStart => exact ⟨0, ⟨#[]⟩, by omega, rfl, rfl, (rfl : _ = _), by decide, heap_alloc_new w _, (Below.refl _ _).alloc (Nat.le_refl _) _⟩
  case round =>
    obtain ⟨k, B, hk, rfl, rfl, HB, hB64, HG, hB⟩ := hrel
    by_cases hlt : k < 32
    · obtain ⟨c, HC⟩ : ∃ c : Nat, Hid (c = d[k].toNat) := ⟨_, (rfl : d[k].toNat = _)⟩
      have hc1 : (c : Int) ≤ 255 := by have := d[k].toNat_lt; have := HC.out; omega
      have hcell : wr.cell? ⟨w.heap.size, k, none⟩ = some (.int .u8 (c : Int)) := by
        rw [cell_of_row wr _ k _ 23 (0, 0) HG.out, HCS.out]; simp [cellsOf_at d k (by omega), HC.out]
      have hd1 := fun w => run_digs w (c / 16) (by omega)
      have hd2 := fun w => run_digs w (c % 16) (by omega)
      obtain ⟨X, HX⟩ : ∃ X : ByteArray, Hid (X = ⟨#[hexC (c / 16)]⟩) := ⟨_, (rfl : (⟨#[hexC (c / 16)]⟩ : ByteArray) = _)⟩
      obtain ⟨Y, HY⟩ : ∃ Y : ByteArray, Hid (Y = ⟨#[hexC (c % 16)]⟩) := ⟨_, (rfl : (⟨#[hexC (c % 16)]⟩ : ByteArray) = _)⟩
      rw [← HX.out, show ((c / 16 : Nat) : Int) = (c : Int) / 16 by omega] at hd1
      rw [← HY.out, show ((c % 16 : Nat) : Int) = (c : Int) % 16 by omega] at hd2
      have hX : X.size ≤ 1 := by rw [HX.out]; exact Nat.le_refl 1
      have hY : Y.size ≤ 1 := by rw [HY.out]; exact Nat.le_refl 1
      have hw1 := wrap_int ((c : Int) / 16 + 1) (by omega) (by omega)
      have hw2 := wrap_int ((c : Int) % 16 + 1) (by omega) (by omega)
      have HN : Hid (B ++ X ++ Y = ⟨(hexL (d.take (k + 1))).toArray⟩) := by
        show _ = _
        rw [hexL_step d k (by omega), ← HC.out, HB.out, HX.out, HY.out]
        apply ByteArray.ext
        simp [ByteArray.data_append]
      have HN2 : Hid ((B ++ X ++ Y).size ≤ 64) := by
        show _ ≤ _
        rw [HN.out]
        show (hexL (d.take (k + 1))).toArray.size ≤ 64
        simp [hexL_length]; omega
      have hsum : ¬ 9223372036854775807 < B.size + X.size := by omega
      have hsum2 : ¬ 9223372036854775807 < B.size + X.size + Y.size := by omega
      go_wp2
      go_region_held3 (fun _ => True) (trivial) (fail)
      all_goals
        go_wp2
        go_roundw
        case rel => exact ⟨k + 1, _, by omega, by go_num, rfl, HN, HN2.out, HG, hB.drew⟩
        case measure => simp [intOf]; omega
    · obtain rfl : k = 32 := by omega
      have HE : Hid (B = ⟨(hexL d).toArray⟩) := by
        show _ = _
        rw [HB.out, List.take_of_length_le (by omega)]
      go_wp2
      go_ret
      rw [HE.out]
      exact ⟨rfl, hB⟩
end Go.Proofs.Ythkmhfpihkjhnaa
