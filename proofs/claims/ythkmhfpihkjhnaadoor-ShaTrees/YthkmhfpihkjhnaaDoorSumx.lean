/- The statements' own example: abc has the published sum, and nothing has. -/
import Derived.Test.YthkmhfpihkjhnaaDoorLeafs
namespace Go.Proofs.YthkmhfpihkjhnaaDoor
open Go.RowKit Sums Digs
set_option linter.unusedVariables false
set_option linter.unusedSimpArgs false

set_option maxHeartbeats 1000000 in
set_option maxRecDepth 100000 in
theorem sums_true (w : World) (hK : Table 0 w) : Calls Tryd.prog 8 #[] w fun e w' => e = .returned (.bool true) ∧ Below w.heap.size w w' := by
  obtain ⟨D, HD⟩ : ∃ D, Hid (D = (cellsOf (sumD [97, 98, 99])).toArray) := ⟨_, (rfl : (cellsOf (sumD [97, 98, 99])).toArray = _)⟩
  obtain ⟨E, HE⟩ : ∃ E, Hid (E = (cellsOf (sumD [])).toArray) := ⟨_, (rfl : (cellsOf (sumD [])).toArray = _)⟩
  have K1 : Hid (∀ w1, Below w.heap.size w w1 → Calls Tryd.prog 9 #[.slice (some ⟨w1.heap.size, 0, none⟩) 2 2] (w1.alloc (.cells #[.string ⟨#[97]⟩, .string ⟨#[98, 99]⟩] 9)) fun e w' => e = .returned (.agg D) ∧ Below w1.heap.size w1 w') := fun w1 hb =>
    of_new [⟨#[97]⟩, ⟨#[98, 99]⟩] 9 w1 (by decide) (by decide) (hK.keep hb) D (by show _ = _; rw [HD.out]; rfl) 2 2 _ rfl rfl _ rfl
  have K2 : Hid (∀ w1, Below w.heap.size w w1 → Calls Tryd.prog 11 #[] w1 fun e w' => e = .returned (.agg E) ∧ Below w1.heap.size w1 w') := fun w1 hb => empty_any w1 (hK.keep hb) E HE
  have H1 : Hid (∀ w1, Calls Tryd.prog 16 #[.agg D] w1 fun e w' => e = .returned (.string ⟨#[98, 97, 55, 56, 49, 54, 98, 102, 56, 102, 48, 49, 99, 102, 101, 97, 52, 49, 52, 49, 52, 48, 100, 101, 53, 100, 97, 101, 50, 50, 50, 51, 98, 48, 48, 51, 54, 49, 97, 51, 57, 54, 49, 55, 55, 97, 57, 99, 98, 52, 49, 48, 102, 102, 54, 49, 102, 50, 48, 48, 49, 53, 97, 100]⟩) ∧ Below w1.heap.size w1 w') := fun w1 => by
    have := hex_any (sumD [97, 98, 99]) (sumD_length _) w1
    rw [HD.out]
    rw [show (⟨(hexL (sumD [97, 98, 99])).toArray⟩ : ByteArray) = ⟨#[98, 97, 55, 56, 49, 54, 98, 102, 56, 102, 48, 49, 99, 102, 101, 97, 52, 49, 52, 49, 52, 48, 100, 101, 53, 100, 97, 101, 50, 50, 50, 51, 98, 48, 48, 51, 54, 49, 97, 51, 57, 54, 49, 55, 55, 97, 57, 99, 98, 52, 49, 48, 102, 102, 54, 49, 102, 50, 48, 48, 49, 53, 97, 100]⟩ by rw [sum_abc]; decide +kernel] at this
    exact this
  have H2 : Hid (∀ w1, Calls Tryd.prog 16 #[.agg E] w1 fun e w' => e = .returned (.string ⟨#[101, 51, 98, 48, 99, 52, 52, 50, 57, 56, 102, 99, 49, 99, 49, 52, 57, 97, 102, 98, 102, 52, 99, 56, 57, 57, 54, 102, 98, 57, 50, 52, 50, 55, 97, 101, 52, 49, 101, 52, 54, 52, 57, 98, 57, 51, 52, 99, 97, 52, 57, 53, 57, 57, 49, 98, 55, 56, 53, 50, 98, 56, 53, 53]⟩) ∧ Below w1.heap.size w1 w') := fun w1 => by
    have := hex_any (sumD []) (sumD_length _) w1
    rw [HE.out]
    rw [show (⟨(hexL (sumD [])).toArray⟩ : ByteArray) = ⟨#[101, 51, 98, 48, 99, 52, 52, 50, 57, 56, 102, 99, 49, 99, 49, 52, 57, 97, 102, 98, 102, 52, 99, 56, 57, 57, 54, 102, 98, 57, 50, 52, 50, 55, 97, 101, 52, 49, 101, 52, 54, 52, 57, 98, 57, 51, 52, 99, 97, 52, 57, 53, 57, 57, 49, 98, 55, 56, 53, 50, 98, 56, 53, 53]⟩ by rw [sum_none]; decide +kernel] at this
    exact this
  clear hK
  go_enter Tryd.func8, Tryd.ntmps8
  go_wp2_with fail
  refine (K1.out _ (Below.refl _ _)).mono ?_
  rintro e w1 ⟨rfl, hb1⟩
  go_wp2_with fail
  refine (H1.out _).mono ?_
  rintro e w2 ⟨rfl, hb2⟩
  have hB2 : Below w.heap.size w w2 := hb1.trans (hb2.mono hb1.size)
  clear hb1 hb2
  go_wp2_with fail
  refine (K2.out _ hB2).mono ?_
  rintro e w3 ⟨rfl, hb3⟩
  go_wp2_with fail
  refine (H2.out _).mono ?_
  rintro e w4 ⟨rfl, hb4⟩
  have hB3 := hB2.trans (hb3.mono hB2.size)
  have HB : Hid (Below w.heap.size w w4) := hB3.trans (hb4.mono hB3.size)
  clear hb3 hb4 hB2 hB3
  go_wp2
  go_ret
  exact ⟨rfl, HB.out⟩
end Go.Proofs.YthkmhfpihkjhnaaDoor
