/- The examples of the document for numbers hold, whatever the world. -/
import Derived.Test.YtmfopddmkaecaaaValue
namespace Go.Proofs.Ytmfopddmkaecaaa
open Go.RowKit Nums

theorem n258 : nOf 258 = ⟨#[1, 2]⟩ ∧ neOf 258 = 0 := by decide +kernel
theorem n0 : nOf 0 = ⟨#[]⟩ ∧ neOf 0 = 0 := by decide +kernel
theorem nm : nOf (-1) = ⟨#[]⟩ ∧ neOf (-1) = 1 := by decide +kernel
theorem v12 : vOf [1, 2] = 258 ∧ eOf [1, 2] = 0 := by decide +kernel
theorem vz : vOf [0] = 0 ∧ eOf [0] = 11 := by decide +kernel

theorem number_lit {n : Int} {s : ByteArray} {k : Int} (h : nOf n = s ∧ neOf n = k) (w : World) :
    Calls Try.prog 9 #[.int .i64 n] w fun e w' => e = .returned (.tuple #[.string s, .int .i64 k]) ∧ Below w.heap.size w w' := by
  have := number_any n w
  rwa [h.1, h.2] at this

theorem value_lit {l : List UInt8} {v k : Int} (h : vOf l = v ∧ eOf l = k) (hl : l.length ≤ 8) (w : World) :
    Calls Try.prog 11 #[.string ⟨l.toArray⟩] w fun e w' => e = .returned (.tuple #[.int .i64 v, .int .i64 k]) ∧ w = w' := by
  have := value_any ⟨l.toArray⟩ w (by show l.toArray.size ≤ _; unfold maxLen; simp; omega)
  simp only [h.1, h.2] at this
  exact this

set_option maxHeartbeats 400000 in
theorem numbers_any (w : World) : Calls Try.prog 13 #[] w fun e w' => e = .returned (.bool true) ∧ Below w.heap.size w w' := by
  go_enter Try.func13, Try.ntmps13
  go_wp2_with fail
  refine (number_lit n258 _).mono ?_
  rintro e w1 ⟨rfl, hb1⟩
  go_wp2_with fail
  refine (number_lit n0 _).mono ?_
  rintro e w2 ⟨rfl, hb2⟩
  go_wp2_with fail
  refine (number_lit nm _).mono ?_
  rintro e w3 ⟨rfl, hb3⟩
  go_wp2_with fail
  refine (value_lit v12 (by decide) _).mono ?_
  rintro e _ ⟨rfl, rfl⟩
  go_wp2_with fail
  refine (value_lit vz (by decide) _).mono ?_
  rintro e _ ⟨rfl, rfl⟩
  go_wp2
  go_ret
  exact ⟨rfl, (hb1.trans (hb2.mono hb1.size)).trans (hb3.mono (Nat.le_trans hb1.size hb2.size))⟩
end Go.Proofs.Ytmfopddmkaecaaa
