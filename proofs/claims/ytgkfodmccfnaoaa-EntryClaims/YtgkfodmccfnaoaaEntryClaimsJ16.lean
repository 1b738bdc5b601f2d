/- Texts of our own that the row of EntryClaims leans on, part 16. -/
import Derived.Test.YtgkfodmccfnaoaaEntryClaimsJ4
import Derived.Test.YtgkfodmccfnaoaaEntryClaimsJ10
import Derived.Test.YtgkfodmccfnaoaaEntryClaimsJ15

/- What the document's small functions on heads answer: is a head right; numbers and digests. -/
namespace Go.Proofs.Ytgkfodmccfnaoaa
open Go.RowKit Sums Nums
set_option linter.unusedVariables false
set_option linter.unusedSimpArgs false
set_option maxRecDepth 100000
set_option maxHeartbeats 1000000 in
theorem refNum_any (n : Int) (w : World) : Calls Try.prog 21 #[.int .i64 n] w fun e w' => e = .returned (.string (nOf n)) ∧ Below w.heap.size w w' := by
  have NB : Hid (∀ W, Calls Try.prog 31 #[.int .i64 n] W fun e w' => e = .returned (.tuple #[.string (nOf n), .int .i64 (neOf n)]) ∧ Below W.heap.size W w') := fun W => refNumber_any n W
  obtain ⟨s, hs⟩ : ∃ s, s = nOf n := ⟨_, rfl⟩
  obtain ⟨k, hk⟩ : ∃ k, k = neOf n := ⟨_, rfl⟩
  rw [← hs, ← hk] at NB
  rw [← hs]
  clear hs hk
  go_enter Try.func21, Try.ntmps21
  go_wp2_with fail
  refine (NB.out _).mono ?_
  rintro e w1 ⟨rfl, hb⟩
  have HB := hidk hb
  clear hb
  go_wp2
  go_ret
  exact ⟨rfl, HB.out⟩
/-! Heads in memory: three numbers, a digest, a number. -/
def hcells (h : HdT) : List Value := [.int .i64 h.r, .int .i64 h.e, .int .i64 h.s] ++ cellsOf h.d ++ [.int .i64 h.t]
def scells (s : SgT) : List Value := hcells s.h ++ [.int .i64 s.n] ++ cellsOf s.g
/-- What the parts of a head's row read as. -/
structure HRow (W : World) (g o : Nat) (h : HdT) : Prop where
  r : W.cell? ⟨g, o, none⟩ = some (.int .i64 h.r)
  e : W.cell? ⟨g, o + 1, none⟩ = some (.int .i64 h.e)
  s : W.cell? ⟨g, o + 2, none⟩ = some (.int .i64 h.s)
  d : W.rangeAt g (o + 3) (cellsOf h.d)
  t : W.cell? ⟨g, o + 35, none⟩ = some (.int .i64 h.t)
end Go.Proofs.Ytgkfodmccfnaoaa
