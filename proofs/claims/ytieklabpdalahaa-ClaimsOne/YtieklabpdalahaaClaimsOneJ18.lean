/- Texts of our own that the row of ClaimsOne leans on, part 18. -/
import Derived.Test.YtieklabpdalahaaClaimsOneJ15
import Derived.Test.YtieklabpdalahaaClaimsOneJ16
import Derived.Test.YtieklabpdalahaaClaimsOneJ17

/- What the document's Digest and Row answer. -/
namespace Go.Proofs.Ytieklabpdalahaa
open Go.RowKit Sums Nums
set_option linter.unusedVariables false
set_option linter.unusedSimpArgs false
set_option maxRecDepth 100000

end Go.Proofs.Ytieklabpdalahaa

/- What the document's Bytes, May, BytesSigned and Tag answer. -/
namespace Go.Proofs.Ytieklabpdalahaa
open Go.RowKit Sums Nums
set_option linter.unusedVariables false
set_option linter.unusedSimpArgs false
set_option maxRecDepth 100000
theorem cell_keep {W W' : World} {p : Addr} {v : Value} (hb : Below W.heap.size W W') (h : W.cell? p = some v) : W'.cell? p = some v := by
  rw [hb.cell (World.block_lt_of_cell? _ _ h)]; exact h
theorem HRow.keep {W W' : World} {g o : Nat} {h : HdT} (hr : HRow W g o h) (hb : Below W.heap.size W W') : HRow W' g o h :=
  ⟨cell_keep hb hr.r, cell_keep hb hr.e, cell_keep hb hr.s, range_keep hb hr.d, cell_keep hb hr.t⟩
end Go.Proofs.Ytieklabpdalahaa

/- What the document's May, BytesSigned, PutSigned and Tag answer. -/
namespace Go.Proofs.Ytieklabpdalahaa
open Go.RowKit Sums Nums
set_option linter.unusedVariables false
set_option linter.unusedSimpArgs false
set_option maxRecDepth 100000
/-- What the parts of a signed head's row read as. -/
structure SRow (W : World) (g o : Nat) (s : SgT) : Prop where
  h : W.rangeAt g o (hcells s.h)
  n : W.cell? ⟨g, o + 36, none⟩ = some (.int .i64 s.n)
  g : W.rangeAt g (o + 37) (cellsOf s.g)
theorem SRow.keep {W W' : World} {g o : Nat} {s : SgT} (hr : SRow W g o s) (hb : Below W.heap.size W W') : SRow W' g o s := ⟨range_keep hb hr.h, cell_keep hb hr.n, range_keep hb hr.g⟩
end Go.Proofs.Ytieklabpdalahaa

/- Structs of numbers and digests: heads and signed heads, built and compared. -/
namespace Go.Proofs.Ytieklabpdalahaa
open Go.RowKit Sums Nums
set_option linter.unusedVariables false
set_option linter.unusedSimpArgs false
set_option maxRecDepth 100000
theorem fold_set (D : List Value) : ∀ (k off : Nat) (cs : Array Value) (pre old rest : List Value), cs.toList = pre ++ old ++ rest → pre.length = off + k → old.length = D.length →
    ((D.zipIdx k).foldl (fun cs (c, j) => cs.setIfInBounds (off + j) c) cs).toList = pre ++ D ++ rest := by
  induction D with
  | nil =>
    intro k off cs pre old rest h hp ho
    have : old = [] := List.eq_nil_of_length_eq_zero ho
    subst this
    simpa using h
  | cons d D ih =>
    intro k off cs pre old rest h hp ho
    match old, ho with
    | x :: old, ho =>
      rw [List.zipIdx_cons, List.foldl_cons]
      have := ih (k + 1) off (cs.setIfInBounds (off + k) d) (pre ++ [d]) old rest (by
        rw [Array.toList_setIfInBounds, h, ← hp]
        simp) (by simp; omega) (by simpa using ho)
      rw [this]
      simp
end Go.Proofs.Ytieklabpdalahaa

/- What the document's Tag, Sign and Verify answer. -/
namespace Go.Proofs.Ytieklabpdalahaa
open Go.RowKit Sums Nums
set_option linter.unusedVariables false
set_option linter.unusedSimpArgs false
set_option maxRecDepth 100000

end Go.Proofs.Ytieklabpdalahaa
