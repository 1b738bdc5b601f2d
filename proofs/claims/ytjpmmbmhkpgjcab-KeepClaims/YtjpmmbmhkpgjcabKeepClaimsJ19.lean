/- Texts of our own that the row of KeepClaims leans on, part 19. -/
import Derived.Test.YtjpmmbmhkpgjcabKeepClaimsJ3
import Derived.Test.YtjpmmbmhkpgjcabKeepClaimsJ9
import Derived.Test.YtjpmmbmhkpgjcabKeepClaimsJ17
import Derived.RangeFuncNested
import Derived.RangeFuncBound
import Derived.RangeFuncCalls
import Derived.RangeFuncLeaves
import Derived.RangeFuncBox
import Derived.Shelf.Abstract
import Derived.Shelf.RegionOpen
import Derived.WalkKit
import Derived.OwnWalkIn
import Derived.TacticsInMore
import Derived.LoopNIn
import Derived.LoopIn
import Derived.Deep.RegionHeld3

/- The iterator of pack.judged: each field of a row with what is wrong with it where it stands. -/
namespace Go.Proofs.Ytjpmmbmhkpgjcab
open Go.RowKit Go.Shelf Nums
set_option maxRecDepth 100000

attribute [local go_sem] Oper.semAt_some
/-- A slice of fields that can be read: its fields are fs. -/
def FReads (n₀ : Nat) (w : World) (a : Option Addr) (len cap : Nat) (fs : List (Int × ByteArray)) : Prop :=
  fs.length = len ∧ len ≤ cap ∧ cap ≤ 9223372036854775807 ∧ (∀ f ∈ fs, f.2.size ≤ maxLen) ∧
  ((a = none ∧ cap = 0) ∨ (∃ ad, a = some ad ∧ len = 0) ∨ ∃ b off, a = some ⟨b, off, none⟩ ∧ b < n₀ ∧ ∀ (i : Nat) (h : i < fs.length), w.cell? ⟨b, off + i * 2, none⟩ = some (.int .i64 fs[i].1) ∧ w.cell? ⟨b, off + i * 2 + 1, none⟩ = some (.string fs[i].2))
theorem FReads.below {n₀ : Nat} {A B : World} (h : Below n₀ A B) {a : Option Addr} {len cap : Nat} {fs : List (Int × ByteArray)} (hr : FReads n₀ A a len cap fs) : FReads n₀ B a len cap fs := by
  obtain ⟨h1, h2, h3, h4, h5⟩ := hr
  refine ⟨h1, h2, h3, h4, ?_⟩
  rcases h5 with h5 | h5 | ⟨b, off, e, hb, hc⟩
  · exact .inl h5
  · exact .inr (.inl h5)
  · exact .inr (.inr ⟨b, off, e, hb, fun i hi => ⟨(h.cell (p := ⟨b, off + i * 2, none⟩) hb).trans (hc i hi).1, (h.cell (p := ⟨b, off + i * 2 + 1, none⟩) hb).trans (hc i hi).2⟩⟩)
end Go.Proofs.Ytjpmmbmhkpgjcab

/- The iterator of pack.parsed: the fields that bytes are made of, each with what is wrong with it. -/
namespace Go.Proofs.Ytjpmmbmhkpgjcab
open Go.RowKit Go.Shelf Nums
set_option maxRecDepth 100000

attribute [local go_sem] Oper.semAt_some
/-- Bytes that can be read, in a block below n₀. -/
def PReads (n₀ : Nat) (w : World) (a : Option Addr) (len cap : Nat) (l : List UInt8) : Prop :=
  l.length = len ∧ len ≤ cap ∧ cap ≤ 9223372036854775807 ∧
  ((a = none ∧ cap = 0) ∨ (∃ ad, a = some ad ∧ len = 0) ∨ ∃ b off, a = some ⟨b, off, none⟩ ∧ b < n₀ ∧ ∀ (i : Nat) (h : i < l.length), w.cell? ⟨b, off + i, none⟩ = some (.int .u8 l[i].toNat))
theorem PReads.below {n₀ : Nat} {A B : World} (h : Below n₀ A B) {a : Option Addr} {len cap : Nat} {l : List UInt8} (hr : PReads n₀ A a len cap l) : PReads n₀ B a len cap l := by
  obtain ⟨h1, h2, h3, h5⟩ := hr
  refine ⟨h1, h2, h3, ?_⟩
  rcases h5 with h5 | h5 | ⟨b, off, e, hb, hc⟩
  · exact .inl h5
  · exact .inr (.inl h5)
  · exact .inr (.inr ⟨b, off, e, hb, fun i hi => (h.cell (p := ⟨b, off + i, none⟩) hb).trans (hc i hi)⟩)
theorem PReads.reads {n₀ : Nat} {A : World} {a : Option Addr} {len cap : Nat} {l : List UInt8} (hr : PReads n₀ A a len cap l) (hn : n₀ ≤ A.heap.size) : Reads A a len cap l := by
  obtain ⟨h1, h2, h3, h5⟩ := hr
  refine ⟨h1, h2, h3, ?_⟩
  rcases h5 with h5 | h5 | ⟨b, off, e, hb, hc⟩
  · exact .inl h5
  · exact .inr (.inl h5)
  · exact .inr (.inr ⟨b, off, e, Nat.lt_of_lt_of_le hb hn, hc⟩)
/-- The rest behind the first n bytes. -/
theorem PReads.drop {n₀ : Nat} {A : World} {b off len cap n : Nat} {l : List UInt8} (hr : PReads n₀ A (some ⟨b, off, none⟩) len cap l) (hn : n ≤ len) (h0 : 0 < len) :
    PReads n₀ A (if cap = n then some ⟨b, off, none⟩ else some ⟨b, off + n, none⟩) (len - n) (cap - n) (l.drop n) := by
  obtain ⟨h1, h2, h3, h5⟩ := hr
  refine ⟨by rw [List.length_drop]; omega, by omega, by omega, ?_⟩
  rcases h5 with ⟨h, _⟩ | ⟨_, _, h⟩ | ⟨b', off', e, hb, hc⟩
  · cases h
  · omega
  · cases e
    by_cases hcn : cap = n
    · rw [if_pos hcn]; exact .inr (.inl ⟨_, rfl, by omega⟩)
    · rw [if_neg hcn]
      refine .inr (.inr ⟨b, off + n, rfl, hb, fun i hi => ?_⟩)
      have := hc (n + i) (by rw [List.length_drop] at hi; omega)
      rw [← Nat.add_assoc] at this
      rw [this, List.getElem_drop]
end Go.Proofs.Ytjpmmbmhkpgjcab

/- pack.parsed goes through the fields that bytes are made of: all, or a part where a round says no more. -/
namespace Go.Proofs.Ytjpmmbmhkpgjcab
open Go.RowKit Go.Shelf Nums
set_option maxRecDepth 100000

attribute [local go_sem] Oper.semAt_some

end Go.Proofs.Ytjpmmbmhkpgjcab

/- What pack.Lay answers: the bytes of a row's fields, or the first field's fault. -/
namespace Go.Proofs.Ytjpmmbmhkpgjcab
open Go.RowKit Go.Shelf Nums
set_option maxRecDepth 100000

attribute [local go_sem] Oper.semAt_some
/-- A block of cells stays under the turn of a block that is none. -/
theorem cells_stay {W W' : World} {row : Option Nat} {b : Nat} {c : Array Value} {t : TypeId} {m : Nat × Nat} (h : W.heap[b]? = some (.cells c t m)) (hg : W.grownBy W' row) (hr : ∀ r, row = some r → ∃ o : Obj, W.heap[r]? = some o ∧ o.isCells = false) :
    W'.heap[b]? = some (.cells c t m) := by
  refine (hg.block b (Array.getElem?_eq_some_iff.1 h).1 ?_).trans h
  intro e
  obtain ⟨o, ho, hc⟩ := hr b e.symm
  rw [h] at ho; cases ho; cases hc
theorem set_other {W : World} {B B' : Nat} {c : Array Value} {t : TypeId} {m : Nat × Nat} (h : W.heap[B]? = some (.cells c t m)) (hne : B ≠ B') (v : Value) : (W.setCell ⟨B', 0, none⟩ v).heap[B]? = some (.cells c t m) :=
  (Below.heap_setCell W ⟨B', 0, none⟩ v B hne).trans h
end Go.Proofs.Ytjpmmbmhkpgjcab

/- What pack.Read answers: the row of fields that bytes are made of, or what is wrong first. -/
namespace Go.Proofs.Ytjpmmbmhkpgjcab
open Go.RowKit Go.Shelf Nums
set_option maxRecDepth 100000

attribute [local go_sem] Oper.semAt_some

end Go.Proofs.Ytjpmmbmhkpgjcab

/- What Lay and Read answer, as plain functions; pack.Lay and pack.Read answer so. -/
namespace Go.Proofs.Ytjpmmbmhkpgjcab
open Go.RowKit Go.Shelf Nums
set_option maxRecDepth 100000

end Go.Proofs.Ytjpmmbmhkpgjcab

/- What the document's own Read answers: the same as readE, readF tell. -/
namespace Go.Proofs.Ytjpmmbmhkpgjcab
open Go.RowKit Nums
set_option maxRecDepth 100000

end Go.Proofs.Ytjpmmbmhkpgjcab

/- The examples of the document for rows hold, whatever the world. -/
namespace Go.Proofs.Ytjpmmbmhkpgjcab
open Go.RowKit Nums
set_option maxRecDepth 100000

end Go.Proofs.Ytjpmmbmhkpgjcab

/- What the document's own Lay answers: the same as layE, rowOf tell. -/
namespace Go.Proofs.Ytjpmmbmhkpgjcab
open Go.RowKit Nums
set_option maxRecDepth 100000

end Go.Proofs.Ytjpmmbmhkpgjcab
