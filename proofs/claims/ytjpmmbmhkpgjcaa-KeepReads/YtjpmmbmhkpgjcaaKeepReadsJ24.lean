/- Texts of our own that the row of KeepReads leans on, part 24. -/
import Derived.Test.YtjpmmbmhkpgjcaaKeepReadsJ15
import Derived.Test.YtjpmmbmhkpgjcaaKeepReadsJ23
import Derived.OneCell

/- Slices of digests in memory, and their parts. -/
namespace Go.Proofs.Ytjpmmbmhkpgjcaa
open Go.RowKit Sums
set_option maxRecDepth 100000
set_option linter.unusedVariables false
set_option linter.unusedSimpArgs false
/-- A slice that reads as these digests. -/
def LReads (w : World) (a : Option Addr) (len cap : Nat) (l : List (List UInt8)) : Prop :=
  l.length = len ∧ Digs32 l ∧ len ≤ cap ∧ len ≤ maxLen ∧ (len = 0 ∨ ∃ g o, a = some ⟨g, o, none⟩ ∧ Lies w g o l.flatten)
theorem lies_lt {w : World} {g o : Nat} {l : List UInt8} (h : Lies w g o l) (hl : 0 < l.length) : g < w.heap.size := World.block_lt_of_cell? _ _ (h 0 hl)
theorem LReads.below {w w' : World} {a : Option Addr} {len cap B : Nat} {l : List (List UInt8)} (h : LReads w a len cap l) (hb : Below B w w') (hB : ∀ g o, a = some ⟨g, o, none⟩ → 0 < len → g < B) : LReads w' a len cap l := by
  obtain ⟨h1, h2, h3, h4, h5⟩ := h
  refine ⟨h1, h2, h3, h4, ?_⟩
  by_cases h0 : len = 0
  · exact .inl h0
  · rcases h5 with h5 | ⟨g, o, ha, hl⟩
    · exact .inl h5
    · exact .inr ⟨g, o, ha, hl.keep hb (hB g o ha (by omega))⟩
theorem LReads.keep {w w' : World} {a : Option Addr} {len cap : Nat} {l : List (List UInt8)} (h : LReads w a len cap l) (hb : Below w.heap.size w w') : LReads w' a len cap l := by
  refine h.below hb fun g o ha h0 => ?_
  obtain ⟨h1, h2, h3, h4, h5⟩ := h
  rcases h5 with h5 | ⟨g', o', ha', hl⟩
  · omega
  · rw [ha] at ha'
    cases ha'
    exact lies_lt hl (by rw [flat_length h2]; omega)
/-- Where one that is not empty lies. -/
theorem LReads.at {w : World} {a : Option Addr} {len cap : Nat} {l : List (List UInt8)} (h : LReads w a len cap l) (h0 : 0 < len) : ∃ g o, a = some ⟨g, o, none⟩ ∧ g < w.heap.size := by
  obtain ⟨h1, h2, h3, h4, h5⟩ := h
  rcases h5 with h5 | ⟨g, o, ha, hl⟩
  · omega
  · exact ⟨g, o, ha, lies_lt hl (by rw [flat_length h2]; omega)⟩
theorem LReads.take {w : World} {g o len cap : Nat} {l : List (List UInt8)} (h : LReads w (some ⟨g, o, none⟩) len cap l) (k : Nat) (hk : k ≤ len) : LReads w (some ⟨g, o, none⟩) k cap (l.take k) := by
  obtain ⟨h1, h2, h3, h4, h5⟩ := h
  refine ⟨by simp; omega, h2.take k, by omega, by omega, ?_⟩
  rcases h5 with h5 | ⟨g', o', ha, hl⟩
  · exact .inl (by omega)
  · cases ha
    refine .inr ⟨_, _, rfl, ?_⟩
    rw [flat_take h2]
    exact hl.take _
theorem LReads.drop {w : World} {g o len cap : Nat} {l : List (List UInt8)} (h : LReads w (some ⟨g, o, none⟩) len cap l) (k : Nat) (hk : k ≤ len) : LReads w (some ⟨g, o + 32 * k, none⟩) (len - k) (cap - k) (l.drop k) := by
  obtain ⟨h1, h2, h3, h4, h5⟩ := h
  refine ⟨by simp; omega, h2.drop k, by omega, by omega, ?_⟩
  rcases h5 with h5 | ⟨g', o', ha, hl⟩
  · exact .inl (by omega)
  · cases ha
    refine .inr ⟨_, _, rfl, ?_⟩
    rw [flat_drop h2]
    exact hl.drop _
/-- The cells of the digest in place i. -/
theorem LReads.range {w : World} {g o len cap : Nat} {l : List (List UInt8)} (h : LReads w (some ⟨g, o, none⟩) len cap l) (i : Nat) (hi : i < l.length) : w.rangeAt g (o + 32 * i) (cellsOf l[i]) := by
  obtain ⟨h1, h2, h3, h4, h5⟩ := h
  intro j v hj
  have h32 := h2 _ (List.getElem_mem hi)
  have hjl : j < l[i].length := by
    have := (List.getElem?_eq_some_iff.1 hj).1
    rwa [cellsOf_length] at this
  rcases h5 with h5 | ⟨g', o', ha, hl⟩
  · omega
  · cases ha
    have hf := flat_length h2
    have hx : 32 * i + j < l.flatten.length := by omega
    have hc := hl (32 * i + j) hx
    rw [Nat.add_assoc, hc]
    rw [cellsOf_at _ j hjl] at hj
    rw [← hj]
    have e := flat_at h2 i hi
    have : l.flatten[32 * i + j] = l[i][j] := by
      have e2 : ((l.flatten.drop (32 * i)).take 32)[j]? = l[i][j]? := by rw [e]
      rw [List.getElem?_take_of_lt (by omega), List.getElem?_drop, List.getElem?_eq_getElem hx, List.getElem?_eq_getElem hjl] at e2
      exact Option.some.inj e2
    rw [this]
end Go.Proofs.Ytjpmmbmhkpgjcaa

/- What tree.parted and tree.Root answer. -/
namespace Go.Proofs.Ytjpmmbmhkpgjcaa
open Go.RowKit Sums
set_option maxRecDepth 100000
set_option linter.unusedVariables false
set_option linter.unusedSimpArgs false

end Go.Proofs.Ytjpmmbmhkpgjcaa

/- Lists of digests that grow: an append, and a variable that holds one. -/
namespace Go.Proofs.Ytjpmmbmhkpgjcaa
open Go.RowKit Sums
set_option maxRecDepth 100000
set_option linter.unusedVariables false
set_option linter.unusedSimpArgs false
/-- A function's value is written into a variable. -/
theorem store_func (P : Program) (w : World) (a : Addr) (m : Mode) (f : Fn) (first cap : Array Value) : (store a (.func f first cap) m).run P w = stored P w a (.func f first cap) m := run_store P w a _ m rfl
end Go.Proofs.Ytjpmmbmhkpgjcaa

/- Lists of the call's own: an append in a plain region; such a list can be read. -/
namespace Go.Proofs.Ytjpmmbmhkpgjcaa
open Go.RowKit Sums
set_option maxRecDepth 100000
set_option linter.unusedVariables false
set_option linter.unusedSimpArgs false
/-- A list of the call's own can be read. -/
theorem LReads.own {w : World} {B : Nat} {v : Value} {l : List (List UInt8)} (h : w.ownsRow B 30 32 v l.length (cellsOf l.flatten)) (hd : Digs32 l) : ∃ a cap, v = .slice a l.length cap ∧ LReads w a l.length cap l ∧ (∀ g o, a = some ⟨g, o, none⟩ → B ≤ g) := by
  rcases h.2 with ⟨rfl, h0⟩ | ⟨g, cap, cur, rfl, hb, hg, hc, hm, hs, ht⟩
  · exact ⟨none, 0, by rw [h0], ⟨rfl, hd, by omega, by omega, .inl h0⟩, fun g o e => by cases e⟩
  · refine ⟨some ⟨g, 0, none⟩, cap, rfl, ⟨rfl, hd, hc, by omega, .inr ⟨g, 0, rfl, fun i hi => ?_⟩⟩, fun g' o' e => by cases e; exact hb⟩
    rw [Nat.zero_add, cell_of_row w g i cur 30 (0, 0) hg]
    have hfl := flat_length hd
    have e : (cellsOf l.flatten)[i]? = cur.toList[i]? := by
      rw [← ht, List.getElem?_take, if_pos (by omega)]
    rw [cellsOf_at _ i hi] at e
    simpa using e.symm
end Go.Proofs.Ytjpmmbmhkpgjcaa

/- What the statements' Digests answers. -/
namespace Go.Proofs.Ytjpmmbmhkpgjcaa
open Go.RowKit Sums
set_option maxRecDepth 100000
set_option linter.unusedVariables false
set_option linter.unusedSimpArgs false

end Go.Proofs.Ytjpmmbmhkpgjcaa

/- What the document's Split and Root answer. -/
namespace Go.Proofs.Ytjpmmbmhkpgjcaa
open Go.RowKit Sums
set_option maxRecDepth 100000
set_option linter.unusedVariables false
set_option linter.unusedSimpArgs false

end Go.Proofs.Ytjpmmbmhkpgjcaa
