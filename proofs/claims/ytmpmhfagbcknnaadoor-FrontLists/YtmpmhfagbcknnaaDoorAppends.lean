/- A list that can be read, put behind one of the call's own. -/
import Derived.Test.YtmpmhfagbcknnaaDoorSame
namespace Go.Proofs.YtmpmhfagbcknnaaDoor
open Go.RowKit Sums
set_option linter.unusedVariables false
set_option linter.unusedSimpArgs false

theorem append_nothing (w : World) (B : Nat) (v : Value) (n : Nat) (xs : List Value) (cap : Nat) (h : w.ownsRow B 29 32 v n xs) : (Builtin.append_ #[22, 22] 22 #[v, .slice none 0 cap]).run Tryd.prog w = .ok v w := by
  obtain ⟨i0, hi, hz0, hz1, hz2⟩ := info_parts infoD
  rcases h.2 with ⟨rfl, _⟩ | ⟨g, c, cur, rfl, _, _, hnc, _⟩
  · simp [Builtin.append_, run_underlying Tryd.underlying22, sizeOf, typeInfo, hi, Builtin.lenOf, Builtin.firstCells]
  · simp [Builtin.append_, run_underlying Tryd.underlying22, sizeOf, typeInfo, hi, Builtin.lenOf, Builtin.firstCells, hnc, storeCells]

/-- A list that can be read, put behind one of the call's own. -/
theorem append_any (W : World) (B : Nat) (v : Value) (l1 l2 : List (List UInt8)) (hown : W.ownsRow B 29 32 v l1.length (cellsOf l1.flatten)) (a : Option Addr) (len cap : Nat) (hR : LReads W a len cap l2) (hB : B ≤ W.heap.size) (hlen : l1.length + len ≤ 1000000) :
    ∃ v' w', (Builtin.append_ #[22, 22] 22 #[v, .slice a len cap]).run Tryd.prog W = .ok v' w' ∧ w'.ownsRow B 29 32 v' (l1 ++ l2).length (cellsOf (l1 ++ l2).flatten) ∧ Below B W w' := by
  have hl2 := hR.1
  cases a with
  | none =>
    have h0 : len = 0 := by
      rcases hR.2.2.2.2 with h | ⟨g, o, e, _⟩
      · exact h
      · cases e
    subst h0
    have : l2 = [] := List.eq_nil_of_length_eq_zero hl2
    subst this
    rw [List.append_nil]
    exact ⟨v, W, append_nothing W B v _ _ cap hown, hown, Below.refl _ _⟩
  | some ad =>
    obtain ⟨v', w', hr, ho, hg⟩ := run_append_digs W B v l1 l2 hown ad len cap hl2 hR.2.1 (by
      intro j u hj
      have hjl : j < l2.flatten.length := by
        have := (List.getElem?_eq_some_iff.1 hj).1
        rwa [cellsOf_length] at this
      rw [flat_length hR.2.1] at hjl
      rcases hR.2.2.2.2 with h | ⟨g, o, e, hly⟩
      · omega
      · cases e
        rw [add_plain, hly j (by rw [flat_length hR.2.1]; exact hjl)]
        rw [cellsOf_at _ j (by rw [flat_length hR.2.1]; exact hjl)] at hj
        exact hj) hB hlen
    refine ⟨v', w', hr, ?_, (Below.refl _ _).grown hg hB (fun k hk => (hown.lt k hk).1)⟩
    rw [List.length_append, hl2]
    exact ho

end Go.Proofs.YtmpmhfagbcknnaaDoor
