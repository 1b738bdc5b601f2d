/- Texts of our own that the row of TopSigned leans on, part 28. -/
import Derived.Test.YtdnhnjimhbbababDoorTopSignedJ7
import Derived.Test.YtdnhnjimhbbababDoorTopSignedJ25
import Derived.SliceStrings

/- A slice of texts that came in can be read. -/
namespace Go.Proofs.YtdnhnjimhbbababDoor
open Go.RowKit Go.ChangeShapes Go.WideShapes
set_option maxRecDepth 100000
theorem open_texts {H : Type} {enc : TypeId × Value → H} {W : World} {a : Option Addr} {len cap : Nat} {d : DataW H} {p : List MemPlace} (h : DataW.Trod enc Tryd.prog W 0 (fun _ => true) true 22 (.slice a len cap) d p) :
    ∃ ss : List ByteArray, Texts W a len ss ∧ (∀ s ∈ ss, s.size ≤ maxLen) ∧ len ≤ maxLen := by
  obtain ⟨fuel, hf⟩ := h
  rcases open_strings Tryd.underlying22 Tryd.underlying9 (show Tryd.prog.cellsOf 9 = 1 by kernel_rfl) hf with ⟨hcs, _⟩ | ⟨a', len', cap', ss, hcs, _, hl, hm, hz, _, hcell, hsz⟩
  · simp [Value.cells] at hcs
    obtain ⟨rfl, rfl, rfl⟩ := hcs
    exact ⟨[], ⟨rfl, .inl rfl⟩, fun s hs => by simp at hs, Nat.zero_le _⟩
  · simp [Value.cells] at hcs
    obtain ⟨rfl, rfl, rfl⟩ := hcs
    simp only [if_true] at hz
    obtain ⟨b, off, spot⟩ := a'
    refine ⟨ss.take len, ⟨by simp; omega, ?_⟩, fun s hs => hsz s (List.mem_of_mem_take hs), by omega⟩
    by_cases h0 : len = 0
    · exact .inl h0
    · have hspot : spot = none := by simpa [Addr.add] using World.cell?_spot (hcell 0 (by omega))
      subst hspot
      refine .inr ⟨b, off, rfl, ?_, fun i hi => ?_⟩
      · have := World.block_lt_of_cell? _ _ (hcell 0 (by omega))
        rw [add_plain] at this
        exact this
      · have hi' : i < ss.length := by simp at hi; omega
        have := hcell i hi'
        rw [add_plain] at this
        rw [this]
        simp [List.getD, List.getElem?_eq_getElem hi']
end Go.Proofs.YtdnhnjimhbbababDoor
