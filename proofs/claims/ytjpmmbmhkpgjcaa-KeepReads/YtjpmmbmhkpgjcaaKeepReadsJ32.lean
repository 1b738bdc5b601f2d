/- Texts of our own that the row of KeepReads leans on, part 32. -/
import Derived.Test.YtjpmmbmhkpgjcaaKeepReadsJ25
import Derived.Test.YtjpmmbmhkpgjcaaKeepReadsJ31
import Derived.Deep.Slices

/- A slice of items that came in. -/
namespace Go.Proofs.Ytjpmmbmhkpgjcaa
open Go.RowKit Nums Go.ChangeShapes
set_option linter.unusedVariables false
set_option linter.unusedSimpArgs false
set_option maxRecDepth 100000
variable {H : Type} {enc : TypeId × Value → H} {W : World} {base : Nat} {sp : TypeId → Bool} {held : Bool} {fuel : Nat} {x : DataW H × List MemPlace}
theorem CmI.ok {z : ItT} (h : CmI z) : OkE z.e := ⟨h.e.h.h.d, h.e.h.g, h.e.m.d⟩
theorem open_items {a : Option Addr} {len cap : Nat} {d : DataW H} {p : List MemPlace} (h : DataW.Trod enc Try.prog W base sp held 22 (.slice a len cap) d p) : ∃ l, IReads W a len cap l ∧ (a = none → cap = 0) ∧ ∀ x ∈ l, CmI x := by
  obtain ⟨fuel, hf⟩ := h
  have h110 : Try.prog.cellsOf 40 = 110 := by kernel_rfl
  rcases Deep.open_slice Try.underlying22 hf with ⟨hcs, _⟩ | ⟨ad, len', cap', m, n, D, Pl, hcs, _, hl, hm, hmm, _, hx⟩
  · simp [Value.cells] at hcs
    obtain ⟨rfl, rfl, rfl⟩ := hcs
    exact ⟨[], ireads_none W, fun _ => rfl, fun o ho => by cases ho⟩
  · simp [Value.cells] at hcs
    obtain ⟨rfl, rfl, rfl⟩ := hcs
    have hlm : len ≤ m := by rw [hmm]; split <;> omega
    have each : ∀ i, i < len → ∃ o : ItT, CmI o ∧ ∀ j v, (icells o)[j]? = some v → W.cell? (ad.add (i * 110 + j)) = some v := by
      intro i hi
      obtain ⟨cs', c1, c2⟩ := hx i (by omega)
      rw [h110] at c1
      obtain ⟨_, hlen, hcell⟩ := World.cells?_some c1
      obtain ⟨o, ho, rfl⟩ := open_item_cells c2
      refine ⟨o, ho, fun j v hj => ?_⟩
      have hj' : j < (icells o).length := (List.getElem?_eq_some_iff.1 hj).1
      have e0 := hcell j (by rw [icells_length _ ho.ok] at hj'; omega)
      rw [Deep.add_add] at e0
      rw [e0]
      simpa using hj
    haveI : Inhabited ItT := ⟨⟨0, zeroE⟩⟩
    obtain ⟨F, hF⟩ := Deep.choose_lt each
    refine ⟨(List.range len).map F, ⟨by simp, hl, by unfold maxLen at hm ⊢; omega, ?_, ?_⟩, (fun e => by cases e), ?_⟩
    · intro o ho
      obtain ⟨i, hi, rfl⟩ := List.mem_map.1 ho
      exact (hF i (List.mem_range.1 hi)).1.ok
    · by_cases h0 : len = 0
      · exact .inl h0
      · have hc := (hF 0 (by omega)).2 0 _ (icells_p _)
        obtain ⟨b, off, spot⟩ := ad
        have hspot : spot = none := by simpa [Addr.add] using World.cell?_spot hc
        subst hspot
        refine .inr ⟨b, off, rfl, fun i hi j v hj => ?_⟩
        have hi' : i < len := by simpa using hi
        simp only [List.getElem_map, List.getElem_range] at hj
        have := (hF i hi').2 j v hj
        rw [add_plain] at this
        rw [← this]
        congr 2
        omega
    · intro o ho
      obtain ⟨i, hi, rfl⟩ := List.mem_map.1 ho
      exact (hF i (List.mem_range.1 hi)).1
end Go.Proofs.Ytjpmmbmhkpgjcaa
