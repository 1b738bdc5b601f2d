/- Texts of our own that the row of ClaimsMeet leans on, part 31. -/
import Derived.Test.YtieklabpdalahaaClaimsMeetJ23
import Derived.Test.YtieklabpdalahaaClaimsMeetJ29
import Derived.Deep.Slices

/- Addresses that came in, one and a slice of them. -/
namespace Go.Proofs.Ytieklabpdalahaa
open Go.RowKit Sums Nums Go.ChangeShapes
set_option linter.unusedVariables false
set_option linter.unusedSimpArgs false
set_option maxRecDepth 100000
variable {H : Type} {enc : TypeId × Value → H} {W : World} {base : Nat} {sp : Nat → Bool} {held : Bool} {fuel : Nat} {x : DataW H × List MemPlace}
theorem in64_wf {z : Int} (h : (Lit.int .i64 z).wf = true) : In64 z := by
  have e1 : IntKind.i64.min = -9223372036854775808 := rfl
  have e2 : IntKind.i64.max = 9223372036854775807 := rfl
  simp [Lit.wf, e1, e2] at h
  unfold In64
  omega
theorem open_ad_cells {cs : List Value} (hf : DataW.trod enc Try.prog W base sp held fuel 40 cs = some x) : ∃ a : AdT, InA a ∧ cs = acells a := by
  obtain ⟨xs, m, rfl, _, hl, hx, hall⟩ := DataW.trod_struct Try.underlying40 hf
  have h1 : Try.prog.cellsOf 3 = 1 := by kernel_rfl
  have h2 : Try.prog.cellsOf 40 = 2 := by kernel_rfl
  rw [h2] at hl
  match cs, hl with
  | [v0, v1], _ =>
    match xs, hx with
    | [y0, y1], _ =>
      have f0 : DataW.trod enc Try.prog W base sp held m 3 (([v0, v1].drop 0).take (Try.prog.cellsOf 3)) = some y0 := hall 0 _ rfl
      have f1 : DataW.trod enc Try.prog W base sp held m 3 (([v0, v1].drop 1).take (Try.prog.cellsOf 3)) = some y1 := hall 1 _ rfl
      rw [h1] at f0 f1
      obtain ⟨z0, e0, _, w0⟩ := DataW.trod_int Try.underlying3 f0
      obtain ⟨z1, e1, _, w1⟩ := DataW.trod_int Try.underlying3 f1
      obtain rfl : v0 = .int .i64 z0 := by simpa using e0
      obtain rfl : v1 = .int .i64 z1 := by simpa using e1
      exact ⟨⟨z0, z1⟩, ⟨in64_wf w0, in64_wf w1⟩, rfl⟩
theorem open_ads {a : Option Addr} {len cap : Nat} {d : DataW H} {p : List MemPlace} (h : DataW.Trod enc Try.prog W base sp held 38 (.slice a len cap) d p) : ∃ l, AReads W a len cap l ∧ (a = none → cap = 0) ∧ ∀ x ∈ l, InA x := by
  obtain ⟨fuel, hf⟩ := h
  have h2 : Try.prog.cellsOf 40 = 2 := by kernel_rfl
  rcases Deep.open_slice Try.underlying38 hf with ⟨hcs, _⟩ | ⟨ad, len', cap', m, n, D, Pl, hcs, _, hl, hm, hmm, _, hx⟩
  · simp [Value.cells] at hcs
    obtain ⟨rfl, rfl, rfl⟩ := hcs
    exact ⟨[], adreads_none W, fun _ => rfl, fun o ho => by cases ho⟩
  · simp [Value.cells] at hcs
    obtain ⟨rfl, rfl, rfl⟩ := hcs
    have hlm : len ≤ m := by rw [hmm]; split <;> omega
    have each : ∀ i, i < len → ∃ o : AdT, InA o ∧ ∀ j v, (acells o)[j]? = some v → W.cell? (ad.add (i * 2 + j)) = some v := by
      intro i hi
      obtain ⟨cs', c1, c2⟩ := hx i (by omega)
      rw [h2] at c1
      obtain ⟨_, hlen, hcell⟩ := World.cells?_some c1
      obtain ⟨o, ho, rfl⟩ := open_ad_cells c2
      refine ⟨o, ho, fun j v hj => ?_⟩
      have hj' : j < (acells o).length := (List.getElem?_eq_some_iff.1 hj).1
      have e0 := hcell j (by rw [acells_length _ trivial] at hj'; omega)
      rw [Deep.add_add] at e0
      rw [e0]
      simpa using hj
    haveI : Inhabited AdT := ⟨⟨0, 0⟩⟩
    obtain ⟨F, hF⟩ := Deep.choose_lt each
    refine ⟨(List.range len).map F, ⟨by simp, hl, by unfold maxLen at hm ⊢; omega, fun _ _ => trivial, ?_⟩, (fun e => by cases e), ?_⟩
    · by_cases h0 : len = 0
      · exact .inl h0
      · have hc := (hF 0 (by omega)).2 0 _ rfl
        obtain ⟨b, off, spot⟩ := ad
        have hspot : spot = none := by simpa [Addr.add] using World.cell?_spot hc
        subst hspot
        refine .inr ⟨b, off, rfl, fun i hi j v hj => ?_⟩
        have hi' : i < len := by simpa using hi
        simp only [List.getElem_map, List.getElem_range] at hj
        have := (hF i hi').2 j v hj
        rw [add_plain] at this
        rw [← this]
        congr 2
        omega
    · intro o ho
      obtain ⟨i, hi, rfl⟩ := List.mem_map.1 ho
      exact (hF i (List.mem_range.1 hi)).1
end Go.Proofs.Ytieklabpdalahaa
