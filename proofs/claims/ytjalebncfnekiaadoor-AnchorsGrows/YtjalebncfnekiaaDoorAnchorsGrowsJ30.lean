/- Texts of our own that the row of AnchorsGrows leans on, part 30. -/
import Derived.Test.YtjalebncfnekiaaDoorAnchorsGrowsJ25
import Derived.Test.YtjalebncfnekiaaDoorAnchorsGrowsJ28
import Derived.Test.YtjalebncfnekiaaDoorAnchorsGrowsJ29
import Derived.Deep.Slices
/- A slice of items that came in. -/
namespace Go.Proofs.YtjalebncfnekiaaDoor
open Go.RowKit Nums Go.ChangeShapes
set_option linter.unusedVariables false
set_option linter.unusedSimpArgs false
set_option maxRecDepth 100000
variable {H : Type} {enc : TypeId × Value → H} {W : World} {base : Nat} {sp : TypeId → Bool} {held : Bool} {fuel : Nat} {x : DataW H × List MemPlace}
theorem CmI.ok {z : ItT} (h : CmI z) : OkE z.e := ⟨h.e.h.h.d, h.e.h.g, h.e.m.d⟩
theorem open_items {a : Option Addr} {len cap : Nat} {d : DataW H} {p : List MemPlace} (h : DataW.Trod enc Tryd.prog W base sp held 22 (.slice a len cap) d p) : ∃ l, IReads W a len cap l ∧ (a = none → cap = 0) ∧ ∀ x ∈ l, CmI x := by
  obtain ⟨fuel, hf⟩ := h
  have h110 : Tryd.prog.cellsOf 48 = 110 := by kernel_rfl
  rcases Deep.open_slice Tryd.underlying22 hf with ⟨hcs, _⟩ | ⟨ad, len', cap', m, n, D, Pl, hcs, _, hl, hm, hmm, _, hx⟩
  · simp [Value.cells] at hcs
    obtain ⟨rfl, rfl, rfl⟩ := hcs
    exact ⟨[], ireads_none W, fun _ => rfl, fun o ho => by cases ho⟩
  · simp [Value.cells] at hcs
    obtain ⟨rfl, rfl, rfl⟩ := hcs
    have hlm : len ≤ m := by rw [hmm]; split <;> omega
    have each : ∀ i, i < len → ∃ o : ItT, CmI o ∧ ∀ j v, (icells o)[j]? = some v → W.cell? (ad.add (i * 110 + j)) = some v := by
      intro i hi
      obtain ⟨cs', c1, c2⟩ := hx i (by omega)
      rw [h110] at c1
      obtain ⟨_, hlen, hcell⟩ := World.cells?_some c1
      obtain ⟨o, ho, rfl⟩ := open_item_cells c2
      refine ⟨o, ho, fun j v hj => ?_⟩
      have hj' : j < (icells o).length := (List.getElem?_eq_some_iff.1 hj).1
      have e0 := hcell j (by rw [icells_length _ ho.ok] at hj'; omega)
      rw [Deep.add_add] at e0
      rw [e0]
      simpa using hj
    haveI : Inhabited ItT := ⟨⟨0, zeroE⟩⟩
    obtain ⟨F, hF⟩ := Deep.choose_lt each
    refine ⟨(List.range len).map F, ⟨by simp, hl, by unfold maxLen at hm ⊢; omega, ?_, ?_⟩, (fun e => by cases e), ?_⟩
    · intro o ho
      obtain ⟨i, hi, rfl⟩ := List.mem_map.1 ho
      exact (hF i (List.mem_range.1 hi)).1.ok
    · by_cases h0 : len = 0
      · exact .inl h0
      · have hc := (hF 0 (by omega)).2 0 _ (icells_p _)
        obtain ⟨b, off, spot⟩ := ad
        have hspot : spot = none := by simpa [Addr.add] using World.cell?_spot hc
        subst hspot
        refine .inr ⟨b, off, rfl, fun i hi j v hj => ?_⟩
        have hi' : i < len := by simpa using hi
        simp only [List.getElem_map, List.getElem_range] at hj
        have := (hF i hi').2 j v hj
        rw [add_plain] at this
        rw [← this]
        congr 2
        omega
    · intro o ho
      obtain ⟨i, hi, rfl⟩ := List.mem_map.1 ho
      exact (hF i (List.mem_range.1 hi)).1
end Go.Proofs.YtjalebncfnekiaaDoor
/- A number that came in. -/
namespace Go.Proofs.YtjalebncfnekiaaDoor
open Go.RowKit Nums
set_option maxRecDepth 100000
theorem in64_of {z : Int} (h : (Lit.int .i64 z).wf = true) : In64 z := by
  have e1 : IntKind.i64.min = -9223372036854775808 := rfl
  have e2 : IntKind.i64.max = 9223372036854775807 := rfl
  simp [Lit.wf, e1, e2] at h
  unfold In64
  omega
end Go.Proofs.YtjalebncfnekiaaDoor
/- A slice of numbers that came in. -/
namespace Go.Proofs.YtjalebncfnekiaaDoor
open Go.RowKit Nums
set_option linter.unusedVariables false
set_option linter.unusedSimpArgs false
set_option maxRecDepth 100000
structure NReads (w : World) (a : Option Addr) (len cap : Nat) (l : List Int) : Prop where
  ln : l.length = len
  cp : len ≤ cap
  mx : cap ≤ 9223372036854775807
  its : ∀ x ∈ l, In64 x
  lies : len = 0 ∨ ∃ g o, a = some ⟨g, o, none⟩ ∧ g < w.heap.size ∧ ∀ (i : Nat) (h : i < l.length), w.cell? ⟨g, o + i, none⟩ = some (.int .i64 l[i])
theorem NReads.keep {w w' : World} {a : Option Addr} {len cap : Nat} {l : List Int} (h : NReads w a len cap l) (hb : Below w.heap.size w w') : NReads w' a len cap l := by
  refine ⟨h.ln, h.cp, h.mx, h.its, ?_⟩
  rcases h.lies with h5 | ⟨g, o, ha, hg, hl⟩
  · exact .inl h5
  · exact .inr ⟨g, o, ha, Nat.lt_of_lt_of_le hg hb.size, fun i hi => (hb.cell (p := ⟨g, o + i, none⟩) hg).trans (hl i hi)⟩
theorem NReads.at {w : World} {a : Option Addr} {len cap : Nat} {l : List Int} (h : NReads w a len cap l) (h0 : 0 < len) : ∃ g o, a = some ⟨g, o, none⟩ ∧ g < w.heap.size := by
  rcases h.lies with h5 | ⟨g, o, ha, hg, _⟩
  · omega
  · exact ⟨g, o, ha, hg⟩
theorem NReads.cell {w : World} {g o len cap : Nat} {l : List Int} (h : NReads w (some ⟨g, o, none⟩) len cap l) (i : Nat) (hi : i < l.length) : w.cell? ⟨g, o + i, none⟩ = some (.int .i64 l[i]) := by
  have h1 := h.ln
  rcases h.lies with h5 | ⟨g', o', ha, _, hl⟩
  · omega
  · cases ha
    exact hl i hi
theorem index_num (W : World) (g o len cap i : Nat) (hi : i < len) : (Instr.indexAt 53 (.slice (some ⟨g, o, none⟩) len cap) (.int .i64 i)).run Tryd.prog W = .ok (.pointer (some ⟨g, o + i, none⟩)) W := by
  simp [Instr.indexAt, asIntOf, run_underlying Tryd.underlying53, sizeOf3, hi]
  rw [add_plain]
theorem open_nums {H : Type} {enc : TypeId × Value → H} {W : World} {base : Nat} {held : Bool} {a : Option Addr} {len cap : Nat} {d : DataW H} {p : List MemPlace}
    (h : DataW.Trod enc Tryd.prog W base (fun _ => true) held 53 (.slice a len cap) d p) : ∃ l, NReads W a len cap l := by
  obtain ⟨fuel, hf⟩ := h
  rcases Go.ChangeShapes.open_ints Tryd.underlying53 Tryd.underlying3 (by kernel_rfl) hf with ⟨hcs, _⟩ | ⟨x, l, c, zs, hcs, _, hl, hm, hz, _, hcell, hwz⟩
  · simp [Value.cells] at hcs
    obtain ⟨rfl, rfl, rfl⟩ := hcs
    exact ⟨[], rfl, Nat.le_refl _, Nat.zero_le _, (fun x hx => by cases hx), .inl rfl⟩
  · simp [Value.cells] at hcs
    obtain ⟨rfl, rfl, rfl⟩ := hcs
    have hz' : zs.length = cap := by simpa using hz
    refine ⟨zs.take len, by rw [List.length_take]; omega, hl, by unfold maxLen at hm; omega, fun y hy => in64_of (hwz y (List.mem_of_mem_take hy)), ?_⟩
    by_cases h0 : len = 0
    · exact .inl h0
    · have hc := hcell 0 (by omega)
      obtain ⟨b, off, spot⟩ := x
      have hspot : spot = none := by simpa [Addr.add] using World.cell?_spot hc
      subst hspot
      refine .inr ⟨b, off, rfl, ?_, fun i hi => ?_⟩
      · rw [add_plain] at hc
        exact World.block_lt_of_cell? _ _ hc
      · have hi' : i < zs.length := by rw [List.length_take] at hi; omega
        have := hcell i hi'
        rw [add_plain] at this
        rw [this, List.getElem_take]
        simp [List.getD, List.getElem?_eq_getElem hi']
end Go.Proofs.YtjalebncfnekiaaDoor
