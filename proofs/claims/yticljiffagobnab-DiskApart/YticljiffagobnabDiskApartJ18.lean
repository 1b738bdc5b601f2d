/- Texts of our own that the row of DiskApart leans on, part 18. -/
import Derived.Test.YticljiffagobnabDiskApartJ4
import Derived.Test.YticljiffagobnabDiskApartJ8
import Derived.OpenShut

/- Bytes that came in. -/
namespace Go.Proofs.Yticljiffagobnab
open Go.RowKit Nums
set_option linter.unusedVariables false
set_option maxRecDepth 100000
theorem reads_arg {w : World} {x : Addr} {len cap : Nat} {zs : List Int} (hl : len ≤ cap) (hm : cap ≤ maxLen) (hz : zs.length = cap)
    (hcell : ∀ i, i < zs.length → w.cell? (x.add i) = some (.int .u8 (zs.getD i 0))) (hwz : ∀ n ∈ zs, (Lit.int .u8 n).wf = true) :
    ∃ l, Reads w (some x) len cap l := by
  have hm' : cap ≤ 9223372036854775807 := by unfold maxLen at hm; omega
  refine ⟨(zs.take len).map fun n => UInt8.ofNat n.toNat, by simp; omega, hl, hm', ?_⟩
  by_cases h0 : len = 0
  · exact .inr (.inl ⟨x, rfl, h0⟩)
  · have hc := hcell 0 (by omega)
    obtain ⟨b, off, spot⟩ := x
    have hspot : spot = none := by simpa [Addr.add] using World.cell?_spot hc
    subst hspot
    refine .inr (.inr ⟨b, off, rfl, ?_, fun i hi => ?_⟩)
    · rw [add_plain] at hc
      exact World.block_lt_of_cell? _ _ hc
    · have hi' : i < zs.length := by simp at hi; omega
      have := hcell i hi'
      rw [add_plain] at this
      rw [this]
      have hb := bounds_u8 (hwz zs[i] (List.getElem_mem hi'))
      simp only [List.getD, List.getElem?_eq_getElem hi', Option.getD_some, List.getElem_map, List.getElem_take]
      congr 2
      rw [UInt8.toNat_ofNat']
      omega
theorem open_bytes {H : Type} {enc : TypeId × Value → H} {W : World} {base : Nat} {held : Bool} {a : Option Addr} {len cap : Nat} {d : DataW H} {p : List MemPlace}
    (h : DataW.Trod enc Try.prog W base (fun _ => true) held 23 (.slice a len cap) d p) : ∃ l, Reads W a len cap l := by
  obtain ⟨fuel, hf⟩ := h
  rcases Go.ChangeShapes.open_ints Try.underlying23 Try.underlying5 (by kernel_rfl) hf with ⟨hcs, _⟩ | ⟨x, l, c, zs, hcs, _, hl, hm, hz, _, hcell, hwz⟩
  · simp [Value.cells] at hcs
    obtain ⟨rfl, rfl, rfl⟩ := hcs
    exact ⟨[], reads_none _⟩
  · simp [Value.cells] at hcs
    obtain ⟨rfl, rfl, rfl⟩ := hcs
    exact reads_arg hl hm (by simpa using hz) hcell hwz
end Go.Proofs.Yticljiffagobnab
