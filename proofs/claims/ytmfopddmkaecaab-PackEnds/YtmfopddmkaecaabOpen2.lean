/- A slice of fields, or of bytes, that came in as an argument can be read. -/
import Derived.Test.YtmfopddmkaecaabRowsEx
import Derived.Test.YtmfopddmkaecaabRefLay
import Derived.Test.YtmfopddmkaecaabRefRead
import Derived.Test.YtmfopddmkaecaabBack
import Derived.Test.YtmfopddmkaecaabKept
import Derived.Deep.SlicePairs
import Derived.OpenShut
namespace Go.Proofs.Ytmfopddmkaecaab
open Go.RowKit Nums

theorem reads_arg {w : World} {x : Addr} {len cap : Nat} {zs : List Int} (hl : len ≤ cap) (hm : cap ≤ maxLen) (hz : zs.length = cap)
    (hcell : ∀ i, i < zs.length → w.cell? (x.add i) = some (.int .u8 (zs.getD i 0))) (hwz : ∀ n ∈ zs, (Lit.int .u8 n).wf = true) :
    ∃ l, Reads w (some x) len cap l := by
  have hm' : cap ≤ 9223372036854775807 := by unfold maxLen at hm; omega
  refine ⟨(zs.take len).map fun n => UInt8.ofNat n.toNat, by simp; omega, hl, hm', ?_⟩
  by_cases h0 : len = 0
  · exact .inr (.inl ⟨x, rfl, h0⟩)
  · have hc := hcell 0 (by omega)
    obtain ⟨b, off, spot⟩ := x
    have hspot : spot = none := by simpa [Addr.add] using World.cell?_spot hc
    subst hspot
    refine .inr (.inr ⟨b, off, rfl, ?_, fun i hi => ?_⟩)
    · rw [add_plain] at hc
      exact World.block_lt_of_cell? _ _ hc
    · have hi' : i < zs.length := by simp at hi; omega
      have := hcell i hi'
      rw [add_plain] at this
      rw [this]
      have hb := bounds_u8 (hwz zs[i] (List.getElem_mem hi'))
      simp only [List.getD, List.getElem?_eq_getElem hi', Option.getD_some, List.getElem_map, List.getElem_take]
      congr 2
      rw [UInt8.toNat_ofNat']
      omega

theorem freads_arg {H : Type} {enc : TypeId × Value → H} {w : World} {base : Nat} {spare : Nat → Bool} {held : Bool} {fuel : Nat} {a : Option Addr} {len cap : Nat} {x : DataW H × List MemPlace}
    (h : DataW.trod enc Try.prog w base spare held fuel 22 [.slice a len cap] = some x) : ∃ fs, FReads w.heap.size w a len cap fs := by
  rcases Deep.open_slice_pairs Try.underlying22 Try.underlying37 (by kernel_rfl) rfl rfl (by kernel_rfl) (by kernel_rfl) h with ⟨hcs, _⟩ | ⟨ad, len', cap', m, n, V0, V1, D0, D1, P0, P1, hcs, _, hl, hm, hmm, _, hx⟩
  · cases hcs
    exact ⟨[], rfl, Nat.le_refl _, by decide, by simp, .inl ⟨rfl, rfl⟩⟩
  · cases hcs
    have hlm : len ≤ m := by rw [hmm]; split <;> omega
    have hm' : cap ≤ 9223372036854775807 := by unfold maxLen at hm; omega
    have each : ∀ i, i < len → ∃ p : Int × ByteArray, w.cell? (ad.add (i * 2)) = some (.int .i64 p.1) ∧ w.cell? (ad.add (i * 2 + 1)) = some (.string p.2) ∧ p.2.size ≤ maxLen := by
      intro i hi
      obtain ⟨c0, c1, t0, t1⟩ := hx i (by omega)
      obtain ⟨z, e0, _, _⟩ := DataW.trod_int Try.underlying3 t0
      obtain ⟨s, e1, _, hs⟩ := DataW.trod_string Try.underlying9 t1
      simp at e0 e1
      rw [e0] at c0
      rw [e1] at c1
      exact ⟨(z, s), c0, c1, hs⟩
    obtain ⟨F, hF⟩ := Deep.choose_lt each
    refine ⟨(List.range len).map F, by simp, hl, hm', ?_, ?_⟩
    · intro f hf
      obtain ⟨i, hi, rfl⟩ := List.mem_map.1 hf
      exact (hF i (List.mem_range.1 hi)).2.2
    · by_cases h0 : len = 0
      · exact .inr (.inl ⟨ad, rfl, h0⟩)
      · have hc := (hF 0 (by omega)).1
        obtain ⟨b, off, spot⟩ := ad
        have hspot : spot = none := by simpa [Addr.add] using World.cell?_spot hc
        subst hspot
        refine .inr (.inr ⟨b, off, rfl, ?_, fun i hi => ?_⟩)
        · rw [add_plain] at hc
          exact World.block_lt_of_cell? _ _ hc
        · have hi' : i < len := by simpa using hi
          have := hF i hi'
          rw [add_plain, add_plain] at this
          simp only [List.getElem_map, List.getElem_range]
          exact ⟨this.1, this.2.1⟩
end Go.Proofs.Ytmfopddmkaecaab
