/- A key that came in is 32 bytes. -/
import Derived.Test.YtkmndchbmbhlhaaDoorTabs
namespace Go.Proofs.YtkmndchbmbhlhaaDoor
open Go.RowKit Sums

theorem okWide_key {W : World} {base : Nat} {r : Reach} {v : Value} (h : Value.okWide Tryd.prog W r base 23 v) : ∃ cs, v = .agg cs := by
  simp only [Value.okWide, Tryd.underlying23] at h
  obtain ⟨cs, h1, _⟩ := h
  exact ⟨cs, h1⟩

theorem open_key {H : Type} {enc : TypeId × Value → H} {W : World} {base base' : Nat} {r : Reach} {sp : Nat → Bool} {held : Bool} {v : Value} {d : DataW H} {p : List MemPlace}
    (hv : Value.okWide Tryd.prog W r base' 23 v) (h : DataW.Trod enc Tryd.prog W base sp held 23 v d p) : ∃ l : List UInt8, l.length = 32 ∧ v = digV l := by
  obtain ⟨cs, rfl⟩ := okWide_key hv
  obtain ⟨fuel, hf⟩ := h
  obtain ⟨xs, m, rfl, _, hl, hx, hall⟩ := DataW.trod_array Tryd.underlying23 hf
  have h1 : Tryd.prog.cellsOf 5 = 1 := by kernel_rfl
  have h32 : Tryd.prog.cellsOf 23 = 32 := by kernel_rfl
  rw [h32] at hl
  rw [h1] at hall
  simp only [Nat.mul_one] at hall
  have hc : (Value.agg cs).cells.toList = cs.toList := rfl
  rw [hc] at hl hall
  have each : ∀ i, (hi : i < cs.toList.length) → ∃ b : UInt8, cs.toList[i] = .int .u8 b.toNat := by
    intro i hi
    have := hall i (by omega)
    rw [List.getElem?_eq_getElem (by omega)] at this
    obtain ⟨z, hz, _, hwf⟩ := DataW.trod_int Tryd.underlying5 this
    have e : (cs.toList.drop i).take 1 = [cs.toList[i]] := by
      rw [List.drop_eq_getElem_cons hi]; rfl
    rw [e] at hz
    simp at hz
    have hb := bounds_u8 hwf
    refine ⟨UInt8.ofNat z.toNat, ?_⟩
    rw [UInt8.toNat_ofNat', show ((z.toNat % 2 ^ 8 : Nat) : Int) = z by omega]
    simpa using hz
  refine ⟨cs.toList.map fun v => match v with | .int _ n => UInt8.ofNat n.toNat | _ => 0, by simp; simpa using hl, ?_⟩
  unfold digV
  congr 1
  apply Array.ext'
  simp only
  unfold cellsOf
  rw [List.map_map]
  apply List.ext_getElem
  · simp
  · intro i h1 h2
    obtain ⟨b, hb⟩ := each i h1
    rw [List.getElem_map]
    rw [hb]
    simp
end Go.Proofs.YtkmndchbmbhlhaaDoor
