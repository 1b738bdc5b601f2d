/- Texts of our own that the row of ClaimsRecords leans on, part 31. -/
import Derived.Test.YtieklabpdalahaaClaimsRecordsJ25
import Derived.Test.YtieklabpdalahaaClaimsRecordsJ30
import Derived.OpenShut

/- Heads, signed heads and bytes that came in. -/
namespace Go.Proofs.Ytieklabpdalahaa
open Go.RowKit Sums Nums
set_option linter.unusedVariables false
set_option maxRecDepth 100000
variable {H : Type} {enc : TypeId × Value → H} {W : World} {base : Nat} {sp : Nat → Bool} {held : Bool} {fuel : Nat} {x : DataW H × List MemPlace}
theorem open_dig_cells {cs : List Value} (hf : DataW.trod enc Try.prog W base sp held fuel 24 cs = some x) : ∃ l : List UInt8, l.length = 32 ∧ cs = cellsOf l := by
  obtain ⟨xs, m, rfl, _, hl, hx, hall⟩ := DataW.trod_array Try.underlying24 hf
  have h1 : Try.prog.cellsOf 5 = 1 := by kernel_rfl
  have h32 : Try.prog.cellsOf 24 = 32 := by kernel_rfl
  rw [h32] at hl
  rw [h1] at hall
  simp only [Nat.mul_one] at hall
  have each : ∀ i, (hi : i < cs.length) → ∃ b : UInt8, cs[i] = .int .u8 b.toNat := by
    intro i hi
    have := hall i (by omega)
    rw [List.getElem?_eq_getElem (by omega)] at this
    obtain ⟨z, hz, _, hwf⟩ := DataW.trod_int Try.underlying5 this
    have e : (cs.drop i).take 1 = [cs[i]] := by
      rw [List.drop_eq_getElem_cons hi]; rfl
    rw [e] at hz
    simp at hz
    have hb := bounds_u8 hwf
    refine ⟨UInt8.ofNat z.toNat, ?_⟩
    rw [UInt8.toNat_ofNat', show ((z.toNat % 2 ^ 8 : Nat) : Int) = z by omega]
    simpa using hz
  refine ⟨cs.map fun v => match v with | .int _ n => UInt8.ofNat n.toNat | _ => 0, by simp; simpa using hl, ?_⟩
  unfold cellsOf
  rw [List.map_map]
  apply List.ext_getElem
  · simp
  · intro i h1 h2
    obtain ⟨b, hb⟩ := each i h1
    rw [List.getElem_map]
    rw [hb]
    simp
theorem open_int_cells {cs : List Value} (hf : DataW.trod enc Try.prog W base sp held fuel 3 cs = some x) : ∃ z : Int, In64 z ∧ cs = [.int .i64 z] := by
  obtain ⟨z, hz, _, hwf⟩ := DataW.trod_int Try.underlying3 hf
  exact ⟨z, bounds_i64 hwf, hz⟩
theorem part_some {xs : List (DataW H × List MemPlace)} {n i : Nat} (hl : xs.length = n) (hi : i < n) : ∃ y, xs[i]? = some y := ⟨xs[i]'(by omega), List.getElem?_eq_getElem (by omega)⟩
end Go.Proofs.Ytieklabpdalahaa

/- Claims that came in. -/
namespace Go.Proofs.Ytieklabpdalahaa
open Go.RowKit Sums Nums
set_option linter.unusedVariables false
set_option maxRecDepth 100000
variable {H : Type} {enc : TypeId × Value → H} {W : World} {base : Nat} {sp : Nat → Bool} {held : Bool} {fuel : Nat} {x : DataW H × List MemPlace}
theorem open_claim_cells {cs : List Value} (hf : DataW.trod enc Try.prog W base sp held fuel 26 cs = some x) : ∃ z : ClT, InC z ∧ cs = ccells z := by
  obtain ⟨xs, m, rfl, _, hl, hx, hall⟩ := DataW.trod_struct Try.underlying26 hf
  have h32 : Try.prog.cellsOf 24 = 32 := by kernel_rfl
  have h1 : Try.prog.cellsOf 3 = 1 := by kernel_rfl
  have hsz : Try.prog.cellsOf 26 = 36 := by kernel_rfl
  rw [hsz] at hl
  obtain ⟨y0, e0⟩ := part_some hx (i := 0) (by decide)
  obtain ⟨y1, e1⟩ := part_some hx (i := 1) (by decide)
  obtain ⟨y2, e2⟩ := part_some hx (i := 2) (by decide)
  obtain ⟨y3, e3⟩ := part_some hx (i := 3) (by decide)
  obtain ⟨y4, e4⟩ := part_some hx (i := 4) (by decide)
  have f0 : DataW.trod enc Try.prog W base sp held m 3 ((cs.drop 0).take (Try.prog.cellsOf 3)) = some y0 := (hall 0 _ rfl).trans e0
  have f1 : DataW.trod enc Try.prog W base sp held m 3 ((cs.drop 1).take (Try.prog.cellsOf 3)) = some y1 := (hall 1 _ rfl).trans e1
  have f2 : DataW.trod enc Try.prog W base sp held m 3 ((cs.drop 2).take (Try.prog.cellsOf 3)) = some y2 := (hall 2 _ rfl).trans e2
  have f3 : DataW.trod enc Try.prog W base sp held m 3 ((cs.drop 3).take (Try.prog.cellsOf 3)) = some y3 := (hall 3 _ rfl).trans e3
  have f4 : DataW.trod enc Try.prog W base sp held m 24 ((cs.drop 4).take (Try.prog.cellsOf 24)) = some y4 := (hall 4 _ rfl).trans e4
  rw [h1] at f0
  rw [h1] at f1
  rw [h1] at f2
  rw [h1] at f3
  rw [h32] at f4
  obtain ⟨r, ir, cr'⟩ := open_int_cells f0
  obtain ⟨e, ie, ce'⟩ := open_int_cells f1
  obtain ⟨n, in', cn'⟩ := open_int_cells f2
  obtain ⟨s, is, cs'⟩ := open_int_cells f3
  obtain ⟨d, id, cd'⟩ := open_dig_cells f4
  refine ⟨⟨r, e, n, s, d⟩, ⟨id, ir, ie, in', is⟩, ?_⟩
  unfold ccells
  show cs = [Value.int .i64 r, .int .i64 e, .int .i64 n, .int .i64 s] ++ cellsOf d
  have k0 : cs = ((cs.drop 0).take 1 ++ ((cs.drop 1).take 1 ++ ((cs.drop 2).take 1 ++ ((cs.drop 3).take 1 ++ (cs.drop 4).take 32)))) := by
    have q4 : (cs.drop 4).take 32 = cs.drop 4 := List.take_of_length_le (by rw [List.length_drop]; omega)
    have q3 : (cs.drop 3).take 1 ++ cs.drop 4 = cs.drop 3 := by
      have := List.take_append_drop 1 (cs.drop 3)
      rw [List.drop_drop] at this
      exact this
    have q2 : (cs.drop 2).take 1 ++ cs.drop 3 = cs.drop 2 := by
      have := List.take_append_drop 1 (cs.drop 2)
      rw [List.drop_drop] at this
      exact this
    have q1 : (cs.drop 1).take 1 ++ cs.drop 2 = cs.drop 1 := by
      have := List.take_append_drop 1 (cs.drop 1)
      rw [List.drop_drop] at this
      exact this
    rw [q4, q3, q2, q1, List.drop_zero, List.take_append_drop]
  rw [cr', ce', cn', cs', cd'] at k0
  rw [k0]
  all_goals simp
theorem open_claim {base' : Nat} {r : Reach} {v : Value} {d : DataW H} {p : List MemPlace}
    (hv : Value.okWide Try.prog W r base' 26 v) (h : DataW.Trod enc Try.prog W base sp held 26 v d p) : ∃ z : ClT, InC z ∧ v = claimV z := by
  obtain ⟨cs, rfl⟩ : ∃ cs, v = .agg cs := by
    simp only [Value.okWide, Try.underlying26] at hv
    obtain ⟨cs, h1, _⟩ := hv
    exact ⟨cs, h1⟩
  obtain ⟨fuel, hf⟩ := h
  obtain ⟨z, iz, hz⟩ := open_claim_cells hf
  refine ⟨z, iz, ?_⟩
  unfold claimV
  rw [← hz]
  rfl
end Go.Proofs.Ytieklabpdalahaa
