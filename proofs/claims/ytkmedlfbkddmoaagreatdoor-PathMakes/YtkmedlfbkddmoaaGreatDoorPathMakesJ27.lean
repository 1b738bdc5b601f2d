/- Texts of our own that the row of PathMakes leans on, part 27. -/
import Derived.Test.YtkmedlfbkddmoaaGreatDoorPathMakesJ0
import Derived.Test.YtkmedlfbkddmoaaGreatDoorPathMakesJ10
import Derived.Test.YtkmedlfbkddmoaaGreatDoorPathMakesJ24
import Derived.Test.YtkmedlfbkddmoaaGreatDoorPathMakesJ26
import Derived.OpenShut
import Derived.ChangeArms
/- Heads, signed heads and bytes that came in. -/
namespace Go.Proofs.YtkmedlfbkddmoaaGreatDoor
open Go.RowKit Sums Nums
set_option linter.unusedVariables false
set_option maxRecDepth 100000
variable {H : Type} {enc : TypeId × Value → H} {W : World} {base : Nat} {sp : Nat → Bool} {held : Bool} {fuel : Nat} {x : DataW H × List MemPlace}
theorem open_dig_cells {cs : List Value} (hf : DataW.trod enc Tryz.prog W base sp held fuel 24 cs = some x) : ∃ l : List UInt8, l.length = 32 ∧ cs = cellsOf l := by
  obtain ⟨xs, m, rfl, _, hl, hx, hall⟩ := DataW.trod_array Tryz.underlying24 hf
  have h1 : Tryz.prog.cellsOf 5 = 1 := by kernel_rfl
  have h32 : Tryz.prog.cellsOf 24 = 32 := by kernel_rfl
  rw [h32] at hl
  rw [h1] at hall
  simp only [Nat.mul_one] at hall
  have each : ∀ i, (hi : i < cs.length) → ∃ b : UInt8, cs[i] = .int .u8 b.toNat := by
    intro i hi
    have := hall i (by omega)
    rw [List.getElem?_eq_getElem (by omega)] at this
    obtain ⟨z, hz, _, hwf⟩ := DataW.trod_int Tryz.underlying5 this
    have e : (cs.drop i).take 1 = [cs[i]] := by
      rw [List.drop_eq_getElem_cons hi]; rfl
    rw [e] at hz
    simp at hz
    have hb := bounds_u8 hwf
    refine ⟨UInt8.ofNat z.toNat, ?_⟩
    rw [UInt8.toNat_ofNat', show ((z.toNat % 2 ^ 8 : Nat) : Int) = z by omega]
    simpa using hz
  refine ⟨cs.map fun v => match v with | .int _ n => UInt8.ofNat n.toNat | _ => 0, by simp; simpa using hl, ?_⟩
  unfold cellsOf
  rw [List.map_map]
  apply List.ext_getElem
  · simp
  · intro i h1 h2
    obtain ⟨b, hb⟩ := each i h1
    rw [List.getElem_map]
    rw [hb]
    simp
theorem open_int_cells {cs : List Value} (hf : DataW.trod enc Tryz.prog W base sp held fuel 3 cs = some x) : ∃ z : Int, In64 z ∧ cs = [.int .i64 z] := by
  obtain ⟨z, hz, _, hwf⟩ := DataW.trod_int Tryz.underlying3 hf
  exact ⟨z, bounds_i64 hwf, hz⟩
theorem part_some {xs : List (DataW H × List MemPlace)} {n i : Nat} (hl : xs.length = n) (hi : i < n) : ∃ y, xs[i]? = some y := ⟨xs[i]'(by omega), List.getElem?_eq_getElem (by omega)⟩
theorem open_head_cells {cs : List Value} (hf : DataW.trod enc Tryz.prog W base sp held fuel 26 cs = some x) : ∃ z : HdT, InH z ∧ cs = hcells z := by
  obtain ⟨xs, m, rfl, _, hl, hx, hall⟩ := DataW.trod_struct Tryz.underlying26 hf
  have h1 : Tryz.prog.cellsOf 3 = 1 := by kernel_rfl
  have h32 : Tryz.prog.cellsOf 24 = 32 := by kernel_rfl
  have h36 : Tryz.prog.cellsOf 26 = 36 := by kernel_rfl
  rw [h36] at hl
  obtain ⟨y0, e0⟩ := part_some hx (i := 0) (by decide)
  obtain ⟨y1, e1⟩ := part_some hx (i := 1) (by decide)
  obtain ⟨y2, e2⟩ := part_some hx (i := 2) (by decide)
  obtain ⟨y3, e3⟩ := part_some hx (i := 3) (by decide)
  obtain ⟨y4, e4⟩ := part_some hx (i := 4) (by decide)
  have f0 : DataW.trod enc Tryz.prog W base sp held m 3 ((cs.drop 0).take (Tryz.prog.cellsOf 3)) = some y0 := (hall 0 _ rfl).trans e0
  have f1 : DataW.trod enc Tryz.prog W base sp held m 3 ((cs.drop 1).take (Tryz.prog.cellsOf 3)) = some y1 := (hall 1 _ rfl).trans e1
  have f2 : DataW.trod enc Tryz.prog W base sp held m 3 ((cs.drop 2).take (Tryz.prog.cellsOf 3)) = some y2 := (hall 2 _ rfl).trans e2
  have f3 : DataW.trod enc Tryz.prog W base sp held m 24 ((cs.drop 3).take (Tryz.prog.cellsOf 24)) = some y3 := (hall 3 _ rfl).trans e3
  have f4 : DataW.trod enc Tryz.prog W base sp held m 3 ((cs.drop 35).take (Tryz.prog.cellsOf 3)) = some y4 := (hall 4 _ rfl).trans e4
  rw [h1] at f0 f1 f2 f4
  rw [h32] at f3
  obtain ⟨r, ir, cr⟩ := open_int_cells f0
  obtain ⟨e, ie, ce⟩ := open_int_cells f1
  obtain ⟨s, is, cs'⟩ := open_int_cells f2
  obtain ⟨d, id, cd⟩ := open_dig_cells f3
  obtain ⟨t, it, ct⟩ := open_int_cells f4
  refine ⟨⟨r, e, s, d, t⟩, ⟨id, ir, ie, is, it⟩, ?_⟩
  unfold hcells
  show cs = [Value.int .i64 r, .int .i64 e, .int .i64 s] ++ cellsOf d ++ [.int .i64 t]
  have k0 : cs = (cs.drop 0).take 1 ++ ((cs.drop 1).take 1 ++ ((cs.drop 2).take 1 ++ ((cs.drop 3).take 32 ++ (cs.drop 35).take 1))) := by
    have q4 : (cs.drop 35).take 1 = cs.drop 35 := List.take_of_length_le (by rw [List.length_drop]; omega)
    have q3 : (cs.drop 3).take 32 ++ cs.drop 35 = cs.drop 3 := by
      have := List.take_append_drop 32 (cs.drop 3)
      rw [List.drop_drop] at this
      exact this
    have q2 : (cs.drop 2).take 1 ++ cs.drop 3 = cs.drop 2 := by
      have := List.take_append_drop 1 (cs.drop 2)
      rw [List.drop_drop] at this
      exact this
    have q1 : (cs.drop 1).take 1 ++ cs.drop 2 = cs.drop 1 := by
      have := List.take_append_drop 1 (cs.drop 1)
      rw [List.drop_drop] at this
      exact this
    rw [q4, q3, q2, q1, List.drop_zero, List.take_append_drop]
  rw [cr, ce, cs', cd, ct] at k0
  rw [k0]
  simp
theorem open_signed_cells {cs : List Value} (hf : DataW.trod enc Tryz.prog W base sp held fuel 28 cs = some x) : ∃ z : SgT, InS z ∧ cs = scells z := by
  obtain ⟨xs, m, rfl, _, hl, hx, hall⟩ := DataW.trod_struct Tryz.underlying28 hf
  have h1 : Tryz.prog.cellsOf 3 = 1 := by kernel_rfl
  have h32 : Tryz.prog.cellsOf 24 = 32 := by kernel_rfl
  have h36 : Tryz.prog.cellsOf 26 = 36 := by kernel_rfl
  have h69 : Tryz.prog.cellsOf 28 = 69 := by kernel_rfl
  rw [h69] at hl
  obtain ⟨y0, e0⟩ := part_some hx (i := 0) (by decide)
  obtain ⟨y1, e1⟩ := part_some hx (i := 1) (by decide)
  obtain ⟨y2, e2⟩ := part_some hx (i := 2) (by decide)
  have f0 : DataW.trod enc Tryz.prog W base sp held m 26 ((cs.drop 0).take (Tryz.prog.cellsOf 26)) = some y0 := (hall 0 _ rfl).trans e0
  have f1 : DataW.trod enc Tryz.prog W base sp held m 3 ((cs.drop 36).take (Tryz.prog.cellsOf 3)) = some y1 := (hall 1 _ rfl).trans e1
  have f2 : DataW.trod enc Tryz.prog W base sp held m 24 ((cs.drop 37).take (Tryz.prog.cellsOf 24)) = some y2 := (hall 2 _ rfl).trans e2
  rw [h36] at f0
  rw [h1] at f1
  rw [h32] at f2
  obtain ⟨h, ih, ch⟩ := open_head_cells f0
  obtain ⟨n, inn, cn⟩ := open_int_cells f1
  obtain ⟨g, ig, cg⟩ := open_dig_cells f2
  refine ⟨⟨h, n, g⟩, ⟨ih, inn, ig⟩, ?_⟩
  unfold scells
  show cs = hcells h ++ [Value.int .i64 n] ++ cellsOf g
  have k0 : cs = (cs.drop 0).take 36 ++ ((cs.drop 36).take 1 ++ (cs.drop 37).take 32) := by
    have q3 : (cs.drop 37).take 32 = cs.drop 37 := List.take_of_length_le (by rw [List.length_drop]; omega)
    have q2 : (cs.drop 36).take 1 ++ cs.drop 37 = cs.drop 36 := by
      have := List.take_append_drop 1 (cs.drop 36)
      rw [List.drop_drop] at this
      exact this
    rw [q3, q2, List.drop_zero, List.take_append_drop]
  rw [ch, cn, cg] at k0
  rw [k0]
  simp
theorem open_signed {base' : Nat} {r : Reach} {v : Value} {d : DataW H} {p : List MemPlace}
    (hv : Value.okWide Tryz.prog W r base' 28 v) (h : DataW.Trod enc Tryz.prog W base sp held 28 v d p) : ∃ z : SgT, InS z ∧ v = signV z := by
  obtain ⟨cs, rfl⟩ : ∃ cs, v = .agg cs := by
    simp only [Value.okWide, Tryz.underlying28] at hv
    obtain ⟨cs, h1, _⟩ := hv
    exact ⟨cs, h1⟩
  obtain ⟨fuel, hf⟩ := h
  obtain ⟨z, iz, hz⟩ := open_signed_cells hf
  refine ⟨z, iz, ?_⟩
  unfold signV
  rw [← hz]
  rfl
end Go.Proofs.YtkmedlfbkddmoaaGreatDoor
/- Claims that came in. -/
namespace Go.Proofs.YtkmedlfbkddmoaaGreatDoor
open Go.RowKit Sums Nums
set_option linter.unusedVariables false
set_option maxRecDepth 100000
variable {H : Type} {enc : TypeId × Value → H} {W : World} {base : Nat} {sp : Nat → Bool} {held : Bool} {fuel : Nat} {x : DataW H × List MemPlace}
theorem open_claim_cells {cs : List Value} (hf : DataW.trod enc Tryz.prog W base sp held fuel 33 cs = some x) : ∃ z : ClT, InC z ∧ cs = ccells z := by
  obtain ⟨xs, m, rfl, _, hl, hx, hall⟩ := DataW.trod_struct Tryz.underlying33 hf
  have h32 : Tryz.prog.cellsOf 24 = 32 := by kernel_rfl
  have h1 : Tryz.prog.cellsOf 3 = 1 := by kernel_rfl
  have hsz : Tryz.prog.cellsOf 33 = 36 := by kernel_rfl
  rw [hsz] at hl
  obtain ⟨y0, e0⟩ := part_some hx (i := 0) (by decide)
  obtain ⟨y1, e1⟩ := part_some hx (i := 1) (by decide)
  obtain ⟨y2, e2⟩ := part_some hx (i := 2) (by decide)
  obtain ⟨y3, e3⟩ := part_some hx (i := 3) (by decide)
  obtain ⟨y4, e4⟩ := part_some hx (i := 4) (by decide)
  have f0 : DataW.trod enc Tryz.prog W base sp held m 3 ((cs.drop 0).take (Tryz.prog.cellsOf 3)) = some y0 := (hall 0 _ rfl).trans e0
  have f1 : DataW.trod enc Tryz.prog W base sp held m 3 ((cs.drop 1).take (Tryz.prog.cellsOf 3)) = some y1 := (hall 1 _ rfl).trans e1
  have f2 : DataW.trod enc Tryz.prog W base sp held m 3 ((cs.drop 2).take (Tryz.prog.cellsOf 3)) = some y2 := (hall 2 _ rfl).trans e2
  have f3 : DataW.trod enc Tryz.prog W base sp held m 3 ((cs.drop 3).take (Tryz.prog.cellsOf 3)) = some y3 := (hall 3 _ rfl).trans e3
  have f4 : DataW.trod enc Tryz.prog W base sp held m 24 ((cs.drop 4).take (Tryz.prog.cellsOf 24)) = some y4 := (hall 4 _ rfl).trans e4
  rw [h1] at f0
  rw [h1] at f1
  rw [h1] at f2
  rw [h1] at f3
  rw [h32] at f4
  obtain ⟨r, ir, cr'⟩ := open_int_cells f0
  obtain ⟨e, ie, ce'⟩ := open_int_cells f1
  obtain ⟨n, in', cn'⟩ := open_int_cells f2
  obtain ⟨s, is, cs'⟩ := open_int_cells f3
  obtain ⟨d, id, cd'⟩ := open_dig_cells f4
  refine ⟨⟨r, e, n, s, d⟩, ⟨id, ir, ie, in', is⟩, ?_⟩
  unfold ccells
  show cs = [Value.int .i64 r, .int .i64 e, .int .i64 n, .int .i64 s] ++ cellsOf d
  have k0 : cs = ((cs.drop 0).take 1 ++ ((cs.drop 1).take 1 ++ ((cs.drop 2).take 1 ++ ((cs.drop 3).take 1 ++ (cs.drop 4).take 32)))) := by
    have q4 : (cs.drop 4).take 32 = cs.drop 4 := List.take_of_length_le (by rw [List.length_drop]; omega)
    have q3 : (cs.drop 3).take 1 ++ cs.drop 4 = cs.drop 3 := by
      have := List.take_append_drop 1 (cs.drop 3)
      rw [List.drop_drop] at this
      exact this
    have q2 : (cs.drop 2).take 1 ++ cs.drop 3 = cs.drop 2 := by
      have := List.take_append_drop 1 (cs.drop 2)
      rw [List.drop_drop] at this
      exact this
    have q1 : (cs.drop 1).take 1 ++ cs.drop 2 = cs.drop 1 := by
      have := List.take_append_drop 1 (cs.drop 1)
      rw [List.drop_drop] at this
      exact this
    rw [q4, q3, q2, q1, List.drop_zero, List.take_append_drop]
  rw [cr', ce', cn', cs', cd'] at k0
  rw [k0]
  all_goals simp
end Go.Proofs.YtkmedlfbkddmoaaGreatDoor
/- Entries and items that came in. -/
namespace Go.Proofs.YtkmedlfbkddmoaaGreatDoor
open Go.RowKit Sums Nums
set_option linter.unusedVariables false
set_option maxRecDepth 100000
variable {H : Type} {enc : TypeId × Value → H} {W : World} {base : Nat} {sp : Nat → Bool} {held : Bool} {fuel : Nat} {x : DataW H × List MemPlace}
theorem open_kind_cells {cs : List Value} (hf : DataW.trod enc Tryz.prog W base sp held fuel 31 cs = some x) : ∃ z : Int, In64 z ∧ cs = [.int .i64 z] := by
  obtain ⟨z, hz, _, hwf⟩ := DataW.trod_int Tryz.underlying31 hf
  exact ⟨z, bounds_i64 hwf, hz⟩
theorem open_str_cells {cs : List Value} (hf : DataW.trod enc Tryz.prog W base sp held fuel 9 cs = some x) : ∃ s : ByteArray, s.size ≤ maxLen ∧ cs = [.string s] := by
  obtain ⟨s, hz, _, hwf⟩ := DataW.trod_string Tryz.underlying9 hf
  exact ⟨s, hwf, hz⟩
theorem open_entry_cells {cs : List Value} (hf : DataW.trod enc Tryz.prog W base sp held fuel 35 cs = some x) : ∃ z : EnT, CmE z ∧ cs = ecells z := by
  obtain ⟨xs, m, rfl, _, hl, hx, hall⟩ := DataW.trod_struct Tryz.underlying35 hf
  have h36 : Tryz.prog.cellsOf 33 = 36 := by kernel_rfl
  have h1 : Tryz.prog.cellsOf 3 = 1 := by kernel_rfl
  have hk : Tryz.prog.cellsOf 31 = 1 := by kernel_rfl
  have h69 : Tryz.prog.cellsOf 28 = 69 := by kernel_rfl
  have h9 : Tryz.prog.cellsOf 9 = 1 := by kernel_rfl
  have hsz : Tryz.prog.cellsOf 35 = 109 := by kernel_rfl
  rw [hsz] at hl
  obtain ⟨y0, e0⟩ := part_some hx (i := 0) (by decide)
  obtain ⟨y1, e1⟩ := part_some hx (i := 1) (by decide)
  obtain ⟨y2, e2⟩ := part_some hx (i := 2) (by decide)
  obtain ⟨y3, e3⟩ := part_some hx (i := 3) (by decide)
  obtain ⟨y4, e4⟩ := part_some hx (i := 4) (by decide)
  obtain ⟨y5, e5⟩ := part_some hx (i := 5) (by decide)
  have f0 : DataW.trod enc Tryz.prog W base sp held m 31 ((cs.drop 0).take (Tryz.prog.cellsOf 31)) = some y0 := (hall 0 _ rfl).trans e0
  have f1 : DataW.trod enc Tryz.prog W base sp held m 3 ((cs.drop 1).take (Tryz.prog.cellsOf 3)) = some y1 := (hall 1 _ rfl).trans e1
  have f2 : DataW.trod enc Tryz.prog W base sp held m 3 ((cs.drop 2).take (Tryz.prog.cellsOf 3)) = some y2 := (hall 2 _ rfl).trans e2
  have f3 : DataW.trod enc Tryz.prog W base sp held m 9 ((cs.drop 3).take (Tryz.prog.cellsOf 9)) = some y3 := (hall 3 _ rfl).trans e3
  have f4 : DataW.trod enc Tryz.prog W base sp held m 28 ((cs.drop 4).take (Tryz.prog.cellsOf 28)) = some y4 := (hall 4 _ rfl).trans e4
  have f5 : DataW.trod enc Tryz.prog W base sp held m 33 ((cs.drop 73).take (Tryz.prog.cellsOf 33)) = some y5 := (hall 5 _ rfl).trans e5
  rw [hk] at f0
  rw [h1] at f1
  rw [h1] at f2
  rw [h9] at f3
  rw [h69] at f4
  rw [h36] at f5
  obtain ⟨k, ik, ck'⟩ := open_kind_cells f0
  obtain ⟨c, ic, cc'⟩ := open_int_cells f1
  obtain ⟨s, is, cs'⟩ := open_int_cells f2
  obtain ⟨t, it, ct'⟩ := open_str_cells f3
  obtain ⟨h, ih, ch'⟩ := open_signed_cells f4
  obtain ⟨m, im, cm'⟩ := open_claim_cells f5
  refine ⟨⟨k, c, s, t, h, m⟩, ⟨ik, ic, is, it, ih, im⟩, ?_⟩
  unfold ecells
  show cs = [Value.int .i64 k, .int .i64 c, .int .i64 s, .string t] ++ scells h ++ ccells m
  have k0 : cs = ((cs.drop 0).take 1 ++ ((cs.drop 1).take 1 ++ ((cs.drop 2).take 1 ++ ((cs.drop 3).take 1 ++ ((cs.drop 4).take 69 ++ (cs.drop 73).take 36))))) := by
    have q5 : (cs.drop 73).take 36 = cs.drop 73 := List.take_of_length_le (by rw [List.length_drop]; omega)
    have q4 : (cs.drop 4).take 69 ++ cs.drop 73 = cs.drop 4 := by
      have := List.take_append_drop 69 (cs.drop 4)
      rw [List.drop_drop] at this
      exact this
    have q3 : (cs.drop 3).take 1 ++ cs.drop 4 = cs.drop 3 := by
      have := List.take_append_drop 1 (cs.drop 3)
      rw [List.drop_drop] at this
      exact this
    have q2 : (cs.drop 2).take 1 ++ cs.drop 3 = cs.drop 2 := by
      have := List.take_append_drop 1 (cs.drop 2)
      rw [List.drop_drop] at this
      exact this
    have q1 : (cs.drop 1).take 1 ++ cs.drop 2 = cs.drop 1 := by
      have := List.take_append_drop 1 (cs.drop 1)
      rw [List.drop_drop] at this
      exact this
    rw [q5, q4, q3, q2, q1, List.drop_zero, List.take_append_drop]
  rw [ck', cc', cs', ct', ch', cm'] at k0
  rw [k0]
  all_goals simp
theorem open_item_cells {cs : List Value} (hf : DataW.trod enc Tryz.prog W base sp held fuel 37 cs = some x) : ∃ z : ItT, CmI z ∧ cs = icells z := by
  obtain ⟨xs, m, rfl, _, hl, hx, hall⟩ := DataW.trod_struct Tryz.underlying37 hf
  have h109 : Tryz.prog.cellsOf 35 = 109 := by kernel_rfl
  have h1 : Tryz.prog.cellsOf 3 = 1 := by kernel_rfl
  have hsz : Tryz.prog.cellsOf 37 = 110 := by kernel_rfl
  rw [hsz] at hl
  obtain ⟨y0, e0⟩ := part_some hx (i := 0) (by decide)
  obtain ⟨y1, e1⟩ := part_some hx (i := 1) (by decide)
  have f0 : DataW.trod enc Tryz.prog W base sp held m 3 ((cs.drop 0).take (Tryz.prog.cellsOf 3)) = some y0 := (hall 0 _ rfl).trans e0
  have f1 : DataW.trod enc Tryz.prog W base sp held m 35 ((cs.drop 1).take (Tryz.prog.cellsOf 35)) = some y1 := (hall 1 _ rfl).trans e1
  rw [h1] at f0
  rw [h109] at f1
  obtain ⟨p, ip, cp'⟩ := open_int_cells f0
  obtain ⟨e, ie, ce'⟩ := open_entry_cells f1
  refine ⟨⟨p, e⟩, ⟨ip, ie⟩, ?_⟩
  unfold icells
  show cs = [Value.int .i64 p] ++ ecells e
  have k0 : cs = ((cs.drop 0).take 1 ++ (cs.drop 1).take 109) := by
    have q1 : (cs.drop 1).take 109 = cs.drop 1 := List.take_of_length_le (by rw [List.length_drop]; omega)
    rw [q1, List.drop_zero, List.take_append_drop]
  rw [cp', ce'] at k0
  rw [k0]
  all_goals simp
end Go.Proofs.YtkmedlfbkddmoaaGreatDoor
/- What entry.Check answers. -/
namespace Go.Proofs.YtkmedlfbkddmoaaGreatDoor
open Go.RowKit Sums Nums
set_option linter.unusedVariables false
set_option linter.unusedSimpArgs false
set_option maxRecDepth 100000
theorem erow_row {W : World} {g : Nat} {x : EnT} (ok : OkE x) {X : Array Value} (HX : Hid (X = (ecells x).toArray)) {t : TypeId} (h : W.heap[g]? = some (.cells X t (0, 0))) : ERow W g 0 x := by
  refine erow_of ok fun j v hj => ?_
  rw [Nat.zero_add, cell_of_row _ _ j _ t (0, 0) h, HX.out]
  simpa using hj
def userR (x : EnT) : Bool := (decide (1 ≤ x.c) && decide (x.c ≤ 3)) && ((decide (1 ≤ x.s) && decide (x.s ≤ 1000000)) && decide (x.t.size ≤ 200))
def toldB (x : EnT) : Bool := if x.k = 1 then userR x else if x.k = 2 then mayS x.h else if x.k = 3 then rightC x.m else false
def bareE (x : EnT) : EnT := if x.k = 1 then ⟨x.k, x.c, x.s, x.t, zeroS, zeroC⟩ else if x.k = 2 then ⟨x.k, 0, 0, ⟨#[]⟩, x.h, zeroC⟩ else if x.k = 3 then ⟨x.k, 0, 0, ⟨#[]⟩, zeroS, x.m⟩ else zeroE
theorem bareE_ok {x : EnT} (ok : OkE x) : OkE (bareE x) := by
  unfold bareE
  split
  · exact ⟨rfl, rfl, rfl⟩
  split
  · exact ⟨ok.h, ok.g, rfl⟩
  split
  · exact ⟨rfl, rfl, ok.m⟩
  exact zeroE_ok
theorem size_none {t : ByteArray} : t.size = 0 ↔ t = ⟨#[]⟩ :=
  ⟨fun h => empty_of h, fun h => by rw [h]; rfl⟩
theorem told_right (x : EnT) : rightE x = true ↔ (toldB x = true ∧ bareE x = x) := by
  by_cases h1 : x.k = 1
  · rw [right_user h1]
    unfold toldB bareE userR
    rw [if_pos h1, if_pos h1]
    cases x
    simp only [Bool.and_eq_true, decide_eq_true_eq, eqSB_iff, eqCB_iff, EnT.mk.injEq, true_and]
    constructor
    · rintro ⟨a, b, c, d, e⟩; exact ⟨⟨a, b, c⟩, d.symm, e.symm⟩
    · rintro ⟨⟨a, b, c⟩, d, e⟩; exact ⟨a, b, c, d.symm, e.symm⟩
  by_cases h2 : x.k = 2
  · rw [right_anchor h2]
    unfold toldB bareE
    rw [if_neg h1, if_neg h1, if_pos h2, if_pos h2]
    cases x
    simp only [Bool.and_eq_true, decide_eq_true_eq, eqSB_iff, eqCB_iff, EnT.mk.injEq, true_and, size_none]
    constructor
    · rintro ⟨a, b, c, d, e⟩; exact ⟨d, a.symm, b.symm, c.symm, e.symm⟩
    · rintro ⟨d, a, b, c, e⟩; exact ⟨a.symm, b.symm, c.symm, d, e.symm⟩
  by_cases h3 : x.k = 3
  · rw [right_claim h3]
    unfold toldB bareE
    rw [if_neg h1, if_neg h1, if_neg h2, if_neg h2, if_pos h3, if_pos h3]
    cases x
    simp only [Bool.and_eq_true, decide_eq_true_eq, eqSB_iff, eqCB_iff, EnT.mk.injEq, true_and, and_true, size_none]
    constructor
    · rintro ⟨a, b, c, d, e⟩; exact ⟨e, a.symm, b.symm, c.symm, d.symm⟩
    · rintro ⟨e, a, b, c, d⟩; exact ⟨a.symm, b.symm, c.symm, d.symm, e⟩
  rw [right_none h1 h2 h3]
  unfold toldB
  rw [if_neg h1, if_neg h2, if_neg h3]
  simp
set_option maxHeartbeats 2000000 in
theorem eUser_any (x : EnT) (ok : OkE x) (w : World) (X : Array Value) (HX : Hid (X = (ecells x).toArray)) :
    Calls Tryz.prog 135 #[.agg X] w fun e w' => e = .returned (.bool (userR x)) ∧ Below w.heap.size w w' := by
  have HR := erow_new w x ok X HX 35
  have HB : Hid (Below w.heap.size w (w.alloc (.cells X 35))) := (Below.refl _ _).alloc (Nat.le_refl _) _
  have c1 := HR.c
  have c2 := HR.s
  have c3 := HR.t
  simp only [Nat.zero_add] at c1 c2 c3
  unfold userR
  obtain ⟨b1, hb1⟩ : ∃ b, (decide (1 ≤ x.c) && decide (x.c ≤ 3)) = b := ⟨_, rfl⟩
  obtain ⟨b2, hb2⟩ : ∃ b, (decide (1 ≤ x.s) && decide (x.s ≤ 1000000)) = b := ⟨_, rfl⟩
  obtain ⟨b3, hb3⟩ : ∃ b, decide (x.t.size ≤ 200) = b := ⟨_, rfl⟩
  have hb3' : decide ((x.t.size : Int) ≤ 200) = b3 := by rw [← hb3, Bool.eq_iff_iff, decide_eq_true_eq, decide_eq_true_eq]; omega
  have W1 := hidk (eWithin_any x.c 1 3)
  have W2 := hidk (eWithin_any x.s 1 1000000)
  rw [hb1] at W1
  rw [hb2] at W2
  rw [hb1, hb2, hb3]
  obtain ⟨c, hc⟩ : ∃ c, c = x.c := ⟨_, rfl⟩
  obtain ⟨s, hs⟩ : ∃ c, c = x.s := ⟨_, rfl⟩
  obtain ⟨t, ht⟩ : ∃ c, c = x.t := ⟨_, rfl⟩
  rw [← hc] at c1 W1
  rw [← hs] at c2 W2
  rw [← ht] at c3 hb3 hb3'
  clear hb1 hb2 HR HX ok hc hs ht
  cases b1
  · go_enter Tryz.func135, Tryz.ntmps135
    go_wp2_with fail
    refine (W1.out _).mono ?_
    rintro e w1 ⟨rfl, rfl⟩
    go_wp2
    go_ret
    exact ⟨rfl, HB.out⟩
  cases b2
  · go_enter Tryz.func135, Tryz.ntmps135
    go_wp2_with fail
    refine (W1.out _).mono ?_
    rintro e w1 ⟨rfl, rfl⟩
    go_wp2_with fail
    refine (W2.out _).mono ?_
    rintro e w1 ⟨rfl, rfl⟩
    go_wp2
    go_ret
    exact ⟨rfl, HB.out⟩
  · go_enter Tryz.func135, Tryz.ntmps135
    go_wp2_with fail
    refine (W1.out _).mono ?_
    rintro e w1 ⟨rfl, rfl⟩
    go_wp2_with fail
    refine (W2.out _).mono ?_
    rintro e w1 ⟨rfl, rfl⟩
    go_wp2
    go_ret
    exact ⟨rfl, HB.out⟩
set_option maxHeartbeats 2000000 in
theorem eMay_any (s : SgT) (hd : s.h.d.length = 32) (w : World) (C : Array Value) (HC : Hid (C = (scells s).toArray)) :
    Calls Tryz.prog 136 #[.agg C] w fun e w' => e = .returned (.bool (mayS s)) ∧ Below w.heap.size w w' := by
  have HR := hidk (srow_new w s hd C HC 28)
  have HB : Hid (Below w.heap.size w (w.alloc (.cells C 28))) := (Below.refl _ _).alloc (Nat.le_refl _) _
  obtain ⟨HCs, HHC, HSH, H36⟩ := head_row s.h hd
  have HRH : Hid ((w.alloc (.cells C 28)).rangeAt w.heap.size 0 HCs.toList) := by rw [HHC.out]; exact HR.out.h
  obtain ⟨n, Hn⟩ : ∃ n, Hid (n = s.n) := ⟨s.n, hidk rfl⟩
  obtain ⟨b2, hb2⟩ : ∃ b, (decide (1 ≤ n) && decide (n ≤ 3)) = b := ⟨_, rfl⟩
  obtain ⟨E, hE0⟩ : ∃ E, E = putE s.h := ⟨_, rfl⟩
  have R1 : Hid (∀ W, Calls Tryz.prog 64 #[.agg HCs] W fun e w' => e = .returned (.int .i64 E) ∧ Below W.heap.size W w') := fun W => by rw [hE0]; exact hCheck_any s.h hd W HCs HHC
  have W2 : Hid (∀ W, Calls Tryz.prog 97 #[.int .i64 n, .int .i64 1, .int .i64 3] W fun e w' => e = .returned (.bool b2) ∧ w' = W) := fun W => by rw [← hb2]; exact eWithin_any n 1 3 W
  have hM : mayS s = (rightH s.h && b2) := by
    rw [← hb2, Hn.out]
    unfold mayS
    rw [Bool.and_assoc]
  rw [hM]
  have hp := putE_ok s.h
  rw [← hE0] at hp
  clear hM hb2 HC hE0
  rcases hp with ⟨rfl, hr⟩ | ⟨rfl, hr⟩
  · rw [hr]
    clear hr
    go_enter Tryz.func136, Tryz.ntmps136
    go_wp2_with (first
      | (show aD 4 _ _ _ _ _ _ _ _ _ _ _; refine wpList_mid rfl 26 (.tmp 3) rfl w.heap.size 0 rfl HCs _ HRH.out Tryz.underlying26 rfl HSH.out ?_; try simp only [Act.put, pS1, pS2, pS3])
      | fail)
    refine (R1.out _).mono ?_
    rintro e w1 ⟨rfl, hb⟩
    have HB1 := hidk (HB.out.trans (hb.mono HB.out.size))
    have hc := (HR.out.keep hb).n
    rw [← Hn.out, Nat.zero_add] at hc
    clear hb
    go_wp2_with fail
    refine (W2.out _).mono ?_
    rintro e w2 ⟨rfl, rfl⟩
    go_wp2
    go_ret
    exact ⟨rfl, HB1.out⟩
  · rw [hr]
    clear hr
    go_enter Tryz.func136, Tryz.ntmps136
    go_wp2_with (first
      | (show aD 4 _ _ _ _ _ _ _ _ _ _ _; refine wpList_mid rfl 26 (.tmp 3) rfl w.heap.size 0 rfl HCs _ HRH.out Tryz.underlying26 rfl HSH.out ?_; try simp only [Act.put, pS1, pS2, pS3])
      | fail)
    refine (R1.out _).mono ?_
    rintro e w1 ⟨rfl, hb⟩
    have HB1 := hidk (HB.out.trans (hb.mono HB.out.size))
    clear hb
    go_wp2
    go_ret
    exact ⟨rfl, HB1.out⟩
theorem builtE4 (k c s : Int) (t : ByteArray) (R : Array Value) (HR : Hid (R = (ecells ⟨k, c, s, t, zeroS, zeroC⟩).toArray)) : Tryz.prog.built 35 [(0, .int .i64 k), (1, .int .i64 c), (2, .int .i64 s), (3, .string t)] = some R := by
  have hi := infoE
  cases hq : Tryz.prog.info? 35 with
  | none => rw [hq] at hi; cases hi
  | some i =>
    rw [hq] at hi
    simp only [Option.map_some, Option.some.injEq, Prod.mk.injEq] at hi
    have hH : (Tryz.prog.info? 31).map (·.size) = some 1 := by kernel_rfl
    have h9 : (Tryz.prog.info? 9).map (·.size) = some 1 := by kernel_rfl
    have h3 : (Tryz.prog.info? 3).map (·.size) = some 1 := by kernel_rfl
    have hS := sizeS
    have hC := sizeC
    cases hqH : Tryz.prog.info? 31 with
    | none => rw [hqH] at hH; cases hH
    | some iH =>
    cases hq9 : Tryz.prog.info? 9 with
    | none => rw [hq9] at h9; cases h9
    | some i9 =>
    cases hq3 : Tryz.prog.info? 3 with
    | none => rw [hq3] at h3; cases h3
    | some i3 =>
    cases hqS : Tryz.prog.info? 28 with
    | none => rw [hqS] at hS; cases hS
    | some iS =>
    cases hqC : Tryz.prog.info? 33 with
    | none => rw [hqC] at hC; cases hC
    | some iC =>
    rw [hqH] at hH
    rw [hq9] at h9
    rw [hq3] at h3
    rw [hqS] at hS
    rw [hqC] at hC
    simp only [Option.map_some, Option.some.injEq] at hH h9 h3 hS hC
    unfold Program.built
    simp only [hq, Tryz.underlying35, hi.1, List.mapM_cons, List.mapM_nil, hqH, hq9, hq3, hqS, hqC, hH, h9, h3, hS, hC, Option.map_some, Option.bind_eq_bind, Option.bind_some, Option.pure_def]
    show Instr.fill _ (ecells zeroE).toArray _ = some R
    refine (fill_val _ 0 0 1 (.int .i64 k) #[.int .i64 k] _ [] [.int .i64 0] ([.int .i64 0, .int .i64 0, .string ByteArray.empty] ++ scells zeroS ++ ccells zeroC) _ rfl rfl rfl (by simp [ecells, zeroE]) rfl rfl).trans ?_
    refine (fill_val _ 1 1 1 (.int .i64 c) #[.int .i64 c] _ [.int .i64 k] [.int .i64 0] ([.int .i64 0, .string ByteArray.empty] ++ scells zeroS ++ ccells zeroC) _ rfl rfl rfl (by simp) rfl rfl).trans ?_
    refine (fill_val _ 2 2 1 (.int .i64 s) #[.int .i64 s] _ [.int .i64 k, .int .i64 c] [.int .i64 0] ([.string ByteArray.empty] ++ scells zeroS ++ ccells zeroC) _ rfl rfl rfl (by simp) rfl rfl).trans ?_
    refine (fill_val _ 3 3 1 (.string t) #[.string t] _ [.int .i64 k, .int .i64 c, .int .i64 s] [.string ByteArray.empty] (scells zeroS ++ ccells zeroC) _ rfl rfl rfl (by simp) rfl rfl).trans ?_
    simp only [Instr.fill, List.append_nil, Option.some.injEq]
    rw [HR.out]
    rfl
theorem builtEh (k : Int) (h : SgT) (hd : h.h.d.length = 32) (hg : h.g.length = 32) (Q R : Array Value) (HQ : Hid (Q = (scells h).toArray)) (HR : Hid (R = (ecells ⟨k, 0, 0, ⟨#[]⟩, h, zeroC⟩).toArray)) : Tryz.prog.built 35 [(0, .int .i64 k), (4, .agg Q)] = some R := by
  have hi := infoE
  cases hq : Tryz.prog.info? 35 with
  | none => rw [hq] at hi; cases hi
  | some i =>
    rw [hq] at hi
    simp only [Option.map_some, Option.some.injEq, Prod.mk.injEq] at hi
    have hH : (Tryz.prog.info? 31).map (·.size) = some 1 := by kernel_rfl
    have h9 : (Tryz.prog.info? 9).map (·.size) = some 1 := by kernel_rfl
    have h3 : (Tryz.prog.info? 3).map (·.size) = some 1 := by kernel_rfl
    have hS := sizeS
    have hC := sizeC
    cases hqH : Tryz.prog.info? 31 with
    | none => rw [hqH] at hH; cases hH
    | some iH =>
    cases hq9 : Tryz.prog.info? 9 with
    | none => rw [hq9] at h9; cases h9
    | some i9 =>
    cases hq3 : Tryz.prog.info? 3 with
    | none => rw [hq3] at h3; cases h3
    | some i3 =>
    cases hqS : Tryz.prog.info? 28 with
    | none => rw [hqS] at hS; cases hS
    | some iS =>
    cases hqC : Tryz.prog.info? 33 with
    | none => rw [hqC] at hC; cases hC
    | some iC =>
    rw [hqH] at hH
    rw [hq9] at h9
    rw [hq3] at h3
    rw [hqS] at hS
    rw [hqC] at hC
    simp only [Option.map_some, Option.some.injEq] at hH h9 h3 hS hC
    unfold Program.built
    simp only [hq, Tryz.underlying35, hi.1, List.mapM_cons, List.mapM_nil, hqH, hq9, hq3, hqS, hqC, hH, h9, h3, hS, hC, Option.map_some, Option.bind_eq_bind, Option.bind_some, Option.pure_def]
    show Instr.fill _ (ecells zeroE).toArray _ = some R
    refine (fill_val _ 0 0 1 (.int .i64 k) #[.int .i64 k] _ [] [.int .i64 0] ([.int .i64 0, .int .i64 0, .string ByteArray.empty] ++ scells zeroS ++ ccells zeroC) _ rfl rfl rfl (by simp [ecells, zeroE]) rfl rfl).trans ?_
    refine (fill_val _ 4 4 69 (.agg Q) Q _ [.int .i64 k, .int .i64 0, .int .i64 0, .string ByteArray.empty] (scells zeroS) (ccells zeroC) _ rfl rfl (by rw [HQ.out]; simp [scells_length h hd hg]) (by simp) rfl (scells_length zeroS rfl rfl)).trans ?_
    simp only [Instr.fill, List.append_nil, Option.some.injEq]
    rw [HR.out, HQ.out]
    rfl
theorem builtEm (k : Int) (m : ClT) (hd : m.d.length = 32) (Q R : Array Value) (HQ : Hid (Q = (ccells m).toArray)) (HR : Hid (R = (ecells ⟨k, 0, 0, ⟨#[]⟩, zeroS, m⟩).toArray)) : Tryz.prog.built 35 [(0, .int .i64 k), (5, .agg Q)] = some R := by
  have hi := infoE
  cases hq : Tryz.prog.info? 35 with
  | none => rw [hq] at hi; cases hi
  | some i =>
    rw [hq] at hi
    simp only [Option.map_some, Option.some.injEq, Prod.mk.injEq] at hi
    have hH : (Tryz.prog.info? 31).map (·.size) = some 1 := by kernel_rfl
    have h9 : (Tryz.prog.info? 9).map (·.size) = some 1 := by kernel_rfl
    have h3 : (Tryz.prog.info? 3).map (·.size) = some 1 := by kernel_rfl
    have hS := sizeS
    have hC := sizeC
    cases hqH : Tryz.prog.info? 31 with
    | none => rw [hqH] at hH; cases hH
    | some iH =>
    cases hq9 : Tryz.prog.info? 9 with
    | none => rw [hq9] at h9; cases h9
    | some i9 =>
    cases hq3 : Tryz.prog.info? 3 with
    | none => rw [hq3] at h3; cases h3
    | some i3 =>
    cases hqS : Tryz.prog.info? 28 with
    | none => rw [hqS] at hS; cases hS
    | some iS =>
    cases hqC : Tryz.prog.info? 33 with
    | none => rw [hqC] at hC; cases hC
    | some iC =>
    rw [hqH] at hH
    rw [hq9] at h9
    rw [hq3] at h3
    rw [hqS] at hS
    rw [hqC] at hC
    simp only [Option.map_some, Option.some.injEq] at hH h9 h3 hS hC
    unfold Program.built
    simp only [hq, Tryz.underlying35, hi.1, List.mapM_cons, List.mapM_nil, hqH, hq9, hq3, hqS, hqC, hH, h9, h3, hS, hC, Option.map_some, Option.bind_eq_bind, Option.bind_some, Option.pure_def]
    show Instr.fill _ (ecells zeroE).toArray _ = some R
    refine (fill_val _ 0 0 1 (.int .i64 k) #[.int .i64 k] _ [] [.int .i64 0] ([.int .i64 0, .int .i64 0, .string ByteArray.empty] ++ scells zeroS ++ ccells zeroC) _ rfl rfl rfl (by simp [ecells, zeroE]) rfl rfl).trans ?_
    refine (fill_val _ 5 73 36 (.agg Q) Q _ ([.int .i64 k, .int .i64 0, .int .i64 0, .string ByteArray.empty] ++ scells zeroS) (ccells zeroC) [] _ rfl rfl (by rw [HQ.out]; simp [ccells_length m hd]) (by simp) (by simp [scells_length zeroS rfl rfl]) (ccells_length zeroC rfl)).trans ?_
    simp only [Instr.fill, List.append_nil, Option.some.injEq]
    rw [HR.out, HQ.out]
    rfl
set_option maxHeartbeats 8000000 in
theorem eTold_user (x : EnT) (ok : OkE x) (hk : x.k = 1) (w : World) (X B : Array Value) (HX : Hid (X = (ecells x).toArray)) (HB : Hid (B = (ecells (bareE x)).toArray)) :
    Calls Tryz.prog 128 #[.agg X] w fun e w' => e = .returned (.tuple #[.agg B, .bool (toldB x)]) ∧ Below w.heap.size w w' := by
  obtain ⟨Z, HZ, HA, HBZ, HNZ⟩ := noughtsE
  have HSX : Hid ((Tryz.prog.info? 35).map (·.size) = some X.size) := by show _ = _; rw [sizeE, HX.out]; simp [ecells_length _ ok]
  have HSB : Hid ((Tryz.prog.info? 35).map (·.size) = some B.size) := by show _ = _; rw [sizeE, HB.out]; simp [ecells_length _ (bareE_ok ok)]
  have H1B : Hid (B.all (·.oneCell') = true) := by show _ = _; rw [HB.out]; exact one_cellsE _
  have HZB : Hid (Z.size = B.size) := by show _ = _; rw [HNZ.out, HB.out]; simp [ecells_length _ (bareE_ok ok)]
  have HX0 : Hid ((w.alloc (.cells X 35)).heap[w.heap.size]? = some (.cells X 35 (0, 0))) := heap_alloc_new w _
  have HW0 : Hid (Below w.heap.size w (w.alloc (.cells X 35))) := (Below.refl _ _).alloc (Nat.le_refl _) _
  have ER : Hid (∀ W : World, W.heap[w.heap.size]? = some (.cells X 35 (0, 0)) → ERow W w.heap.size 0 x) := fun W h => erow_row ok HX h
  have K0 : Hid (∀ W : World, W.heap[w.heap.size]? = some (.cells X 35 (0, 0)) → W.cell? ⟨w.heap.size, 0, none⟩ = some (.int .i64 1)) := fun W h => by have := (ER.out W h).k; rwa [hk] at this
  obtain ⟨c, Hc⟩ : ∃ c, Hid (c = x.c) := ⟨_, hidk rfl⟩
  obtain ⟨s, Hs⟩ : ∃ c, Hid (c = x.s) := ⟨_, hidk rfl⟩
  obtain ⟨t, Ht⟩ : ∃ c, Hid (c = x.t) := ⟨_, hidk rfl⟩
  have K1 : Hid (∀ W : World, W.heap[w.heap.size]? = some (.cells X 35 (0, 0)) → W.cell? ⟨w.heap.size, 1, none⟩ = some (.int .i64 c)) := fun W h => by have := (ER.out W h).c; rwa [← Hc.out, Nat.zero_add] at this
  have K2 : Hid (∀ W : World, W.heap[w.heap.size]? = some (.cells X 35 (0, 0)) → W.cell? ⟨w.heap.size, 2, none⟩ = some (.int .i64 s)) := fun W h => by have := (ER.out W h).s; rwa [← Hs.out, Nat.zero_add] at this
  have K3 : Hid (∀ W : World, W.heap[w.heap.size]? = some (.cells X 35 (0, 0)) → W.cell? ⟨w.heap.size, 3, none⟩ = some (.string t)) := fun W h => by have := (ER.out W h).t; rwa [← Ht.out, Nat.zero_add] at this
  have BH : Hid (∀ W, (Instr.build 35 #[(0, .int .i64 1), (1, .int .i64 c), (2, .int .i64 s), (3, .string t)]).run Tryz.prog W = .ok (.agg B) W) := fun W => by
    refine run_build W 35 _ B (builtE4 1 c s t B ?_)
    show _ = _
    rw [HB.out, Hc.out, Hs.out, Ht.out]
    unfold bareE
    rw [if_pos hk, hk]
  obtain ⟨u, hu⟩ : ∃ u, u = userR x := ⟨_, rfl⟩
  have U1 : Hid (∀ W, Calls Tryz.prog 135 #[.agg X] W fun e w' => e = .returned (.bool u) ∧ Below W.heap.size W w') := fun W => by rw [hu]; exact eUser_any x ok W X HX
  rw [show toldB x = u by unfold toldB; rw [if_pos hk, hu]]
  clear HX HB HZ HBZ HNZ ok hk hu ER Hc Hs Ht
  go_enter Tryz.func128, Tryz.ntmps128
  go_wp2_with (first
    | (show aD 2 _ _ _ _ _ _ _ _ _ _ _; refine wpList_new_var rfl 35 rfl Z HA.out ?_; intro g2 w1 HM2; have c0 := K0.out w1 ((HM2.out.below.block _ (heap_lt HX0.out)).trans HX0.out); try simp only [Act.put, pS1, pS2, pS3])
    | fail)
  have hg2 : w.heap.size < g2 := by rw [HM2.out.new]; exact heap_lt HX0.out
  have HX1 := hidk ((HM2.out.below.block _ (heap_lt HX0.out)).trans HX0.out)
  have HR2 := hidk HM2.out.row
  have HB1 := hidk (HW0.out.trans (HM2.out.below.mono HW0.out.size))
  clear HM2 HX0 HW0 c0
  refine wp_region_held_drew (S := (fun W => W.heap[w.heap.size]? = some (.cells X 35 (0, 0)))) (by kernel_rfl) HX1.out (fun hHeld => ?_)
  refine zX 0 (.pointer (some ⟨w.heap.size, 0, none⟩)) rfl hHeld ?_
  try simp only [Act.put, pS1, pS2, pS3]
  refine zW 1 (.int .i64 1) rfl (Or.inl ⟨by rfl, by intro W hSw; have h1 := K0.out W hSw; go_simp⟩) hHeld ?_
  try simp only [Act.put, pS1, pS2, pS3]
  refine zX 2 (.pointer (some ⟨w.heap.size, 1, none⟩)) rfl hHeld ?_
  try simp only [Act.put, pS1, pS2, pS3]
  refine zW 3 (.int .i64 c) rfl (Or.inl ⟨by rfl, by intro W hSw; have h1 := K1.out W hSw; go_simp⟩) hHeld ?_
  try simp only [Act.put, pS1, pS2, pS3]
  refine zX 4 (.pointer (some ⟨w.heap.size, 2, none⟩)) rfl hHeld ?_
  try simp only [Act.put, pS1, pS2, pS3]
  refine zW 5 (.int .i64 s) rfl (Or.inl ⟨by rfl, by intro W hSw; have h1 := K2.out W hSw; go_simp⟩) hHeld ?_
  try simp only [Act.put, pS1, pS2, pS3]
  refine zX 6 (.pointer (some ⟨w.heap.size, 3, none⟩)) rfl hHeld ?_
  try simp only [Act.put, pS1, pS2, pS3]
  refine zW 7 (.string t) rfl (Or.inl ⟨by rfl, by intro W hSw; have h1 := K3.out W hSw; go_simp⟩) hHeld ?_
  try simp only [Act.put, pS1, pS2, pS3]
  refine zW 8 (.agg B) rfl (yieldsIf_build (by rfl) 35 _ rfl #[(0, .int .i64 1), (1, .int .i64 c), (2, .int .i64 s), (3, .string t)] rfl (.agg B) BH.out) hHeld ?_
  try simp only [Act.put, pS1, pS2, pS3]
  refine zW 9 (.agg X) rfl (yieldsIf_row (by rfl) 35 (.tmp 1) rfl w.heap.size rfl 35 X (0, 0) _ (fun _ h => h) Tryz.underlying35 rfl HSX.out) hHeld ?_
  try simp only [Act.put, pS1, pS2, pS3]
  refine wpAnyH_ready (rs := [10]) (by kernel_rfl) (by simp) ?_
  refine (AllReadyH.cons (o := { dst := some 18, op := .call { callee := .value (.func 135), args := #[.tmp 17], argTypes := #[35] }, type := 4, pos := "entry.go:120", after := #[zD 9], guard := none }) rfl (fun K hK => ?_) AllReadyH.nil)
  go_simp
  refine (U1.out _).mono ?_
  rintro e w10 ⟨rfl, hbc⟩
  have HBc := hidk (HB1.out.drew.trans (hbc.mono HB1.out.size))
  have HR2c := hidk ((hbc.block g2 (heap_lt HR2.out)).trans HR2.out)
  go_wp2_with fail
  refine hK.out _ _ ((hbc.block _ (heap_lt HX1.out)).trans HX1.out) (fun hHeld => ?_)
  clear hK K
  try simp only [Act.put, pS1, pS2, pS3]
  refine wpAnyH_ready (rs := [11]) (by kernel_rfl) (by simp) ?_
  refine (AllReadyH.cons (o := { dst := none, op := .store 35 (.tmp 2) (.tmp 16), type := 0, pos := "entry.go:120", after := #[zD 8, zC 10, zP 0, zP 1, zP 2, zP 3, zP 4, zP 5, zP 6, zP 7, zP 8, { on := 9, ground := Ground.textOnly Departure.lateStores }, { on := 10, ground := Ground.textOnly Departure.lateStoresUnsure }], guard := none }) rfl (fun K hK => ?_) AllReadyH.nil)
  refine step_set_var (by rfl) 35 (.tmp 2) (.tmp 16) rfl g2 B rfl rfl 35 Z HR2c.out HSB.out HZB.out H1B.out ?_
  intro wz HW2
  refine hK.out _ _ ((HW2.out.other _ (by omega)).trans hHeld) (fun hHeld => ?_)
  clear hK K
  try simp only [Act.put, pS1, pS2, pS3]
  refine zX 12 (.bool u) rfl hHeld ?_
  try simp only [Act.put, pS1, pS2, pS3]
  refine wpAnyH_done (by kernel_rfl) ?_ _
  go_wp2_with fail
  refine bodyPost_ret (v := .tuple #[.agg B, .bool u]) ?_ rfl ⟨rfl, HW2.out.below _ _ HBc.out (by omega)⟩
  exact results_row_tmp (p := 2) (q := 3) (ty := 35) rfl _ _ g2 35 B (0, 0) _ rfl HW2.out.row Tryz.underlying35 rfl HSB.out
set_option maxHeartbeats 8000000 in
theorem eTold_anchor (x : EnT) (ok : OkE x) (hk : x.k = 2) (w : World) (X B : Array Value) (HX : Hid (X = (ecells x).toArray)) (HB : Hid (B = (ecells (bareE x)).toArray)) :
    Calls Tryz.prog 128 #[.agg X] w fun e w' => e = .returned (.tuple #[.agg B, .bool (toldB x)]) ∧ Below w.heap.size w w' := by
  obtain ⟨Z, HZ, HA, HBZ, HNZ⟩ := noughtsE
  have HSX : Hid ((Tryz.prog.info? 35).map (·.size) = some X.size) := by show _ = _; rw [sizeE, HX.out]; simp [ecells_length _ ok]
  have HSB : Hid ((Tryz.prog.info? 35).map (·.size) = some B.size) := by show _ = _; rw [sizeE, HB.out]; simp [ecells_length _ (bareE_ok ok)]
  have H1B : Hid (B.all (·.oneCell') = true) := by show _ = _; rw [HB.out]; exact one_cellsE _
  have HZB : Hid (Z.size = B.size) := by show _ = _; rw [HNZ.out, HB.out]; simp [ecells_length _ (bareE_ok ok)]
  have HX0 : Hid ((w.alloc (.cells X 35)).heap[w.heap.size]? = some (.cells X 35 (0, 0))) := heap_alloc_new w _
  have HW0 : Hid (Below w.heap.size w (w.alloc (.cells X 35))) := (Below.refl _ _).alloc (Nat.le_refl _) _
  have ER : Hid (∀ W : World, W.heap[w.heap.size]? = some (.cells X 35 (0, 0)) → ERow W w.heap.size 0 x) := fun W h => erow_row ok HX h
  have K0 : Hid (∀ W : World, W.heap[w.heap.size]? = some (.cells X 35 (0, 0)) → W.cell? ⟨w.heap.size, 0, none⟩ = some (.int .i64 2)) := fun W h => by have := (ER.out W h).k; rwa [hk] at this
  obtain ⟨Q, HQ, HSQ, H1Q, H69Q⟩ := sign_row x.h ok.h ok.g
  have KQ : Hid (∀ W : World, W.heap[w.heap.size]? = some (.cells X 35 (0, 0)) → W.rangeAt w.heap.size 4 Q.toList) := fun W h => by have := (ER.out W h).h; rw [HQ.out]; simpa using this
  have BH : Hid (∀ W, (Instr.build 35 #[(0, .int .i64 2), (4, .agg Q)]).run Tryz.prog W = .ok (.agg B) W) := fun W => by
    refine run_build W 35 _ B (builtEh 2 x.h ok.h ok.g Q B HQ ?_)
    show _ = _
    rw [HB.out]
    unfold bareE
    rw [if_neg (by omega), if_pos hk, hk]
  obtain ⟨u, hu⟩ : ∃ u, u = mayS x.h := ⟨_, rfl⟩
  have U1 : Hid (∀ W, Calls Tryz.prog 136 #[.agg Q] W fun e w' => e = .returned (.bool u) ∧ Below W.heap.size W w') := fun W => by rw [hu]; exact eMay_any x.h ok.h W Q HQ
  rw [show toldB x = u by unfold toldB; rw [if_neg (by omega), if_pos hk, hu]]
  clear HX HB HZ HBZ HNZ ok hk hu ER HQ
  go_enter Tryz.func128, Tryz.ntmps128
  go_wp2_with (first
    | (show aD 2 _ _ _ _ _ _ _ _ _ _ _; refine wpList_new_var rfl 35 rfl Z HA.out ?_; intro g2 w1 HM2; have c0 := K0.out w1 ((HM2.out.below.block _ (heap_lt HX0.out)).trans HX0.out); try simp only [Act.put, pS1, pS2, pS3])
    | fail)
  have hg2 : w.heap.size < g2 := by rw [HM2.out.new]; exact heap_lt HX0.out
  have HX1 := hidk ((HM2.out.below.block _ (heap_lt HX0.out)).trans HX0.out)
  have HR2 := hidk HM2.out.row
  have HB1 := hidk (HW0.out.trans (HM2.out.below.mono HW0.out.size))
  clear HM2 HX0 HW0 c0
  refine wp_region_held_drew (S := (fun W => W.heap[w.heap.size]? = some (.cells X 35 (0, 0)))) (by kernel_rfl) HX1.out (fun hHeld => ?_)
  refine zX 0 (.pointer (some ⟨w.heap.size, 0, none⟩)) rfl hHeld ?_
  try simp only [Act.put, pS1, pS2, pS3]
  refine zW 1 (.int .i64 2) rfl (Or.inl ⟨by rfl, by intro W hSw; have h1 := K0.out W hSw; go_simp⟩) hHeld ?_
  try simp only [Act.put, pS1, pS2, pS3]
  refine zX 2 (.pointer (some ⟨w.heap.size, 4, none⟩)) rfl hHeld ?_
  try simp only [Act.put, pS1, pS2, pS3]
  refine zW 3 (.agg Q) rfl (yieldsIf_mid (by rfl) 28 (.tmp 23) rfl w.heap.size 4 rfl Q _ (fun W h => KQ.out W h) Tryz.underlying28 rfl HSQ.out) hHeld ?_
  try simp only [Act.put, pS1, pS2, pS3]
  refine zW 4 (.agg B) rfl (yieldsIf_build (by rfl) 35 _ rfl #[(0, .int .i64 2), (4, .agg Q)] rfl (.agg B) BH.out) hHeld ?_
  try simp only [Act.put, pS1, pS2, pS3]
  refine zX 5 (.pointer (some ⟨w.heap.size, 4, none⟩)) rfl hHeld ?_
  try simp only [Act.put, pS1, pS2, pS3]
  refine zW 6 (.agg Q) rfl (yieldsIf_mid (by rfl) 28 (.tmp 26) rfl w.heap.size 4 rfl Q _ (fun W h => KQ.out W h) Tryz.underlying28 rfl HSQ.out) hHeld ?_
  try simp only [Act.put, pS1, pS2, pS3]
  refine wpAnyH_ready (rs := [7]) (by kernel_rfl) (by simp) ?_
  refine (AllReadyH.cons (o := { dst := some 28, op := .call { callee := .value (.func 136), args := #[.tmp 27], argTypes := #[28] }, type := 4, pos := "entry.go:122", after := #[zD 6], guard := none }) rfl (fun K hK => ?_) AllReadyH.nil)
  go_simp
  refine (U1.out _).mono ?_
  rintro e w7 ⟨rfl, hbc⟩
  have HBc := hidk (HB1.out.drew.trans (hbc.mono HB1.out.size))
  have HR2c := hidk ((hbc.block g2 (heap_lt HR2.out)).trans HR2.out)
  go_wp2_with fail
  refine hK.out _ _ ((hbc.block _ (heap_lt HX1.out)).trans HX1.out) (fun hHeld => ?_)
  clear hK K
  try simp only [Act.put, pS1, pS2, pS3]
  refine wpAnyH_ready (rs := [8]) (by kernel_rfl) (by simp) ?_
  refine (AllReadyH.cons (o := { dst := none, op := .store 35 (.tmp 2) (.tmp 25), type := 0, pos := "entry.go:122", after := #[zD 4, zC 7, zP 0, zP 1, zP 2, zP 3, zP 4, { on := 5, ground := Ground.textOnly Departure.lateStores }, { on := 6, ground := Ground.textOnly Departure.lateStores }, { on := 7, ground := Ground.textOnly Departure.lateStoresUnsure }], guard := none }) rfl (fun K hK => ?_) AllReadyH.nil)
  refine step_set_var (by rfl) 35 (.tmp 2) (.tmp 25) rfl g2 B rfl rfl 35 Z HR2c.out HSB.out HZB.out H1B.out ?_
  intro wz HW2
  refine hK.out _ _ ((HW2.out.other _ (by omega)).trans hHeld) (fun hHeld => ?_)
  clear hK K
  try simp only [Act.put, pS1, pS2, pS3]
  refine zX 9 (.bool u) rfl hHeld ?_
  try simp only [Act.put, pS1, pS2, pS3]
  refine wpAnyH_done (by kernel_rfl) ?_ _
  go_wp2_with fail
  refine bodyPost_ret (v := .tuple #[.agg B, .bool u]) ?_ rfl ⟨rfl, HW2.out.below _ _ HBc.out (by omega)⟩
  exact results_row_tmp (p := 2) (q := 3) (ty := 35) rfl _ _ g2 35 B (0, 0) _ rfl HW2.out.row Tryz.underlying35 rfl HSB.out
set_option maxHeartbeats 8000000 in
theorem eTold_claim (x : EnT) (ok : OkE x) (hk : x.k = 3) (w : World) (X B : Array Value) (HX : Hid (X = (ecells x).toArray)) (HB : Hid (B = (ecells (bareE x)).toArray)) :
    Calls Tryz.prog 128 #[.agg X] w fun e w' => e = .returned (.tuple #[.agg B, .bool (toldB x)]) ∧ Below w.heap.size w w' := by
  obtain ⟨Z, HZ, HA, HBZ, HNZ⟩ := noughtsE
  have HSX : Hid ((Tryz.prog.info? 35).map (·.size) = some X.size) := by show _ = _; rw [sizeE, HX.out]; simp [ecells_length _ ok]
  have HSB : Hid ((Tryz.prog.info? 35).map (·.size) = some B.size) := by show _ = _; rw [sizeE, HB.out]; simp [ecells_length _ (bareE_ok ok)]
  have H1B : Hid (B.all (·.oneCell') = true) := by show _ = _; rw [HB.out]; exact one_cellsE _
  have HZB : Hid (Z.size = B.size) := by show _ = _; rw [HNZ.out, HB.out]; simp [ecells_length _ (bareE_ok ok)]
  have HX0 : Hid ((w.alloc (.cells X 35)).heap[w.heap.size]? = some (.cells X 35 (0, 0))) := heap_alloc_new w _
  have HW0 : Hid (Below w.heap.size w (w.alloc (.cells X 35))) := (Below.refl _ _).alloc (Nat.le_refl _) _
  have ER : Hid (∀ W : World, W.heap[w.heap.size]? = some (.cells X 35 (0, 0)) → ERow W w.heap.size 0 x) := fun W h => erow_row ok HX h
  have K0 : Hid (∀ W : World, W.heap[w.heap.size]? = some (.cells X 35 (0, 0)) → W.cell? ⟨w.heap.size, 0, none⟩ = some (.int .i64 3)) := fun W h => by have := (ER.out W h).k; rwa [hk] at this
  obtain ⟨Q, HQ, HSQ, H1Q, H36Q⟩ := claim_row5 x.m ok.m
  have KQ : Hid (∀ W : World, W.heap[w.heap.size]? = some (.cells X 35 (0, 0)) → W.rangeAt w.heap.size 73 Q.toList) := fun W h => by have := (ER.out W h).m; rw [HQ.out]; simpa using this
  have BH : Hid (∀ W, (Instr.build 35 #[(0, .int .i64 3), (5, .agg Q)]).run Tryz.prog W = .ok (.agg B) W) := fun W => by
    refine run_build W 35 _ B (builtEm 3 x.m ok.m Q B HQ ?_)
    show _ = _
    rw [HB.out]
    unfold bareE
    rw [if_neg (by omega), if_neg (by omega), if_pos hk, hk]
  obtain ⟨E, hE⟩ : ∃ u, u = cE x.m := ⟨_, rfl⟩
  have U1 : Hid (∀ W, Calls Tryz.prog 137 #[.agg Q] W fun e w' => e = .returned (.int .i64 E) ∧ Below W.heap.size W w') := fun W => by rw [hE]; exact eCheckC_any x.m W Q HQ
  obtain ⟨u, hu, huE⟩ : ∃ u, u = rightC x.m ∧ (E == 0) = u := ⟨_, rfl, by rw [hE]; unfold cE; cases rightC x.m <;> rfl⟩
  rw [show toldB x = u by unfold toldB; rw [if_neg (by omega), if_neg (by omega), if_pos hk, hu]]
  have HUE := hidk huE
  clear HX HB HZ HBZ HNZ ok hk hu ER HQ hE huE
  go_enter Tryz.func128, Tryz.ntmps128
  go_wp2_with (first
    | (show aD 2 _ _ _ _ _ _ _ _ _ _ _; refine wpList_new_var rfl 35 rfl Z HA.out ?_; intro g2 w1 HM2; have c0 := K0.out w1 ((HM2.out.below.block _ (heap_lt HX0.out)).trans HX0.out); try simp only [Act.put, pS1, pS2, pS3])
    | fail)
  have hg2 : w.heap.size < g2 := by rw [HM2.out.new]; exact heap_lt HX0.out
  have HX1 := hidk ((HM2.out.below.block _ (heap_lt HX0.out)).trans HX0.out)
  have HR2 := hidk HM2.out.row
  have HB1 := hidk (HW0.out.trans (HM2.out.below.mono HW0.out.size))
  clear HM2 HX0 HW0 c0
  refine wp_region_held_drew (S := (fun W => W.heap[w.heap.size]? = some (.cells X 35 (0, 0)))) (by kernel_rfl) HX1.out (fun hHeld => ?_)
  refine zX 0 (.pointer (some ⟨w.heap.size, 0, none⟩)) rfl hHeld ?_
  try simp only [Act.put, pS1, pS2, pS3]
  refine zW 1 (.int .i64 3) rfl (Or.inl ⟨by rfl, by intro W hSw; have h1 := K0.out W hSw; go_simp⟩) hHeld ?_
  try simp only [Act.put, pS1, pS2, pS3]
  refine zX 2 (.pointer (some ⟨w.heap.size, 73, none⟩)) rfl hHeld ?_
  try simp only [Act.put, pS1, pS2, pS3]
  refine zW 3 (.agg Q) rfl (yieldsIf_mid (by rfl) 33 (.tmp 33) rfl w.heap.size 73 rfl Q _ (fun W h => KQ.out W h) Tryz.underlying33 rfl HSQ.out) hHeld ?_
  try simp only [Act.put, pS1, pS2, pS3]
  refine zW 4 (.agg B) rfl (yieldsIf_build (by rfl) 35 _ rfl #[(0, .int .i64 3), (5, .agg Q)] rfl (.agg B) BH.out) hHeld ?_
  try simp only [Act.put, pS1, pS2, pS3]
  refine zX 5 (.pointer (some ⟨w.heap.size, 73, none⟩)) rfl hHeld ?_
  try simp only [Act.put, pS1, pS2, pS3]
  refine zW 6 (.agg Q) rfl (yieldsIf_mid (by rfl) 33 (.tmp 36) rfl w.heap.size 73 rfl Q _ (fun W h => KQ.out W h) Tryz.underlying33 rfl HSQ.out) hHeld ?_
  try simp only [Act.put, pS1, pS2, pS3]
  refine wpAnyH_ready (rs := [7]) (by kernel_rfl) (by simp) ?_
  refine (AllReadyH.cons (o := { dst := some 38, op := .call { callee := .value (.func 137), args := #[.tmp 37], argTypes := #[33] }, type := 41, pos := "entry.go:124", after := #[zD 6], guard := none }) rfl (fun K hK => ?_) AllReadyH.nil)
  go_simp
  refine (U1.out _).mono ?_
  rintro e w7 ⟨rfl, hbc⟩
  have HBc := hidk (HB1.out.drew.trans (hbc.mono HB1.out.size))
  have HR2c := hidk ((hbc.block g2 (heap_lt HR2.out)).trans HR2.out)
  go_wp2_with fail
  refine hK.out _ _ ((hbc.block _ (heap_lt HX1.out)).trans HX1.out) (fun hHeld => ?_)
  clear hK K
  try simp only [Act.put, pS1, pS2, pS3]
  refine zW 8 (.bool u) rfl (Or.inl ⟨by rfl, by intro W hSw; have h1 := HUE.out; go_simp⟩) hHeld ?_
  try simp only [Act.put, pS1, pS2, pS3]
  refine wpAnyH_ready (rs := [9]) (by kernel_rfl) (by simp) ?_
  refine (AllReadyH.cons (o := { dst := none, op := .store 35 (.tmp 2) (.tmp 35), type := 0, pos := "entry.go:124", after := #[zD 4, zC 7, zP 0, zP 1, zP 2, zP 3, zP 4, { on := 5, ground := Ground.textOnly Departure.lateStores }, { on := 6, ground := Ground.textOnly Departure.lateStores }, { on := 7, ground := Ground.textOnly Departure.lateStoresUnsure }, { on := 8, ground := Ground.textOnly Departure.lateStores }], guard := none }) rfl (fun K hK => ?_) AllReadyH.nil)
  refine step_set_var (by rfl) 35 (.tmp 2) (.tmp 35) rfl g2 B rfl rfl 35 Z HR2c.out HSB.out HZB.out H1B.out ?_
  intro wz HW2
  refine hK.out _ _ ((HW2.out.other _ (by omega)).trans hHeld) (fun hHeld => ?_)
  clear hK K
  try simp only [Act.put, pS1, pS2, pS3]
  refine zX 10 (.bool u) rfl hHeld ?_
  try simp only [Act.put, pS1, pS2, pS3]
  refine wpAnyH_done (by kernel_rfl) ?_ _
  go_wp2_with fail
  refine bodyPost_ret (v := .tuple #[.agg B, .bool u]) ?_ rfl ⟨rfl, HW2.out.below _ _ HBc.out (by omega)⟩
  exact results_row_tmp (p := 2) (q := 3) (ty := 35) rfl _ _ g2 35 B (0, 0) _ rfl HW2.out.row Tryz.underlying35 rfl HSB.out
set_option maxHeartbeats 8000000 in
theorem eTold_none (x : EnT) (ok : OkE x) (hk : ¬ x.k = 1 ∧ ¬ x.k = 2 ∧ ¬ x.k = 3) (w : World) (X B : Array Value) (HX : Hid (X = (ecells x).toArray)) (HB : Hid (B = (ecells (bareE x)).toArray)) :
    Calls Tryz.prog 128 #[.agg X] w fun e w' => e = .returned (.tuple #[.agg B, .bool (toldB x)]) ∧ Below w.heap.size w w' := by
  obtain ⟨Z, HZ, HA, HBZ, HNZ⟩ := noughtsE
  have HSX : Hid ((Tryz.prog.info? 35).map (·.size) = some X.size) := by show _ = _; rw [sizeE, HX.out]; simp [ecells_length _ ok]
  have HSB : Hid ((Tryz.prog.info? 35).map (·.size) = some B.size) := by show _ = _; rw [sizeE, HB.out]; simp [ecells_length _ (bareE_ok ok)]
  have H1B : Hid (B.all (·.oneCell') = true) := by show _ = _; rw [HB.out]; exact one_cellsE _
  have HZB : Hid (Z.size = B.size) := by show _ = _; rw [HNZ.out, HB.out]; simp [ecells_length _ (bareE_ok ok)]
  have HX0 : Hid ((w.alloc (.cells X 35)).heap[w.heap.size]? = some (.cells X 35 (0, 0))) := heap_alloc_new w _
  have HW0 : Hid (Below w.heap.size w (w.alloc (.cells X 35))) := (Below.refl _ _).alloc (Nat.le_refl _) _
  have ER : Hid (∀ W : World, W.heap[w.heap.size]? = some (.cells X 35 (0, 0)) → ERow W w.heap.size 0 x) := fun W h => erow_row ok HX h
  obtain ⟨h1, h2, h3⟩ := hk
  obtain rfl : B = Z := by rw [HB.out, HZ.out]; unfold bareE; rw [if_neg h1, if_neg h2, if_neg h3]
  rw [show toldB x = false by unfold toldB; rw [if_neg h1, if_neg h2, if_neg h3]]
  have q1 : (x.k == 1) = false := by rw [beq_eq_false_iff_ne]; exact h1
  have q2 : (x.k == 2) = false := by rw [beq_eq_false_iff_ne]; exact h2
  have q3 : (x.k == 3) = false := by rw [beq_eq_false_iff_ne]; exact h3
  have d1 : decide (x.k = 1) = false := by rw [decide_eq_false_iff_not]; exact h1
  have d2 : decide (x.k = 2) = false := by rw [decide_eq_false_iff_not]; exact h2
  have d3 : decide (x.k = 3) = false := by rw [decide_eq_false_iff_not]; exact h3
  obtain ⟨k, hk⟩ : ∃ k, k = x.k := ⟨_, rfl⟩
  rw [← hk] at q1 q2 q3 d1 d2 d3 h1 h2 h3
  have K0 : Hid (∀ W : World, W.heap[w.heap.size]? = some (.cells X 35 (0, 0)) → W.cell? ⟨w.heap.size, 0, none⟩ = some (.int .i64 k)) := fun W h => by have := (ER.out W h).k; rwa [← hk] at this
  clear HX HB HZ HNZ ok hk ER
  go_enter Tryz.func128, Tryz.ntmps128
  go_wp2_with (first
    | (show aD 2 _ _ _ _ _ _ _ _ _ _ _; refine wpList_new_var rfl 35 rfl B HA.out ?_; intro g2 w1 HM2; have c0 := K0.out w1 ((HM2.out.below.block _ (heap_lt HX0.out)).trans HX0.out); try simp only [Act.put, pS1, pS2, pS3])
    | (show aD 40 _ _ _ _ _ _ _ _ _ _ _; refine wpList_build_none rfl 35 rfl B HBZ.out ?_; try simp only [Act.put, pS1, pS2, pS3])
    | (refine wpList_set_var rfl 35 (.tmp 2) (.tmp 40) rfl g2 B rfl rfl 35 B HM2.out.row HSB.out rfl H1B.out ?_; intro wz HW2; try simp only [Act.put, pS1, pS2, pS3])
    | fail)
  have hg2 : w.heap.size < g2 := by rw [HM2.out.new]; exact heap_lt HX0.out
  have HB1 := hidk (HW0.out.trans (HM2.out.below.mono HW0.out.size))
  refine bodyPost_ret (v := .tuple #[.agg B, .bool false]) ?_ rfl ⟨rfl, HW2.out.below _ _ HB1.out (by omega)⟩
  exact results_row_tmp (p := 2) (q := 3) (ty := 35) rfl _ _ g2 35 B (0, 0) _ rfl HW2.out.row Tryz.underlying35 rfl HSB.out
theorem eTold_any (x : EnT) (ok : OkE x) (w : World) (X B : Array Value) (HX : Hid (X = (ecells x).toArray)) (HB : Hid (B = (ecells (bareE x)).toArray)) :
    Calls Tryz.prog 128 #[.agg X] w fun e w' => e = .returned (.tuple #[.agg B, .bool (toldB x)]) ∧ Below w.heap.size w w' := by
  by_cases h1 : x.k = 1
  · exact eTold_user x ok h1 w X B HX HB
  by_cases h2 : x.k = 2
  · exact eTold_anchor x ok h2 w X B HX HB
  by_cases h3 : x.k = 3
  · exact eTold_claim x ok h3 w X B HX HB
  exact eTold_none x ok ⟨h1, h2, h3⟩ w X B HX HB
set_option maxHeartbeats 4000000 in
theorem eCheck_any (x : EnT) (ok : OkE x) (w : World) (X : Array Value) (HX : Hid (X = (ecells x).toArray)) :
    Calls Tryz.prog 114 #[.agg X] w fun e w' => e = .returned (.int .i64 (eE x)) ∧ Below w.heap.size w w' := by
  have hnot : ∀ (x : Bool) (w : World), (Op.unary .not (.bool x)).run Tryz.prog w = .ok (.bool (!x)) w := fun _ _ => rfl
  obtain ⟨Z, HZ, HA, HBZ, HNZ⟩ := noughtsE
  obtain ⟨B, HB, HSB, H1B, HNB⟩ := entry_row (bareE x) (bareE_ok ok)
  have HSX : Hid ((Tryz.prog.info? 35).map (·.size) = some X.size) := by show _ = _; rw [sizeE, HX.out]; simp [ecells_length _ ok]
  have HZB : Hid (Z.size = B.size) := by show _ = _; rw [HNZ.out, HNB.out]
  have HX0 : Hid ((w.alloc (.cells X 35)).heap[w.heap.size]? = some (.cells X 35 (0, 0))) := heap_alloc_new w _
  have HW0 : Hid (Below w.heap.size w (w.alloc (.cells X 35))) := (Below.refl _ _).alloc (Nat.le_refl _) _
  obtain ⟨u, hu⟩ : ∃ u, u = toldB x := ⟨_, rfl⟩
  obtain ⟨q, hq⟩ : ∃ q : Bool, q = false ↔ bareE x = x := by
    by_cases h : bareE x = x
    · exact ⟨false, by simp [h]⟩
    · exact ⟨true, by simp [h]⟩
  have T1 : Hid (∀ W, Calls Tryz.prog 128 #[.agg X] W fun e w' => e = .returned (.tuple #[.agg B, .bool u]) ∧ Below W.heap.size W w') := fun W => by rw [hu]; exact eTold_any x ok W X B HX HB
  have NQ : ∀ W, (binOp .neq 35 (.agg B) (.agg X)).run Tryz.prog W = .ok (.bool q) W := fun W => neqEntry (bareE x) x (bareE_ok ok) ok B X HB HX q hq W
  have hE : eE x = if (u && !q) = true then 0 else 60 := by
    unfold eE
    congr 1
    rw [eq_iff_iff, told_right, hu, Bool.and_eq_true, ← hq]
    cases q <;> simp
  rw [hE]
  clear HX HB hE hu hq HZ HBZ HNZ HNB ok
  cases u
  · go_enter Tryz.func114, Tryz.ntmps114
    go_wp2_with (first
      | (show aD 6 _ _ _ _ _ _ _ _ _ _ _; refine wpList_load_row rfl 35 (.tmp 1) rfl w.heap.size rfl 35 X (0, 0) _ HX0.out Tryz.underlying35 rfl HSX.out ?_; try simp only [Act.put, pS1, pS2, pS3])
      | fail)
    refine (T1.out _).mono ?_
    rintro e w1 ⟨rfl, hb1⟩
    have HB1 := hidk (HW0.out.trans (hb1.mono HW0.out.size))
    clear hb1 T1
    go_wp2_with (first
      | (show aD 3 _ _ _ _ _ _ _ _ _ _ _; refine wpList_new_var rfl 35 rfl Z HA.out ?_; intro g3 w2 HM3; try simp only [Act.put, pS1, pS2, pS3])
      | (refine wpList_set_var rfl 35 (.tmp 3) (.tmp 8) rfl g3 B rfl rfl 35 Z HM3.out.row HSB.out HZB.out H1B.out ?_; intro w3 HW3; try simp only [Act.put, pS1, pS2, pS3])
      | fail)
    have h3 : w.heap.size ≤ g3 := by rw [HM3.out.new]; exact HB1.out.size
    go_ret
    exact ⟨rfl, HW3.out.below _ _ (HB1.out.trans (HM3.out.below.mono HB1.out.size)) h3⟩
  · go_enter Tryz.func114, Tryz.ntmps114
    go_wp2_with (first
      | (show aD 6 _ _ _ _ _ _ _ _ _ _ _; refine wpList_load_row rfl 35 (.tmp 1) rfl w.heap.size rfl 35 X (0, 0) _ HX0.out Tryz.underlying35 rfl HSX.out ?_; try simp only [Act.put, pS1, pS2, pS3])
      | fail)
    refine (T1.out _).mono ?_
    rintro e w1 ⟨rfl, hb1⟩
    have HB1 := hidk (HW0.out.trans (hb1.mono HW0.out.size))
    have HX1 := hidk ((hb1.block _ (heap_lt HX0.out)).trans HX0.out)
    have hx1 := heap_lt HX1.out
    clear hb1 T1
    cases q
    all_goals
      go_wp2_with (first
        | (show aD 3 _ _ _ _ _ _ _ _ _ _ _; refine wpList_new_var rfl 35 rfl Z HA.out ?_; intro g3 w2 HM3; try simp only [Act.put, pS1, pS2, pS3])
        | (refine wpList_set_var rfl 35 (.tmp 3) (.tmp 8) rfl g3 B rfl rfl 35 Z HM3.out.row HSB.out HZB.out H1B.out ?_; intro w3 HW3; try simp only [Act.put, pS1, pS2, pS3])
        | (show aD 13 _ _ _ _ _ _ _ _ _ _ _; refine wpList_load_row_w (by rfl) 35 (.tmp 3) rfl g3 rfl 35 B (0, 0) _ HW3.out.row Tryz.underlying35 rfl HSB.out ?_; try simp only [Act.put, pS1, pS2, pS3])
        | (show aD 14 _ _ _ _ _ _ _ _ _ _ _; refine wpList_load_row_w (by rfl) 35 (.tmp 1) rfl w.heap.size rfl 35 X (0, 0) _ ((HW3.out.other _ (by have e1 := HM3.out.new; omega)).trans ((HM3.out.below.block _ hx1).trans HX1.out)) Tryz.underlying35 rfl HSX.out ?_; try simp only [Act.put, pS1, pS2, pS3])
        | fail)
      have h3 : w.heap.size ≤ g3 := by rw [HM3.out.new]; exact HB1.out.size
      go_ret
      exact ⟨rfl, HW3.out.below _ _ (HB1.out.trans (HM3.out.below.mono HB1.out.size)) h3⟩
theorem reads_no (w : World) : Reads w none 0 0 [] := ⟨rfl, Nat.le_refl _, by decide, .inl ⟨rfl, rfl⟩⟩
theorem bytes_no (w : World) (E : Int) : BytesE [] E (.returned (.tuple #[.slice none 0 0, .int .i64 E])) w := ⟨none, 0, rfl, reads_no w⟩
theorem rowOf_ok {fs : List (Int × ByteArray)} (h : layE 0 fs = 0) : rowOf fs = rowB fs := by unfold rowOf; rw [if_pos h]
set_option maxHeartbeats 2000000 in
theorem hPut_no (h : HdT) (hd : h.d.length = 32) (hr : rightH h = false) (w : World) (C : Array Value) (HC : Hid (C = (hcells h).toArray)) :
    Calls Tryz.prog 85 #[.agg C] w fun e w' => BytesE [] 70 e w' ∧ Below w.heap.size w w' := by
  have HSC : Hid ((Tryz.prog.info? 26).map (·.size) = some C.size) := by show _ = _; rw [sizeH, HC.out]; simp [hcells_length h hd]
  have HR : Hid ((w.alloc (.cells C 26)).heap[w.heap.size]? = some (.cells C 26 (0, 0))) := heap_alloc_new w _
  have HB : Hid (Below w.heap.size w (w.alloc (.cells C 26))) := (Below.refl _ _).alloc (Nat.le_refl _) _
  have K1 : Hid (∀ W, Calls Tryz.prog 64 #[.agg C] W fun e w' => e = .returned (.int .i64 70) ∧ Below W.heap.size W w') := fun W => by
    have := hCheck_any h hd W C HC
    rwa [show putE h = 70 by unfold putE; rw [hr]; rfl] at this
  clear HC hr
  go_enter Tryz.func85, Tryz.ntmps85
  go_wp2_with (first
    | (show aD 5 _ _ _ _ _ _ _ _ _ _ _; refine wpList_load_row rfl 26 (.tmp 1) rfl w.heap.size rfl 26 C (0, 0) _ HR.out Tryz.underlying26 rfl HSC.out ?_; try simp only [Act.put, pS1, pS2, pS3])
    | fail)
  refine (K1.out _).mono ?_
  rintro e w1 ⟨rfl, hb1⟩
  have HB1 := hidk (HB.out.trans (hb1.mono HB.out.size))
  clear hb1
  go_wp2
  go_ret2
  exact ⟨bytes_no _ _, HB1.out⟩
set_option maxHeartbeats 8000000 in
theorem hPut_yes (h : HdT) (hd : h.d.length = 32) (hr : rightH h = true) (w : World) (C : Array Value) (HC : Hid (C = (hcells h).toArray)) :
    Calls Tryz.prog 85 #[.agg C] w fun e w' => BytesE (headB h) 0 e w' ∧ Below w.heap.size w w' := by
  have HSC : Hid ((Tryz.prog.info? 26).map (·.size) = some C.size) := by show _ = _; rw [sizeH, HC.out]; simp [hcells_length h hd]
  have HRW : Hid ((w.alloc (.cells C 26)).heap[w.heap.size]? = some (.cells C 26 (0, 0))) := heap_alloc_new w _
  have K1 : Hid (∀ W, Calls Tryz.prog 64 #[.agg C] W fun e w' => e = .returned (.int .i64 0) ∧ Below W.heap.size W w') := fun W => by
    have := hCheck_any h hd W C HC
    rwa [show putE h = 0 by unfold putE; rw [hr]; rfl] at this
  obtain ⟨r, Hr⟩ : ∃ r, Hid (r = h.r) := ⟨h.r, hidk rfl⟩
  obtain ⟨e, He⟩ : ∃ r, Hid (r = h.e) := ⟨h.e, hidk rfl⟩
  obtain ⟨s, Hs⟩ : ∃ r, Hid (r = h.s) := ⟨h.s, hidk rfl⟩
  obtain ⟨t, Ht⟩ : ∃ r, Hid (r = h.t) := ⟨h.t, hidk rfl⟩
  obtain ⟨n1, Hn1⟩ : ∃ s : ByteArray, Hid (s = nOf r) := ⟨nOf r, hidk rfl⟩
  obtain ⟨n2, Hn2⟩ : ∃ s : ByteArray, Hid (s = nOf e) := ⟨nOf e, hidk rfl⟩
  obtain ⟨n3, Hn3⟩ : ∃ x : ByteArray, Hid (x = nOf s) := ⟨nOf s, hidk rfl⟩
  obtain ⟨n5, Hn5⟩ : ∃ s : ByteArray, Hid (s = nOf t) := ⟨nOf t, hidk rfl⟩
  obtain ⟨x4, HX⟩ : ∃ x : ByteArray, Hid (x = bA h.d) := ⟨bA h.d, hidk rfl⟩
  obtain ⟨l, Hl⟩ : ∃ l, Hid (l = headB h) := ⟨headB h, hidk rfl⟩
  obtain ⟨D, HD, HSD, H1D, H32D⟩ := dig_row' h.d hd
  have N1 : Hid (∀ W, Calls Tryz.prog 53 #[.int .i64 1, .int .i64 r] W fun e w' => e = .returned (.agg #[.int .i64 1, .string n1]) ∧ Below W.heap.size W w') := fun W => by rw [Hn1.out]; exact hNum_any 1 r W
  have N2 : Hid (∀ W, Calls Tryz.prog 53 #[.int .i64 2, .int .i64 e] W fun e w' => e = .returned (.agg #[.int .i64 2, .string n2]) ∧ Below W.heap.size W w') := fun W => by rw [Hn2.out]; exact hNum_any 2 e W
  have N3 : Hid (∀ W, Calls Tryz.prog 53 #[.int .i64 3, .int .i64 s] W fun e w' => e = .returned (.agg #[.int .i64 3, .string n3]) ∧ Below W.heap.size W w') := fun W => by rw [Hn3.out]; exact hNum_any 3 s W
  have N5 : Hid (∀ W, Calls Tryz.prog 53 #[.int .i64 5, .int .i64 t] W fun e w' => e = .returned (.agg #[.int .i64 5, .string n5]) ∧ Below W.heap.size W w') := fun W => by rw [Hn5.out]; exact hNum_any 5 t W
  have X4 : Hid (∀ W, Calls Tryz.prog 54 #[.int .i64 4, .agg D] W fun e w' => e = .returned (.agg #[.int .i64 4, .string x4]) ∧ Below W.heap.size W w') := fun W => by rw [HX.out]; exact hDig_any 4 h.d hd W D HD
  have hL5 : fieldsN (hL h) = [(1, n1), (2, n2), (3, n3), (4, x4), (5, n5)] := by rw [Hn1.out, Hn2.out, Hn3.out, Hn5.out, HX.out, Hr.out, He.out, Hs.out, Ht.out]; rfl
  have LY : Hid (∀ W, Calls Tryz.prog 51 #[.slice (some ⟨W.heap.size, 0, none⟩) 5 5] (W.alloc (.cells #[.int .i64 1, .string n1, .int .i64 2, .string n2, .int .i64 3, .string n3, .int .i64 4, .string x4, .int .i64 5, .string n5] 92)) fun e w' => ∃ a c, e = .returned (.tuple #[.slice a l.length c, .int .i64 0]) ∧ Reads w' a l.length c l ∧ Below W.heap.size W w') := fun W => by
    have hk := layE_hL h hd
    have hrw := rowOf_ok hk
    rw [hL5] at hk hrw
    have hm : ∀ f ∈ [((1 : Int), n1), (2, n2), (3, n3), (4, x4), (5, n5)], f.2.size ≤ maxLen := fun y hy => by
      simp only [List.mem_cons, List.not_mem_nil, or_false] at hy
      unfold maxLen
      rcases hy with rfl | rfl | rfl | rfl | rfl
      · have := nOf_size r; rw [← Hn1.out] at this; show n1.size ≤ _; omega
      · have := nOf_size e; rw [← Hn2.out] at this; show n2.size ≤ _; omega
      · have := nOf_size s; rw [← Hn3.out] at this; show n3.size ≤ _; omega
      · have := bA_size h.d; rw [← HX.out] at this; show x4.size ≤ _; omega
      · have := nOf_size t; rw [← Hn5.out] at this; show n5.size ≤ _; omega
    have hF := freads_lit W #[.int .i64 1, .string n1, .int .i64 2, .string n2, .int .i64 3, .string n3, .int .i64 4, .string x4, .int .i64 5, .string n5] (0, 0) [((1 : Int), n1), (2, n2), (3, n3), (4, x4), (5, n5)] rfl (by show 5 ≤ 1048576; decide) hm
    rw [← alloc_size W (.cells #[.int .i64 1, .string n1, .int .i64 2, .string n2, .int .i64 3, .string n3, .int .i64 4, .string x4, .int .i64 5, .string n5] 92)] at hF
    refine (lay_reads (some ⟨W.heap.size, 0, none⟩) 5 5 [((1 : Int), n1), (2, n2), (3, n3), (4, x4), (5, n5)] _ hF (by decide) (k := 0) (l := l) hk (by rw [hrw, Hl.out, ← hL5]; rfl)).mono ?_
    rintro e w' ⟨a, c, he, hrd, hb⟩
    exact ⟨a, c, he, hrd, ((Below.refl _ _).alloc (Nat.le_refl _) _).trans (hb.mono (by simp))⟩
  have HR := hidk (hrow_new w h hd C HC 26)
  have HB : Hid (Below w.heap.size w (w.alloc (.cells C 26))) := (Below.refl _ _).alloc (Nat.le_refl _) _
  have HDL : Hid (D.toList = cellsOf h.d) := by show _ = _; rw [HD.out]
  rw [← Hl.out]
  clear HC HX hL5 HD Hn1 Hn2 Hn3 Hn5 Hl hr
  go_enter Tryz.func85, Tryz.ntmps85
  go_wp2_with (first
    | (show aD 5 _ _ _ _ _ _ _ _ _ _ _; refine wpList_load_row rfl 26 (.tmp 1) rfl w.heap.size rfl 26 C (0, 0) _ HRW.out Tryz.underlying26 rfl HSC.out ?_; try simp only [Act.put, pS1, pS2, pS3])
    | fail)
  refine (K1.out _).mono ?_
  rintro e w0 ⟨rfl, hb0⟩
  have HB0 := hidk (HB.out.trans (hb0.mono HB.out.size))
  have HR0 := hidk (HR.out.keep hb0)
  clear hb0 HB HR HRW K1
  go_wp2
  refine wp_region_held_drew (S := (fun W => HRow W w.heap.size 0 h)) (by kernel_rfl) (show HRow w0.drew w.heap.size 0 h from HR0.out.keep (Below.refl _ _).drew) (fun hHeld => ?_)
  refine zX 0 (.pointer (some ⟨w.heap.size, 0, none⟩)) rfl hHeld ?_
  try simp only [Act.put, pS1, pS2, pS3]
  refine zW 1 (.int .i64 r) rfl (Or.inl ⟨by rfl, by intro W hSw; have h1 := hSw.r; rw [← Hr.out] at h1; go_simp⟩) hHeld ?_
  try simp only [Act.put, pS1, pS2, pS3]
  refine zX 3 (.pointer (some ⟨w.heap.size, 1, none⟩)) rfl hHeld ?_
  try simp only [Act.put, pS1, pS2, pS3]
  refine zW 4 (.int .i64 e) rfl (Or.inl ⟨by rfl, by intro W hSw; have h1 := hSw.e; rw [← He.out, Nat.zero_add] at h1; go_simp⟩) hHeld ?_
  try simp only [Act.put, pS1, pS2, pS3]
  refine zX 6 (.pointer (some ⟨w.heap.size, 2, none⟩)) rfl hHeld ?_
  try simp only [Act.put, pS1, pS2, pS3]
  refine zW 7 (.int .i64 s) rfl (Or.inl ⟨by rfl, by intro W hSw; have h1 := hSw.s; rw [← Hs.out, Nat.zero_add] at h1; go_simp⟩) hHeld ?_
  try simp only [Act.put, pS1, pS2, pS3]
  refine zX 9 (.pointer (some ⟨w.heap.size, 3, none⟩)) rfl hHeld ?_
  try simp only [Act.put, pS1, pS2, pS3]
  refine zW 10 (.agg D) rfl (yieldsIf_mid (by rfl) 24 (.tmp 19) rfl w.heap.size 3 rfl D _ (fun _ h => by rw [HDL.out]; have := h.d; rwa [Nat.zero_add] at this) Tryz.underlying24 rfl HSD.out) hHeld ?_
  try simp only [Act.put, pS1, pS2, pS3]
  refine zX 12 (.pointer (some ⟨w.heap.size, 35, none⟩)) rfl hHeld ?_
  try simp only [Act.put, pS1, pS2, pS3]
  refine zW 13 (.int .i64 t) rfl (Or.inl ⟨by rfl, by intro W hSw; have h1 := hSw.t; rw [← Ht.out, Nat.zero_add] at h1; go_simp⟩) hHeld ?_
  try simp only [Act.put, pS1, pS2, pS3]
  refine wpAnyH_ready (rs := [2]) (by kernel_rfl) (by simp) ?_
  refine (AllReadyH.cons (o := { dst := some 12, op := .call { callee := .value (.func 53), args := #[.const (.int .i64 1), .tmp 11], argTypes := #[3, 3] }, type := 92, pos := "head.go:47", after := #[zD 1], guard := none }) rfl (fun K hK => ?_) AllReadyH.nil)
  go_simp
  refine (N1.out _).mono ?_
  rintro e w2 ⟨rfl, hb1⟩
  have HB1 := hidk (HB0.out.drew.trans (hb1.mono HB0.out.size))
  go_wp2_with fail
  refine hK.out _ _ (hHeld.keep hb1) (fun hHeld => ?_)
  clear hK K
  try simp only [Act.put, pS1, pS2, pS3]
  refine wpAnyH_ready (rs := [5]) (by kernel_rfl) (by simp) ?_
  refine (AllReadyH.cons (o := { dst := some 15, op := .call { callee := .value (.func 53), args := #[.const (.int .i64 2), .tmp 14], argTypes := #[3, 3] }, type := 92, pos := "head.go:48", after := #[zD 4, zC 2], guard := none }) rfl (fun K hK => ?_) AllReadyH.nil)
  go_simp
  refine (N2.out _).mono ?_
  rintro e w5 ⟨rfl, hb2⟩
  have HB2 := hidk (HB1.out.trans (hb2.mono HB1.out.size))
  go_wp2_with fail
  refine hK.out _ _ (hHeld.keep hb2) (fun hHeld => ?_)
  clear hK K
  try simp only [Act.put, pS1, pS2, pS3]
  refine wpAnyH_ready (rs := [8]) (by kernel_rfl) (by simp) ?_
  refine (AllReadyH.cons (o := { dst := some 18, op := .call { callee := .value (.func 53), args := #[.const (.int .i64 3), .tmp 17], argTypes := #[3, 3] }, type := 92, pos := "head.go:49", after := #[zD 7, zC 5], guard := none }) rfl (fun K hK => ?_) AllReadyH.nil)
  go_simp
  refine (N3.out _).mono ?_
  rintro e w8 ⟨rfl, hb3⟩
  have HB3 := hidk (HB2.out.trans (hb3.mono HB2.out.size))
  go_wp2_with fail
  refine hK.out _ _ (hHeld.keep hb3) (fun hHeld => ?_)
  clear hK K
  try simp only [Act.put, pS1, pS2, pS3]
  refine wpAnyH_ready (rs := [11]) (by kernel_rfl) (by simp) ?_
  refine (AllReadyH.cons (o := { dst := some 21, op := .call { callee := .value (.func 54), args := #[.const (.int .i64 4), .tmp 20], argTypes := #[3, 24] }, type := 92, pos := "head.go:50", after := #[zD 10, zC 8], guard := none }) rfl (fun K hK => ?_) AllReadyH.nil)
  go_simp
  refine (X4.out _).mono ?_
  rintro e w11 ⟨rfl, hb4⟩
  have HB4 := hidk (HB3.out.trans (hb4.mono HB3.out.size))
  go_wp2_with fail
  refine hK.out _ _ (hHeld.keep hb4) (fun hHeld => ?_)
  clear hK K
  try simp only [Act.put, pS1, pS2, pS3]
  refine wpAnyH_ready (rs := [14]) (by kernel_rfl) (by simp) ?_
  refine (AllReadyH.cons (o := { dst := some 24, op := .call { callee := .value (.func 53), args := #[.const (.int .i64 5), .tmp 23], argTypes := #[3, 3] }, type := 92, pos := "head.go:51", after := #[zD 13, zC 11], guard := none }) rfl (fun K hK => ?_) AllReadyH.nil)
  go_simp
  refine (N5.out _).mono ?_
  rintro e w14 ⟨rfl, hb5⟩
  have HB5 := hidk (HB4.out.trans (hb5.mono HB4.out.size))
  go_wp2_with fail
  refine hK.out _ _ (hHeld.keep hb5) (fun hHeld => ?_)
  clear hK K
  try simp only [Act.put, pS1, pS2, pS3]
  refine wpAnyH_ready (rs := [15]) (by kernel_rfl) (by simp) ?_
  refine (AllReadyH.cons (o := { dst := some 25, op := .buildSlice 95 5 #[(0, .tmp 12), (1, .tmp 15), (2, .tmp 18), (3, .tmp 21), (4, .tmp 24)], type := 95, pos := "head.go:46", after := #[zD 2, zD 5, zD 8, zD 11, zD 14], guard := none }) rfl (fun K hK => ?_) AllReadyH.nil)
  have HR14 := hidk hHeld
  go_simp
  refine hK.out _ _ (hHeld.keep ((Below.refl _ _).alloc (Nat.le_refl _) _)) (fun hHeld => ?_)
  clear hK K
  try simp only [Act.put, pS1, pS2, pS3]
  refine wpAnyH_ready (rs := [16]) (by kernel_rfl) (by simp) ?_
  refine (AllReadyH.cons (o := { dst := some 26, op := .call { callee := .value (.func 51), args := #[.tmp 25], argTypes := #[95] }, type := 70, pos := "head.go:46", after := #[zD 15, zC 14], guard := none }) rfl (fun K hK => ?_) AllReadyH.nil)
  go_simp
  refine (LY.out _).mono ?_
  rintro e w16 ⟨a16, c16, rfl, hrd, hb6⟩
  have HRD := hidk hrd
  have HBF := hidk (HB5.out.trans (hb6.mono HB5.out.size))
  go_wp2_with fail
  refine hK.out _ _ (HR14.out.keep hb6) (fun hHeld => ?_)
  clear hK K
  try simp only [Act.put, pS1, pS2, pS3]
  refine zX 17 (.slice a16 l.length c16) rfl hHeld ?_
  try simp only [Act.put, pS1, pS2, pS3]
  refine zX 18 (.int .i64 0) rfl hHeld ?_
  try simp only [Act.put, pS1, pS2, pS3]
  refine zX 19 (.slice a16 l.length c16) rfl hHeld ?_
  try simp only [Act.put, pS1, pS2, pS3]
  refine zX 20 (.int .i64 0) rfl hHeld ?_
  try simp only [Act.put, pS1, pS2, pS3]
  refine wpAnyH_done (by kernel_rfl) ?_ _
  go_wp2
  go_ret2
  exact ⟨⟨_, _, rfl, HRD.out⟩, HBF.out⟩
theorem hPut_any (h : HdT) (hd : h.d.length = 32) (w : World) (C : Array Value) (HC : Hid (C = (hcells h).toArray)) :
    Calls Tryz.prog 85 #[.agg C] w fun e w' => BytesE (putB h) (putE h) e w' ∧ Below w.heap.size w w' := by
  unfold putB putE
  cases hr : rightH h
  · exact hPut_no h hd hr w C HC
  · exact hPut_yes h hd hr w C HC
set_option maxHeartbeats 2000000 in
theorem hLaid_any (h : HdT) (hd : h.d.length = 32) (w : World) (C : Array Value) (HC : Hid (C = (hcells h).toArray)) :
    Calls Tryz.prog 52 #[.agg C] w fun e w' => e = .returned (.string (bA (putB h))) ∧ Below w.heap.size w w' := by
  have HSC : Hid ((Tryz.prog.info? 26).map (·.size) = some C.size) := by show _ = _; rw [sizeH, HC.out]; simp [hcells_length h hd]
  have HR : Hid ((w.alloc (.cells C 26)).heap[w.heap.size]? = some (.cells C 26 (0, 0))) := heap_alloc_new w _
  have HB : Hid (Below w.heap.size w (w.alloc (.cells C 26))) := (Below.refl _ _).alloc (Nat.le_refl _) _
  have P1 : Hid (∀ W, Calls Tryz.prog 85 #[.agg C] W fun e w' => BytesE (putB h) (putE h) e w' ∧ Below W.heap.size W w') := fun W => hPut_any h hd W C HC
  obtain ⟨l, hl⟩ : ∃ l, l = putB h := ⟨_, rfl⟩
  obtain ⟨E, hE⟩ : ∃ l, l = putE h := ⟨_, rfl⟩
  obtain ⟨x, Hx⟩ : ∃ x : ByteArray, Hid (x = bA l) := ⟨bA l, hidk rfl⟩
  rw [← hl, ← hE] at P1
  rw [← hl, ← Hx.out]
  clear HC hl hE
  go_enter Tryz.func52, Tryz.ntmps52
  go_wp2_with (first
    | (show aD 6 _ _ _ _ _ _ _ _ _ _ _; refine wpList_load_row rfl 26 (.tmp 1) rfl w.heap.size rfl 26 C (0, 0) _ HR.out Tryz.underlying26 rfl HSC.out ?_; try simp only [Act.put, pS1, pS2, pS3])
    | fail)
  refine (P1.out _).mono ?_
  rintro e w1 ⟨⟨a1, c1, rfl, hr1⟩, hb1⟩
  have HB1 := hidk (HB.out.trans (hb1.mono HB.out.size))
  have hcv := conv_reads hr1
  rw [show (⟨l.toArray⟩ : ByteArray) = x from Hx.out.symm] at hcv
  clear hb1 hr1
  go_wp2
  go_ret
  exact ⟨rfl, HB1.out⟩
def signT (h : HdT) : ByteArray := ⟨#[104, 101, 97, 100, 32]⟩ ++ bA (putB h)
theorem putB_length (h : HdT) (hd : h.d.length = 32) : (putB h).length ≤ 84 := by
  unfold putB
  split
  · exact headB_length h hd
  · exact Nat.zero_le _
set_option maxHeartbeats 2000000 in
theorem hText_any (h : HdT) (hd : h.d.length = 32) (w : World) (C : Array Value) (HC : Hid (C = (hcells h).toArray)) :
    Calls Tryz.prog 67 #[.agg C] w fun e w' => e = .returned (.string (signT h)) ∧ Below w.heap.size w w' := by
  have HSC : Hid ((Tryz.prog.info? 26).map (·.size) = some C.size) := by show _ = _; rw [sizeH, HC.out]; simp [hcells_length h hd]
  have HR : Hid ((w.alloc (.cells C 26)).heap[w.heap.size]? = some (.cells C 26 (0, 0))) := heap_alloc_new w _
  have HB : Hid (Below w.heap.size w (w.alloc (.cells C 26))) := (Below.refl _ _).alloc (Nat.le_refl _) _
  have P1 : Hid (∀ W, Calls Tryz.prog 52 #[.agg C] W fun e w' => e = .returned (.string (bA (putB h))) ∧ Below W.heap.size W w') := fun W => hLaid_any h hd W C HC
  have hs := putB_length h hd
  rw [← bA_size] at hs
  unfold signT
  obtain ⟨x, hx⟩ : ∃ x : ByteArray, x = bA (putB h) := ⟨_, rfl⟩
  rw [← hx] at P1 hs ⊢
  clear HC hx
  go_enter Tryz.func67, Tryz.ntmps67
  go_wp2_with (first
    | (show aD 3 _ _ _ _ _ _ _ _ _ _ _; refine wpList_load_row rfl 26 (.tmp 1) rfl w.heap.size rfl 26 C (0, 0) _ HR.out Tryz.underlying26 rfl HSC.out ?_; try simp only [Act.put, pS1, pS2, pS3])
    | fail)
  refine (P1.out _).mono ?_
  rintro e w1 ⟨rfl, hb1⟩
  have HB1 := hidk (HB.out.trans (hb1.mono HB.out.size))
  clear hb1
  go_wp2
  go_ret
  exact ⟨rfl, HB1.out⟩
theorem signT_right (h : HdT) (hr : rightH h = true) : (signT h).data.toList = headT h := by
  unfold signT headT putB
  rw [if_pos hr]
  simp [bA]
theorem signT_size (h : HdT) (hd : h.d.length = 32) : (signT h).size ≤ 100000 := by
  have := putB_length h hd
  have e : (signT h).size = 5 + (putB h).length := by
    unfold signT
    rw [ByteArray.size_append, bA_size]
    rfl
  omega
set_option maxHeartbeats 2000000 in
theorem hPutS_no (s : SgT) (hs : InS s) (hm : mayS s = false) (w : World) (C : Array Value) (HC : Hid (C = (scells s).toArray)) :
    Calls Tryz.prog 31 #[.agg C] w fun e w' => BytesE [] 70 e w' ∧ Below w.heap.size w w' := by
  have hnot : ∀ (x : Bool) (w : World), (Op.unary .not (.bool x)).run Tryz.prog w = .ok (.bool (!x)) w := fun _ _ => rfl
  have HSC : Hid ((Tryz.prog.info? 28).map (·.size) = some C.size) := by show _ = _; rw [sizeS, HC.out]; simp [scells_length s hs.h.d hs.g]
  have HR : Hid ((w.alloc (.cells C 28)).heap[w.heap.size]? = some (.cells C 28 (0, 0))) := heap_alloc_new w _
  have HB : Hid (Below w.heap.size w (w.alloc (.cells C 28))) := (Below.refl _ _).alloc (Nat.le_refl _) _
  have K1 : Hid (∀ W, Calls Tryz.prog 50 #[.agg C] W fun e w' => e = .returned (.bool false) ∧ Below W.heap.size W w') := fun W => by
    have := hMay_any s hs.h.d W C HC
    rwa [hm] at this
  clear HC hm hs
  go_enter Tryz.func31, Tryz.ntmps31
  go_wp2_with (first
    | (show aD 4 _ _ _ _ _ _ _ _ _ _ _; refine wpList_load_row rfl 28 (.tmp 1) rfl w.heap.size rfl 28 C (0, 0) _ HR.out Tryz.underlying28 rfl HSC.out ?_; try simp only [Act.put, pS1, pS2, pS3])
    | fail)
  refine (K1.out _).mono ?_
  rintro e w1 ⟨rfl, hb1⟩
  have HB1 := hidk (HB.out.trans (hb1.mono HB.out.size))
  clear hb1
  go_wp2
  go_ret2
  exact ⟨bytes_no _ _, HB1.out⟩
set_option maxHeartbeats 8000000 in
theorem hPutS_yes (s : SgT) (hs : InS s) (hm : mayS s = true) (w : World) (C : Array Value) (HC : Hid (C = (scells s).toArray)) :
    Calls Tryz.prog 31 #[.agg C] w fun e w' => BytesE (signB s) 0 e w' ∧ Below w.heap.size w w' := by
  have hnot : ∀ (x : Bool) (w : World), (Op.unary .not (.bool x)).run Tryz.prog w = .ok (.bool (!x)) w := fun _ _ => rfl
  have hd := hs.h.d
  have hg := hs.g
  have hrt := ((mayS_iff s).1 hm).1
  have HSC : Hid ((Tryz.prog.info? 28).map (·.size) = some C.size) := by show _ = _; rw [sizeS, HC.out]; simp [scells_length s hd hg]
  have HRW : Hid ((w.alloc (.cells C 28)).heap[w.heap.size]? = some (.cells C 28 (0, 0))) := heap_alloc_new w _
  have K1 : Hid (∀ W, Calls Tryz.prog 50 #[.agg C] W fun e w' => e = .returned (.bool true) ∧ Below W.heap.size W w') := fun W => by
    have := hMay_any s hd W C HC
    rwa [hm] at this
  have HR := hidk (srow_new w s hd C HC 28)
  have HB : Hid (Below w.heap.size w (w.alloc (.cells C 28))) := (Below.refl _ _).alloc (Nat.le_refl _) _
  obtain ⟨HCs, HHC, HSH, H36⟩ := head_row s.h hd
  obtain ⟨D, HD, HSD, H1D, H32D⟩ := dig_row' s.g hg
  obtain ⟨n, Hn⟩ : ∃ n, Hid (n = s.n) := ⟨s.n, hidk rfl⟩
  obtain ⟨n2, Hn2⟩ : ∃ x : ByteArray, Hid (x = nOf n) := ⟨nOf n, hidk rfl⟩
  obtain ⟨x1, HX1⟩ : ∃ x : ByteArray, Hid (x = bA (headB s.h)) := ⟨bA (headB s.h), hidk rfl⟩
  obtain ⟨x3, HX3⟩ : ∃ x : ByteArray, Hid (x = bA s.g) := ⟨bA s.g, hidk rfl⟩
  obtain ⟨l, Hl⟩ : ∃ l, Hid (l = signB s) := ⟨signB s, hidk rfl⟩
  have B1 : Hid (∀ W, Calls Tryz.prog 52 #[.agg HCs] W fun e w' => e = .returned (.string x1) ∧ Below W.heap.size W w') := fun W => by
    have := hLaid_any s.h hd W HCs HHC
    rwa [show putB s.h = headB s.h by unfold putB; rw [if_pos hrt], ← HX1.out] at this
  have N2 : Hid (∀ W, Calls Tryz.prog 53 #[.int .i64 2, .int .i64 n] W fun e w' => e = .returned (.agg #[.int .i64 2, .string n2]) ∧ Below W.heap.size W w') := fun W => by rw [Hn2.out]; exact hNum_any 2 n W
  have X3 : Hid (∀ W, Calls Tryz.prog 54 #[.int .i64 3, .agg D] W fun e w' => e = .returned (.agg #[.int .i64 3, .string x3]) ∧ Below W.heap.size W w') := fun W => by rw [HX3.out]; exact hDig_any 3 s.g hg W D HD
  have hL3 : fieldsN (sL s) = [(1, x1), (2, n2), (3, x3)] := by rw [HX1.out, Hn2.out, HX3.out, Hn.out]; rfl
  have LY : Hid (∀ W, Calls Tryz.prog 51 #[.slice (some ⟨W.heap.size, 0, none⟩) 3 3] (W.alloc (.cells #[.int .i64 1, .string x1, .int .i64 2, .string n2, .int .i64 3, .string x3] 92)) fun e w' => ∃ a c, e = .returned (.tuple #[.slice a l.length c, .int .i64 0]) ∧ Reads w' a l.length c l ∧ Below W.heap.size W w') := fun W => by
    have hk := layE_sL s hd hg
    have hrw := rowOf_ok hk
    rw [hL3] at hk hrw
    have hmm : ∀ f ∈ [((1 : Int), x1), (2, n2), (3, x3)], f.2.size ≤ maxLen := fun y hy => by
      simp only [List.mem_cons, List.not_mem_nil, or_false] at hy
      unfold maxLen
      rcases hy with rfl | rfl | rfl
      · have := bA_size (headB s.h); rw [← HX1.out] at this; have := headB_length s.h hd; show x1.size ≤ _; omega
      · have := nOf_size n; rw [← Hn2.out] at this; show n2.size ≤ _; omega
      · have := bA_size s.g; rw [← HX3.out] at this; show x3.size ≤ _; omega
    have hF := freads_lit W #[.int .i64 1, .string x1, .int .i64 2, .string n2, .int .i64 3, .string x3] (0, 0) [((1 : Int), x1), (2, n2), (3, x3)] rfl (by show 3 ≤ 1048576; decide) hmm
    rw [← alloc_size W (.cells #[.int .i64 1, .string x1, .int .i64 2, .string n2, .int .i64 3, .string x3] 92)] at hF
    refine (lay_reads (some ⟨W.heap.size, 0, none⟩) 3 3 [((1 : Int), x1), (2, n2), (3, x3)] _ hF (by decide) (k := 0) (l := l) hk (by rw [hrw, Hl.out, ← hL3]; rfl)).mono ?_
    rintro e w' ⟨a, c, he, hrd, hb⟩
    exact ⟨a, c, he, hrd, ((Below.refl _ _).alloc (Nat.le_refl _) _).trans (hb.mono (by simp))⟩
  have HDL : Hid (D.toList = cellsOf s.g) := by show _ = _; rw [HD.out]
  have HHL : Hid (HCs.toList = hcells s.h) := by show _ = _; rw [HHC.out]
  rw [← Hl.out]
  clear HC hL3 HX1 HX3 HD Hn2 Hl hm hrt
  go_enter Tryz.func31, Tryz.ntmps31
  go_wp2_with (first
    | (show aD 4 _ _ _ _ _ _ _ _ _ _ _; refine wpList_load_row rfl 28 (.tmp 1) rfl w.heap.size rfl 28 C (0, 0) _ HRW.out Tryz.underlying28 rfl HSC.out ?_; try simp only [Act.put, pS1, pS2, pS3])
    | fail)
  refine (K1.out _).mono ?_
  rintro e w0 ⟨rfl, hb0⟩
  have HB0 := hidk (HB.out.trans (hb0.mono HB.out.size))
  have HR0 := hidk (HR.out.keep hb0)
  clear hb0 HB HR HRW K1
  go_wp2
  refine wp_region_held_drew (S := (fun W => SRow W w.heap.size 0 s)) (by kernel_rfl) (show SRow w0.drew w.heap.size 0 s from HR0.out.keep (Below.refl _ _).drew) (fun hHeld => ?_)
  refine zX 0 (.pointer (some ⟨w.heap.size, 0, none⟩)) rfl hHeld ?_
  try simp only [Act.put, pS1, pS2, pS3]
  refine zW 1 (.agg HCs) rfl (yieldsIf_mid (by rfl) 26 (.tmp 7) rfl w.heap.size 0 rfl HCs _ (fun _ h => by rw [HHL.out]; exact h.h) Tryz.underlying26 rfl HSH.out) hHeld ?_
  try simp only [Act.put, pS1, pS2, pS3]
  refine zX 4 (.pointer (some ⟨w.heap.size, 36, none⟩)) rfl hHeld ?_
  try simp only [Act.put, pS1, pS2, pS3]
  refine zW 5 (.int .i64 n) rfl (Or.inl ⟨by rfl, by intro W hSw; have h1 := hSw.n; rw [← Hn.out, Nat.zero_add] at h1; go_simp⟩) hHeld ?_
  try simp only [Act.put, pS1, pS2, pS3]
  refine zX 7 (.pointer (some ⟨w.heap.size, 37, none⟩)) rfl hHeld ?_
  try simp only [Act.put, pS1, pS2, pS3]
  refine zW 8 (.agg D) rfl (yieldsIf_mid (by rfl) 24 (.tmp 14) rfl w.heap.size 37 rfl D _ (fun _ h => by rw [HDL.out]; have := h.g; rwa [Nat.zero_add] at this) Tryz.underlying24 rfl HSD.out) hHeld ?_
  try simp only [Act.put, pS1, pS2, pS3]
  refine wpAnyH_ready (rs := [2]) (by kernel_rfl) (by simp) ?_
  refine (AllReadyH.cons (o := { dst := some 9, op := .call { callee := .value (.func 52), args := #[.tmp 8], argTypes := #[26] }, type := 9, pos := "head.go:97", after := #[zD 1], guard := none }) rfl (fun K hK => ?_) AllReadyH.nil)
  go_simp
  refine (B1.out _).mono ?_
  rintro e w2 ⟨rfl, hb1⟩
  have HBc := hidk (HB0.out.drew.trans (hb1.mono HB0.out.size))
  go_wp2_with fail
  refine hK.out _ _ (hHeld.keep hb1) (fun hHeld => ?_)
  clear hK K
  try simp only [Act.put, pS1, pS2, pS3]
  refine zX 3 (.agg #[.int .i64 1, .string x1]) rfl hHeld ?_
  try simp only [Act.put, pS1, pS2, pS3]
  refine wpAnyH_ready (rs := [6]) (by kernel_rfl) (by simp) ?_
  refine (AllReadyH.cons (o := { dst := some 13, op := .call { callee := .value (.func 53), args := #[.const (.int .i64 2), .tmp 12], argTypes := #[3, 3] }, type := 92, pos := "head.go:98", after := #[zD 5, zC 2], guard := none }) rfl (fun K hK => ?_) AllReadyH.nil)
  go_simp
  refine (N2.out _).mono ?_
  rintro e w6 ⟨rfl, hb2⟩
  replace HBc := hidk (HBc.out.trans (hb2.mono HBc.out.size))
  go_wp2_with fail
  refine hK.out _ _ (hHeld.keep hb2) (fun hHeld => ?_)
  clear hK K
  try simp only [Act.put, pS1, pS2, pS3]
  refine wpAnyH_ready (rs := [9]) (by kernel_rfl) (by simp) ?_
  refine (AllReadyH.cons (o := { dst := some 16, op := .call { callee := .value (.func 54), args := #[.const (.int .i64 3), .tmp 15], argTypes := #[3, 24] }, type := 92, pos := "head.go:99", after := #[zD 8, zC 6], guard := none }) rfl (fun K hK => ?_) AllReadyH.nil)
  go_simp
  refine (X3.out _).mono ?_
  rintro e w9 ⟨rfl, hb3⟩
  replace HBc := hidk (HBc.out.trans (hb3.mono HBc.out.size))
  go_wp2_with fail
  refine hK.out _ _ (hHeld.keep hb3) (fun hHeld => ?_)
  clear hK K
  try simp only [Act.put, pS1, pS2, pS3]
  refine wpAnyH_ready (rs := [10]) (by kernel_rfl) (by simp) ?_
  refine (AllReadyH.cons (o := { dst := some 17, op := .buildSlice 95 3 #[(0, .tmp 10), (1, .tmp 13), (2, .tmp 16)], type := 95, pos := "head.go:96", after := #[zD 3, zD 6, zD 9], guard := none }) rfl (fun K hK => ?_) AllReadyH.nil)
  have HRc := hidk hHeld
  go_simp
  refine hK.out _ _ (hHeld.keep ((Below.refl _ _).alloc (Nat.le_refl _) _)) (fun hHeld => ?_)
  clear hK K
  try simp only [Act.put, pS1, pS2, pS3]
  refine wpAnyH_ready (rs := [11]) (by kernel_rfl) (by simp) ?_
  refine (AllReadyH.cons (o := { dst := some 18, op := .call { callee := .value (.func 51), args := #[.tmp 17], argTypes := #[95] }, type := 70, pos := "head.go:96", after := #[zD 10, zC 9], guard := none }) rfl (fun K hK => ?_) AllReadyH.nil)
  go_simp
  refine (LY.out _).mono ?_
  rintro e w11 ⟨a11, c11, rfl, hrd, hb6⟩
  have HRD := hidk hrd
  have HBF := hidk (HBc.out.trans (hb6.mono HBc.out.size))
  go_wp2_with fail
  refine hK.out _ _ (HRc.out.keep hb6) (fun hHeld => ?_)
  clear hK K
  try simp only [Act.put, pS1, pS2, pS3]
  refine zX 12 (.slice a11 l.length c11) rfl hHeld ?_
  try simp only [Act.put, pS1, pS2, pS3]
  refine zX 13 (.int .i64 0) rfl hHeld ?_
  try simp only [Act.put, pS1, pS2, pS3]
  refine zX 14 (.slice a11 l.length c11) rfl hHeld ?_
  try simp only [Act.put, pS1, pS2, pS3]
  refine zX 15 (.int .i64 0) rfl hHeld ?_
  try simp only [Act.put, pS1, pS2, pS3]
  refine wpAnyH_done (by kernel_rfl) ?_ _
  go_wp2
  go_ret2
  exact ⟨⟨_, _, rfl, HRD.out⟩, HBF.out⟩
theorem hPutS_any (s : SgT) (hs : InS s) (w : World) (C : Array Value) (HC : Hid (C = (scells s).toArray)) :
    Calls Tryz.prog 31 #[.agg C] w fun e w' => BytesE (putSB s) (putSE s) e w' ∧ Below w.heap.size w w' := by
  unfold putSB putSE
  cases hr : mayS s
  · exact hPutS_no s hs hr w C HC
  · exact hPutS_yes s hs hr w C HC
theorem came2 (w : World) (M C : Array Value) (t u : TypeId) : Below w.heap.size w ((w.alloc (.cells M t)).alloc (.cells C u)) ∧ ((w.alloc (.cells M t)).alloc (.cells C u)).heap[w.heap.size]? = some (.cells M t (0, 0)) ∧ ((w.alloc (.cells M t)).alloc (.cells C u)).heap[w.heap.size + 1]? = some (.cells C u (0, 0)) :=
  ⟨((Below.refl _ _).alloc (Nat.le_refl _) _).alloc (by simp) _, heap_keep (heap_alloc_new w _), by have := heap_alloc_new (w.alloc (.cells M t)) (.cells C u); rwa [alloc_size] at this⟩
theorem srow_row {W : World} {g : Nat} {s : SgT} (hd : s.h.d.length = 32) {C : Array Value} (HC : Hid (C = (scells s).toArray)) {t : TypeId} (h : W.heap[g]? = some (.cells C t (0, 0))) : SRow W g 0 s := by
  refine srow_of hd fun j v hj => ?_
  rw [Nat.zero_add, cell_of_row _ _ j _ t (0, 0) h, HC.out]
  simpa using hj
theorem srow_r {W : World} {g : Nat} {s : SgT} (h : SRow W g 0 s) : W.cell? ⟨g, 0, none⟩ = some (.int .i64 s.h.r) := by
  have := h.h 0 (.int .i64 s.h.r) rfl
  simpa using this
set_option maxHeartbeats 8000000 in
theorem hVerify_any (master : List UInt8) (s : SgT) (w : World) (M C : Array Value) (HM : Hid (M = (cellsOf master).toArray)) (HC : Hid (C = (scells s).toArray)) (hm : master.length = 32) (hs : InS s) (hT : TabT w) :
    Calls Tryz.prog 42 #[.agg M, .agg C] w fun e w' => e = .returned (.int .i64 (verE master s)) ∧ Below w.heap.size w w' := by
  have hnot : ∀ (x : Bool) (w : World), (Op.unary .not (.bool x)).run Tryz.prog w = .ok (.bool (!x)) w := fun _ _ => rfl
  have hd := hs.h.d
  have hg := hs.g
  have HSM : Hid ((Tryz.prog.info? 48).map (·.size) = some M.size) := by show _ = _; rw [sizeY, HM.out]; simp [cellsOf_length, hm]
  have HSC : Hid ((Tryz.prog.info? 28).map (·.size) = some C.size) := by show _ = _; rw [sizeS, HC.out]; simp [scells_length s hd hg]
  obtain ⟨b, hb⟩ : ∃ b, b = mayS s := ⟨_, rfl⟩
  have K1 : Hid (∀ W, Calls Tryz.prog 50 #[.agg C] W fun e w' => e = .returned (.bool b) ∧ Below W.heap.size W w') := fun W => by rw [hb]; exact hMay_any s hd W C HC
  obtain ⟨r, Hr⟩ : ∃ r, Hid (r = s.h.r) := ⟨s.h.r, hidk rfl⟩
  obtain ⟨n, Hn⟩ : ∃ n, Hid (n = s.n) := ⟨s.n, hidk rfl⟩
  obtain ⟨HCs, HHC, HSH, H36⟩ := head_row s.h hd
  obtain ⟨D, HD, HSD, H1D, H32D⟩ := dig_row' s.g hg
  obtain ⟨u, HU⟩ : ∃ u, Hid (u = signT s.h) := ⟨_, hidk rfl⟩
  have T1 : Hid (∀ W, Calls Tryz.prog 67 #[.agg HCs] W fun e w' => e = .returned (.string u) ∧ Below W.heap.size W w') := fun W => by rw [HU.out]; exact hText_any s.h hd W HCs HHC
  obtain ⟨k, Hk⟩ : ∃ k, Hid (k = holdE master r n u.data.toList s.g) := ⟨_, hidk rfl⟩
  have Q1 : Hid (∀ W, Below w.heap.size w W → Calls Tryz.prog 68 #[.agg M, .int .i64 r, .int .i64 n, .string u, .agg D] W fun e w' => e = .returned (.int .i64 k) ∧ Below W.heap.size W w') := fun W hbw => by
    rw [Hk.out]
    exact holds_any master r n u s.g W M D HM HD hm hg (by rw [HU.out]; exact signT_size s.h hd) (hT.keep hbw)
  have HV : Hid (verE master s = if b = true then k else 70) := by
    show _ = _
    unfold verE
    rw [hb]
    cases hq : mayS s
    · rfl
    · have ho := mayS_owner s hq
      have hrt := ((mayS_iff s).1 hq).1
      rw [if_pos rfl, if_pos rfl, Hk.out, Hr.out, Hn.out, HU.out, holdE_in _ _ _ _ _ ho, signT_right s.h hrt]
      rfl
  rw [HV.out]
  have HW0 := hidk (came2 w M C 48 28)
  have HS0 := hidk (srow_row hd HC HW0.out.2.2)
  have HDL : Hid (D.toList = cellsOf s.g) := by show _ = _; rw [HD.out]
  have HHL : Hid (HCs.toList = hcells s.h) := by show _ = _; rw [HHC.out]
  clear HC HM hT HD HV Hk HU hb
  cases b
  · go_enter Tryz.func42, Tryz.ntmps42
    go_wp2_with (first
      | (show aD 5 _ _ _ _ _ _ _ _ _ _ _; refine wpList_load_row rfl 28 (.tmp 3) rfl (w.heap.size + 1) rfl 28 C (0, 0) _ HW0.out.2.2 Tryz.underlying28 rfl HSC.out ?_; try simp only [Act.put, pS1, pS2, pS3])
      | fail)
    refine (K1.out _).mono ?_
    rintro e w1 ⟨rfl, hb1⟩
    have HB1 := hidk (HW0.out.1.trans (hb1.mono HW0.out.1.size))
    clear hb1
    go_wp2
    go_ret
    exact ⟨rfl, HB1.out⟩
  · go_enter Tryz.func42, Tryz.ntmps42
    go_wp2_with (first
      | (show aD 5 _ _ _ _ _ _ _ _ _ _ _; refine wpList_load_row rfl 28 (.tmp 3) rfl (w.heap.size + 1) rfl 28 C (0, 0) _ HW0.out.2.2 Tryz.underlying28 rfl HSC.out ?_; try simp only [Act.put, pS1, pS2, pS3])
      | fail)
    refine (K1.out _).mono ?_
    rintro e w1 ⟨rfl, hb1⟩
    have HB1 := hidk (HW0.out.1.trans (hb1.mono HW0.out.1.size))
    have HM1 := hidk ((hb1.block _ (heap_lt HW0.out.2.1)).trans HW0.out.2.1)
    have HS1 := hidk (HS0.out.keep hb1)
    clear hb1 HW0 HS0 K1
    go_wp2
    refine wp_region_held_drew (S := (fun W => W.heap[w.heap.size]? = some (.cells M 48 (0, 0)) ∧ SRow W (w.heap.size + 1) 0 s)) (by kernel_rfl) ⟨HM1.out, HS1.out.keep (Below.refl _ _).drew⟩ (fun hHeld => ?_)
    refine zW 0 (.agg M) rfl (yieldsIf_row (by rfl) 48 (.tmp 2) rfl w.heap.size rfl 48 M (0, 0) _ (fun _ h => h.1) Tryz.underlying48 rfl HSM.out) hHeld ?_
    try simp only [Act.put, pS1, pS2, pS3]
    refine zX 1 (.pointer (some ⟨w.heap.size + 1, 0, none⟩)) rfl hHeld ?_
    try simp only [Act.put, pS1, pS2, pS3]
    refine zX 2 (.pointer (some ⟨w.heap.size + 1, 0, none⟩)) rfl hHeld ?_
    try simp only [Act.put, pS1, pS2, pS3]
    refine zW 3 (.int .i64 r) rfl (Or.inl ⟨by rfl, by intro W hSw; have h1 := srow_r hSw.2; rw [← Hr.out] at h1; go_simp⟩) hHeld ?_
    try simp only [Act.put, pS1, pS2, pS3]
    refine zX 4 (.pointer (some ⟨w.heap.size + 1, 36, none⟩)) rfl hHeld ?_
    try simp only [Act.put, pS1, pS2, pS3]
    refine zW 5 (.int .i64 n) rfl (Or.inl ⟨by rfl, by intro W hSw; have h1 := hSw.2.n; rw [← Hn.out, Nat.zero_add] at h1; go_simp⟩) hHeld ?_
    try simp only [Act.put, pS1, pS2, pS3]
    refine zX 6 (.pointer (some ⟨w.heap.size + 1, 0, none⟩)) rfl hHeld ?_
    try simp only [Act.put, pS1, pS2, pS3]
    refine zW 7 (.agg HCs) rfl (yieldsIf_mid (by rfl) 26 (.tmp 14) rfl (w.heap.size + 1) 0 rfl HCs _ (fun _ h => by rw [HHL.out]; exact h.2.h) Tryz.underlying26 rfl HSH.out) hHeld ?_
    try simp only [Act.put, pS1, pS2, pS3]
    refine zX 9 (.pointer (some ⟨w.heap.size + 1, 37, none⟩)) rfl hHeld ?_
    try simp only [Act.put, pS1, pS2, pS3]
    refine zW 10 (.agg D) rfl (yieldsIf_mid (by rfl) 24 (.tmp 17) rfl (w.heap.size + 1) 37 rfl D _ (fun _ h => by rw [HDL.out]; have := h.2.g; rwa [Nat.zero_add] at this) Tryz.underlying24 rfl HSD.out) hHeld ?_
    try simp only [Act.put, pS1, pS2, pS3]
    refine wpAnyH_ready (rs := [8]) (by kernel_rfl) (by simp) ?_
    refine (AllReadyH.cons (o := { dst := some 16, op := .call { callee := .value (.func 67), args := #[.tmp 15], argTypes := #[26] }, type := 9, pos := "head.go:88", after := #[zD 7], guard := none }) rfl (fun K hK => ?_) AllReadyH.nil)
    go_simp
    refine (T1.out _).mono ?_
    rintro e w8 ⟨rfl, hb8⟩
    have HBc := hidk (HB1.out.drew.trans (hb8.mono HB1.out.size))
    go_wp2_with fail
    refine hK.out _ _ ⟨(hb8.block _ (heap_lt hHeld.1)).trans hHeld.1, hHeld.2.keep hb8⟩ (fun hHeld => ?_)
    clear hK K
    try simp only [Act.put, pS1, pS2, pS3]
    refine wpAnyH_ready (rs := [11]) (by kernel_rfl) (by simp) ?_
    refine (AllReadyH.cons (o := { dst := some 19, op := .call { callee := .value (.func 68), args := #[.tmp 8, .tmp 11, .tmp 13, .tmp 16, .tmp 18], argTypes := #[48, 3, 3, 9, 24] }, type := 41, pos := "head.go:88", after := #[zD 0, zD 3, zD 5, zD 8, zD 10, zC 8], guard := none }) rfl (fun K hK => ?_) AllReadyH.nil)
    go_simp
    refine (Q1.out _ HBc.out).mono ?_
    rintro e w11 ⟨rfl, hb9⟩
    have HBF := hidk (HBc.out.trans (hb9.mono HBc.out.size))
    go_wp2_with fail
    refine hK.out _ _ ⟨(hb9.block _ (heap_lt hHeld.1)).trans hHeld.1, hHeld.2.keep hb9⟩ (fun hHeld => ?_)
    clear hK K
    try simp only [Act.put, pS1, pS2, pS3]
    refine zX 12 (.int .i64 k) rfl hHeld ?_
    try simp only [Act.put, pS1, pS2, pS3]
    refine wpAnyH_done (by kernel_rfl) ?_ _
    go_wp2
    go_ret
    exact ⟨rfl, HBF.out⟩
def restE (x : EnT) : List (Int × ByteArray) := if x.k = 1 then [(2, nOf x.c), (3, nOf x.s), (4, x.t)] else if x.k = 2 then [(5, bA (signB x.h))] else if x.k = 3 then [(6, bA (claimB x.m))] else []
theorem fieldsE_rest (x : EnT) : fieldsE x = (1, nOf x.k) :: restE x := rfl
def RowF (w : World) (cs : Array Value) (m : Nat) (e : Ending) (w' : World) : Prop := ∃ g, e = .returned (.slice (some ⟨g, 0, none⟩) m m) ∧ w'.heap[g]? = some (.cells cs 92 (0, 0)) ∧ w.heap.size ≤ g ∧ Below w.heap.size w w'
set_option maxHeartbeats 8000000 in
theorem eFields_user (x : EnT) (ok : OkE x) (hk : x.k = 1) (w : World) (X cs : Array Value) (HX : Hid (X = (ecells x).toArray)) (HC : Hid (cs.toList = fcells (restE x))) :
    Calls Tryz.prog 120 #[.agg X] w fun e w' => RowF w cs 3 e w' := by
  have HR := hidk (erow_new w x ok X HX 35)
  have HB : Hid (Below w.heap.size w (w.alloc (.cells X 35))) := (Below.refl _ _).alloc (Nat.le_refl _) _
  have c0 := HR.out.k
  rw [hk] at c0
  obtain ⟨c, Hc⟩ : ∃ c, Hid (c = x.c) := ⟨_, hidk rfl⟩
  obtain ⟨s, Hs⟩ : ∃ c, Hid (c = x.s) := ⟨_, hidk rfl⟩
  obtain ⟨t, Ht⟩ : ∃ c, Hid (c = x.t) := ⟨_, hidk rfl⟩
  obtain ⟨n2, Hn2⟩ : ∃ n, Hid (n = nOf c) := ⟨_, hidk rfl⟩
  obtain ⟨n3, Hn3⟩ : ∃ n, Hid (n = nOf s) := ⟨_, hidk rfl⟩
  have N2 : Hid (∀ W, Calls Tryz.prog 98 #[.int .i64 2, .int .i64 c] W fun e w' => e = .returned (.agg #[.int .i64 2, .string n2]) ∧ Below W.heap.size W w') := fun W => by rw [Hn2.out]; exact eNum_any 2 c W
  have N3 : Hid (∀ W, Calls Tryz.prog 98 #[.int .i64 3, .int .i64 s] W fun e w' => e = .returned (.agg #[.int .i64 3, .string n3]) ∧ Below W.heap.size W w') := fun W => by rw [Hn3.out]; exact eNum_any 3 s W
  have HCS : Hid (cs = #[.int .i64 2, .string n2, .int .i64 3, .string n3, .int .i64 4, .string t]) := by
    show _ = _
    apply Array.ext'
    rw [HC.out, Hn2.out, Hn3.out, Hc.out, Hs.out, Ht.out]
    unfold restE
    rw [if_pos hk]
    rfl
  clear HX HC Hn2 Hn3 ok hk
  go_enter Tryz.func120, Tryz.ntmps120
  go_wp2
  refine wp_region_held_drew (S := (fun W => ERow W w.heap.size 0 x)) (by kernel_rfl) (HR.out.keep (Below.refl _ _).drew) (fun hHeld => ?_)
  refine zX 0 (.pointer (some ⟨w.heap.size, 1, none⟩)) rfl hHeld ?_
  try simp only [Act.put, pS1, pS2, pS3]
  refine zW 1 (.int .i64 c) rfl (Or.inl ⟨by rfl, by intro W hSw; have h1 := hSw.c; rw [← Hc.out, Nat.zero_add] at h1; go_simp⟩) hHeld ?_
  try simp only [Act.put, pS1, pS2, pS3]
  refine zX 3 (.pointer (some ⟨w.heap.size, 2, none⟩)) rfl hHeld ?_
  try simp only [Act.put, pS1, pS2, pS3]
  refine zW 4 (.int .i64 s) rfl (Or.inl ⟨by rfl, by intro W hSw; have h1 := hSw.s; rw [← Hs.out, Nat.zero_add] at h1; go_simp⟩) hHeld ?_
  try simp only [Act.put, pS1, pS2, pS3]
  refine zX 6 (.pointer (some ⟨w.heap.size, 3, none⟩)) rfl hHeld ?_
  try simp only [Act.put, pS1, pS2, pS3]
  refine zW 7 (.string t) rfl (Or.inl ⟨by rfl, by intro W hSw; have h1 := hSw.t; rw [← Ht.out, Nat.zero_add] at h1; go_simp⟩) hHeld ?_
  try simp only [Act.put, pS1, pS2, pS3]
  refine zX 8 (.agg #[.int .i64 4, .string t]) rfl hHeld ?_
  try simp only [Act.put, pS1, pS2, pS3]
  refine wpAnyH_ready (rs := [2]) (by kernel_rfl) (by simp) ?_
  refine (AllReadyH.cons (o := { dst := some 13, op := .call { callee := .value (.func 98), args := #[.const (.int .i64 2), .tmp 12], argTypes := #[3, 3] }, type := 92, pos := "entry.go:134", after := #[zD 1], guard := none }) rfl (fun K hK => ?_) AllReadyH.nil)
  go_simp
  refine (N2.out _).mono ?_
  rintro e w2 ⟨rfl, hb2⟩
  have HB2 := hidk (HB.out.drew.trans (hb2.mono HB.out.size))
  go_wp2_with fail
  refine hK.out _ _ (hHeld.keep hb2) (fun hHeld => ?_)
  clear hK K
  try simp only [Act.put, pS1, pS2, pS3]
  refine wpAnyH_ready (rs := [5]) (by kernel_rfl) (by simp) ?_
  refine (AllReadyH.cons (o := { dst := some 16, op := .call { callee := .value (.func 98), args := #[.const (.int .i64 3), .tmp 15], argTypes := #[3, 3] }, type := 92, pos := "entry.go:135", after := #[zD 4, zC 2], guard := none }) rfl (fun K hK => ?_) AllReadyH.nil)
  go_simp
  refine (N3.out _).mono ?_
  rintro e w5 ⟨rfl, hb5⟩
  have HB5 := hidk (HB2.out.trans (hb5.mono HB2.out.size))
  go_wp2_with fail
  refine hK.out _ _ (hHeld.keep hb5) (fun hHeld => ?_)
  clear hK K
  try simp only [Act.put, pS1, pS2, pS3]
  refine wpAnyH_ready (rs := [9]) (by kernel_rfl) (by simp) ?_
  refine (AllReadyH.cons (o := { dst := some 20, op := .buildSlice 95 3 #[(0, .tmp 13), (1, .tmp 16), (2, .tmp 19)], type := 95, pos := "entry.go:133", after := #[zD 2, zD 5, zD 8], guard := none }) rfl (fun K hK => ?_) AllReadyH.nil)
  go_simp
  refine hK.out _ _ (hHeld.keep ((Below.refl _ _).alloc (Nat.le_refl _) _)) (fun hHeld => ?_)
  clear hK K
  try simp only [Act.put, pS1, pS2, pS3]
  refine zX 10 (.slice (some ⟨w5.heap.size, 0, none⟩) 3 3) rfl hHeld ?_
  try simp only [Act.put, pS1, pS2, pS3]
  refine wpAnyH_done (by kernel_rfl) ?_ _
  go_wp2
  go_ret
  refine ⟨w5.heap.size, rfl, ?_, HB5.out.size, HB5.out.trans (((Below.refl _ _).alloc (Nat.le_refl _) _).mono HB5.out.size)⟩
  rw [HCS.out]
  exact heap_alloc_new w5 _
set_option maxHeartbeats 4000000 in
theorem eFields_anchor (x : EnT) (ok : OkE x) (hk : x.k = 2) (hin : InS x.h) (hm : mayS x.h = true) (w : World) (X cs : Array Value) (HX : Hid (X = (ecells x).toArray)) (HC : Hid (cs.toList = fcells (restE x))) :
    Calls Tryz.prog 120 #[.agg X] w fun e w' => RowF w cs 1 e w' := by
  have HR := erow_new w x ok X HX 35
  have HB : Hid (Below w.heap.size w (w.alloc (.cells X 35))) := (Below.refl _ _).alloc (Nat.le_refl _) _
  have c0 := HR.k
  rw [hk] at c0
  obtain ⟨Q, HQ, HSQ, H1Q, HNQ⟩ := sign_row x.h ok.h ok.g
  have RQ : Hid ((w.alloc (.cells X 35)).rangeAt w.heap.size 4 Q.toList) := by have := HR.h; show World.rangeAt _ _ _ _; rw [HQ.out]; simpa using this
  obtain ⟨l, Hl⟩ : ∃ l, Hid (l = signB x.h) := ⟨_, hidk rfl⟩
  obtain ⟨y, Hy⟩ : ∃ y : ByteArray, Hid (y = bA l) := ⟨_, hidk rfl⟩
  have P1 : Hid (∀ W, Calls Tryz.prog 31 #[.agg Q] W fun e w' => (∃ a c, e = .returned (.tuple #[.slice a l.length c, .int .i64 0]) ∧ Reads w' a l.length c l) ∧ Below W.heap.size W w') := fun W => by
    rw [Hl.out]
    have := hPutS_any x.h hin W Q HQ
    unfold putSB putSE at this; rw [if_pos hm, if_pos hm] at this
    exact this
  have HCS : Hid (cs = #[.int .i64 5, .string y]) := by
    show _ = _
    apply Array.ext'
    rw [HC.out, Hy.out, Hl.out]
    unfold restE
    rw [if_neg (by omega), if_pos hk]
    rfl
  clear HX HC HR HQ Hl
  go_enter Tryz.func120, Tryz.ntmps120
  go_wp2_with (first
    | (show aD 25 _ _ _ _ _ _ _ _ _ _ _; refine wpList_mid rfl 28 (.tmp 24) rfl w.heap.size 4 rfl Q _ RQ.out Tryz.underlying28 rfl HSQ.out ?_; try simp only [Act.put, pS1, pS2, pS3])
    | fail)
  refine (P1.out _).mono ?_
  rintro e w1 ⟨⟨a1, c1, rfl, hr1⟩, hb1⟩
  have HB1 := hidk (HB.out.trans (hb1.mono HB.out.size))
  have hcv := conv_reads hr1
  rw [show (⟨l.toArray⟩ : ByteArray) = y from Hy.out.symm] at hcv
  clear hb1 hr1
  go_wp2
  go_ret
  refine ⟨w1.heap.size, rfl, ?_, HB1.out.size, HB1.out.trans (((Below.refl _ _).alloc (Nat.le_refl _) _).mono HB1.out.size)⟩
  rw [HCS.out]
  exact heap_alloc_new w1 _
set_option maxHeartbeats 4000000 in
theorem eFields_claim (x : EnT) (ok : OkE x) (hk : x.k = 3) (hm : rightC x.m = true) (w : World) (X cs : Array Value) (HX : Hid (X = (ecells x).toArray)) (HC : Hid (cs.toList = fcells (restE x))) :
    Calls Tryz.prog 120 #[.agg X] w fun e w' => RowF w cs 1 e w' := by
  have HR := erow_new w x ok X HX 35
  have HB : Hid (Below w.heap.size w (w.alloc (.cells X 35))) := (Below.refl _ _).alloc (Nat.le_refl _) _
  have c0 := HR.k
  rw [hk] at c0
  obtain ⟨Q, HQ, HSQ, H1Q, HNQ⟩ := claim_row5 x.m ok.m
  have RQ : Hid ((w.alloc (.cells X 35)).rangeAt w.heap.size 73 Q.toList) := by have := HR.m; show World.rangeAt _ _ _ _; rw [HQ.out]; simpa using this
  obtain ⟨l, Hl⟩ : ∃ l, Hid (l = claimB x.m) := ⟨_, hidk rfl⟩
  obtain ⟨y, Hy⟩ : ∃ y : ByteArray, Hid (y = bA l) := ⟨_, hidk rfl⟩
  have P1 : Hid (∀ W, Calls Tryz.prog 131 #[.agg Q] W fun e w' => (∃ a c, e = .returned (.tuple #[.slice a l.length c, .int .i64 0]) ∧ Reads w' a l.length c l) ∧ Below W.heap.size W w') := fun W => by
    rw [Hl.out]
    have := ePutC_any x.m ok.m W Q HQ
    unfold cB cE at this; rw [if_pos hm, if_pos hm] at this
    exact this
  have HCS : Hid (cs = #[.int .i64 6, .string y]) := by
    show _ = _
    apply Array.ext'
    rw [HC.out, Hy.out, Hl.out]
    unfold restE
    rw [if_neg (by omega), if_neg (by omega), if_pos hk]
    rfl
  clear HX HC HR HQ Hl
  go_enter Tryz.func120, Tryz.ntmps120
  go_wp2_with (first
    | (show aD 37 _ _ _ _ _ _ _ _ _ _ _; refine wpList_mid rfl 33 (.tmp 36) rfl w.heap.size 73 rfl Q _ RQ.out Tryz.underlying33 rfl HSQ.out ?_; try simp only [Act.put, pS1, pS2, pS3])
    | fail)
  refine (P1.out _).mono ?_
  rintro e w1 ⟨⟨a1, c1, rfl, hr1⟩, hb1⟩
  have HB1 := hidk (HB.out.trans (hb1.mono HB.out.size))
  have hcv := conv_reads hr1
  rw [show (⟨l.toArray⟩ : ByteArray) = y from Hy.out.symm] at hcv
  clear hb1 hr1
  go_wp2
  go_ret
  refine ⟨w1.heap.size, rfl, ?_, HB1.out.size, HB1.out.trans (((Below.refl _ _).alloc (Nat.le_refl _) _).mono HB1.out.size)⟩
  rw [HCS.out]
  exact heap_alloc_new w1 _
theorem restE_len {x : EnT} (h : rightE x = true) : (restE x).length = if x.k = 1 then 3 else 1 := by
  rcases right_kinds h with ⟨hk, _⟩ | ⟨hk, _⟩ | ⟨hk, _⟩
  · unfold restE; rw [if_pos hk, if_pos hk]; rfl
  · unfold restE; rw [if_neg (by omega), if_pos hk, if_neg (by omega)]; rfl
  · unfold restE; rw [if_neg (by omega), if_neg (by omega), if_pos hk, if_neg (by omega)]; rfl
theorem eFields_any (x : EnT) (hin : InE x) (h : rightE x = true) (w : World) (X cs : Array Value) (HX : Hid (X = (ecells x).toArray)) (HC : Hid (cs.toList = fcells (restE x))) :
    Calls Tryz.prog 120 #[.agg X] w fun e w' => RowF w cs (restE x).length e w' := by
  have hl := restE_len h
  rcases right_kinds h with ⟨hk, _⟩ | ⟨hk, _, _, _, hm, _⟩ | ⟨hk, _, _, _, _, hm⟩
  · rw [hl, if_pos hk]; exact eFields_user x hin.ok hk w X cs HX HC
  · rw [hl, if_neg (by omega)]; exact eFields_anchor x hin.ok hk hin.h hm w X cs HX HC
  · rw [hl, if_neg (by omega)]; exact eFields_claim x hin.ok hk hm w X cs HX HC
theorem eField_small {x : EnT} (ok : OkE x) (h : rightE x = true) : (∀ f ∈ fieldsE x, f.2.size ≤ maxLen) ∧ (fieldsE x).length ≤ 400 := fieldsE_small ok h
theorem fcells_one : ∀ (fs : List (Int × ByteArray)), ∀ v ∈ fcells fs, v.oneCell' = true
  | [], v, hv => by simp [fcells] at hv
  | f :: r, v, hv => by
    have e : fcells (f :: r) = [.int .i64 f.1, .string f.2] ++ fcells r := rfl
    rw [e] at hv
    simp only [List.mem_append, List.mem_cons, List.not_mem_nil, or_false] at hv
    rcases hv with (rfl | rfl) | hv
    · rfl
    · rfl
    · exact fcells_one r v hv
theorem fcells_len : ∀ (fs : List (Int × ByteArray)), (fcells fs).length = fs.length * 2
  | [] => rfl
  | f :: r => by
    have e : fcells (f :: r) = [.int .i64 f.1, .string f.2] ++ fcells r := rfl
    rw [e, List.length_append, fcells_len r]
    simp
    omega
theorem eAppend (w W : World) (gk g : Nat) (n1 : ByteArray) (fs : List (Int × ByteArray)) (cs : Array Value) (HC : Hid (cs.toList = fcells fs)) (h1 : W.heap[gk]? = some (.cells #[.int .i64 1, .string n1] 92 (0, 0))) (h2 : W.heap[g]? = some (.cells cs 92 (0, 0))) (hk : w.heap.size ≤ gk) (hb : Below w.heap.size w W) (hl : fs.length ≤ 100) (hm : ∀ f ∈ ((1 : Int), n1) :: fs, f.2.size ≤ maxLen) :
    ∃ a c w', (Builtin.append_ #[95, 95] 95 #[.slice (some ⟨gk, 0, none⟩) 1 1, .slice (some ⟨g, 0, none⟩) fs.length fs.length]).run Tryz.prog W = .ok (.slice a (((1 : Int), n1) :: fs).length c) w' ∧ FReads w'.heap.size w' a (((1 : Int), n1) :: fs).length c (((1 : Int), n1) :: fs) ∧ Below w.heap.size w w' := by
  obtain ⟨i0, hi, hz0, hz1, hz2⟩ := info_parts info37
  have hgk := heap_lt h1
  have hown : W.ownsRow w.heap.size 92 2 (.slice (some ⟨gk, 0, none⟩) 1 1) 1 (fcells [((1 : Int), n1)]) := ⟨rfl, .inr ⟨gk, 1, #[.int .i64 1, .string n1], rfl, hk, h1, Nat.le_refl _, by unfold maxLen; decide, rfl, rfl⟩⟩
  have hn : ∀ (j : Nat) (u : Value), (fcells fs)[j]? = some u → W.cell? ((⟨g, 0, none⟩ : Addr).add j) = some u := by
    intro j u hj
    rw [add_plain, Nat.zero_add, cell_of_row W g j cs 92 (0, 0) h2]
    rw [← HC.out] at hj
    simpa using hj
  obtain ⟨v', w', hr, ho, hg, _⟩ := run_append_own (P := Tryz.prog) W w.heap.size 95 95 92 i0 (.agg #[.int .i64 0, .string ⟨#[]⟩]) 2 24 Tryz.underlying95 hi hz0 hz1 hz2 rfl (by decide) _ 1 _ hown ⟨g, 0, none⟩ fs.length fs.length (fcells fs) (fcells_len fs) hn (fcells_one fs) (by unfold maxLen; omega) (by omega) (by omega)
  have e1 : fcells [((1 : Int), n1)] ++ fcells fs = fcells (((1 : Int), n1) :: fs) := rfl
  have e2 : 1 + fs.length = (((1 : Int), n1) :: fs).length := by simp; omega
  rw [e1, e2] at ho
  obtain ⟨a, c, rfl, hrd⟩ := freads_own ho hm
  exact ⟨a, c, w', hr, hrd, hb.grown hg hb.size (by intro k hk'; cases hk'; exact hk)⟩
set_option maxHeartbeats 2000000 in
theorem ePutE_no (x : EnT) (ok : OkE x) (hr : rightE x = false) (w : World) (X : Array Value) (HX : Hid (X = (ecells x).toArray)) :
    Calls Tryz.prog 96 #[.agg X] w fun e w' => BytesE [] 60 e w' ∧ Below w.heap.size w w' := by
  have HSX : Hid ((Tryz.prog.info? 35).map (·.size) = some X.size) := by show _ = _; rw [sizeE, HX.out]; simp [ecells_length _ ok]
  have HX0 : Hid ((w.alloc (.cells X 35)).heap[w.heap.size]? = some (.cells X 35 (0, 0))) := heap_alloc_new w _
  have HB : Hid (Below w.heap.size w (w.alloc (.cells X 35))) := (Below.refl _ _).alloc (Nat.le_refl _) _
  have K1 : Hid (∀ W, Calls Tryz.prog 114 #[.agg X] W fun e w' => e = .returned (.int .i64 60) ∧ Below W.heap.size W w') := fun W => by
    have := eCheck_any x ok W X HX
    rwa [show eE x = 60 by unfold eE; rw [hr]; rfl] at this
  clear HX hr
  go_enter Tryz.func96, Tryz.ntmps96
  go_wp2_with (first
    | (show aD 6 _ _ _ _ _ _ _ _ _ _ _; refine wpList_load_row rfl 35 (.tmp 1) rfl w.heap.size rfl 35 X (0, 0) _ HX0.out Tryz.underlying35 rfl HSX.out ?_; try simp only [Act.put, pS1, pS2, pS3])
    | fail)
  refine (K1.out _).mono ?_
  rintro e w1 ⟨rfl, hb1⟩
  have HB1 := hidk (HB.out.trans (hb1.mono HB.out.size))
  clear hb1
  go_wp2
  go_ret2
  exact ⟨eBytes_no _ _, HB1.out⟩
set_option maxHeartbeats 4000000 in
theorem ePutE_yes (x : EnT) (hin : InE x) (hr : rightE x = true) (w : World) (X : Array Value) (HX : Hid (X = (ecells x).toArray)) :
    Calls Tryz.prog 96 #[.agg X] w fun e w' => BytesE (entryB x) 0 e w' ∧ Below w.heap.size w w' := by
  have ok := hin.ok
  have HSX : Hid ((Tryz.prog.info? 35).map (·.size) = some X.size) := by show _ = _; rw [sizeE, HX.out]; simp [ecells_length _ ok]
  have HX0 : Hid ((w.alloc (.cells X 35)).heap[w.heap.size]? = some (.cells X 35 (0, 0))) := heap_alloc_new w _
  have HB : Hid (Below w.heap.size w (w.alloc (.cells X 35))) := (Below.refl _ _).alloc (Nat.le_refl _) _
  have K1 : Hid (∀ W, Calls Tryz.prog 114 #[.agg X] W fun e w' => e = .returned (.int .i64 0) ∧ Below W.heap.size W w') := fun W => by
    have := eCheck_any x ok W X HX
    rwa [show eE x = 0 by unfold eE; rw [hr]; rfl] at this
  obtain ⟨k, Hk⟩ : ∃ k, Hid (k = x.k) := ⟨_, hidk rfl⟩
  obtain ⟨n1, Hn1⟩ : ∃ n, Hid (n = nOf k) := ⟨_, hidk rfl⟩
  have N1 : Hid (∀ W, Calls Tryz.prog 98 #[.int .i64 1, .int .i64 k] W fun e w' => e = .returned (.agg #[.int .i64 1, .string n1]) ∧ Below W.heap.size W w') := fun W => by rw [Hn1.out]; exact eNum_any 1 k W
  have KK : Hid (∀ W : World, W.heap[w.heap.size]? = some (.cells X 35 (0, 0)) → W.cell? ⟨w.heap.size, 0, none⟩ = some (.int .i64 k)) := fun W h => by have := (erow_row ok HX h).k; rwa [← Hk.out] at this
  obtain ⟨fs, hfs⟩ : ∃ fs, fs = restE x := ⟨_, rfl⟩
  obtain ⟨cs, HC⟩ : ∃ cs : Array Value, Hid (cs.toList = fcells fs) := ⟨(fcells fs).toArray, hidk rfl⟩
  have hfl : fs.length ≤ 100 := by rw [hfs, restE_len hr]; split <;> omega
  have F1 : Hid (∀ W, Calls Tryz.prog 120 #[.agg X] W fun e w' => RowF W cs fs.length e w') := fun W => by rw [hfs]; exact eFields_any x hin hr W X cs HX (by rw [← hfs]; exact HC)
  have hall : fieldsE x = (1, n1) :: fs := by rw [fieldsE_rest, Hn1.out, Hk.out, hfs]
  have hsm := (eField_small ok hr).1
  rw [hall] at hsm
  have AP : Hid (∀ W gk g, W.heap[gk]? = some (.cells #[.int .i64 1, .string n1] 92 (0, 0)) → W.heap[g]? = some (.cells cs 92 (0, 0)) → w.heap.size ≤ gk → Below w.heap.size w W →
      ∃ a c w', (Builtin.append_ #[95, 95] 95 #[.slice (some ⟨gk, 0, none⟩) 1 1, .slice (some ⟨g, 0, none⟩) fs.length fs.length]).run Tryz.prog W = .ok (.slice a (((1 : Int), n1) :: fs).length c) w' ∧ FReads w'.heap.size w' a (((1 : Int), n1) :: fs).length c (((1 : Int), n1) :: fs) ∧ Below w.heap.size w w') := fun W gk g h1 h2 h3 h4 => eAppend w W gk g n1 fs cs HC h1 h2 h3 h4 hfl hsm
  obtain ⟨l, Hl⟩ : ∃ l, Hid (l = entryB x) := ⟨_, hidk rfl⟩
  have hk0 := layE_entry hr ok
  rw [hall] at hk0
  have LY : Hid (∀ W a n c, n = (((1 : Int), n1) :: fs).length → FReads W.heap.size W a n c (((1 : Int), n1) :: fs) → Calls Tryz.prog 51 #[.slice a n c] W fun e w' => (∃ a' c', e = .returned (.tuple #[.slice a' l.length c', .int .i64 0]) ∧ Reads w' a' l.length c' l) ∧ Below W.heap.size W w') := fun W a n c hn h => by
    subst hn
    refine (lay_reads a _ c _ W h (by simp; omega) (k := 0) (l := l) hk0 (by rw [eRow_ok hk0, Hl.out, ← hall]; rfl)).mono ?_
    rintro e w' ⟨a', c', he, hrd, hb⟩
    exact ⟨⟨a', c', he, hrd⟩, hb⟩
  obtain ⟨nn, Hnn⟩ : ∃ n, Hid (n = (((1 : Int), n1) :: fs).length) := ⟨_, hidk rfl⟩
  obtain ⟨m, Hm⟩ : ∃ m, Hid (m = fs.length) := ⟨_, hidk rfl⟩
  rw [← Hl.out]
  rw [← Hnn.out] at AP
  rw [← Hm.out] at AP F1
  clear HX hr hall hsm hk0 Hn1 hfs HC ok hin
  go_enter Tryz.func96, Tryz.ntmps96
  go_wp2_with (first
    | (show aD 6 _ _ _ _ _ _ _ _ _ _ _; refine wpList_load_row rfl 35 (.tmp 1) rfl w.heap.size rfl 35 X (0, 0) _ HX0.out Tryz.underlying35 rfl HSX.out ?_; try simp only [Act.put, pS1, pS2, pS3])
    | fail)
  refine (K1.out _).mono ?_
  rintro e w1 ⟨rfl, hb1⟩
  have HB1 := hidk (HB.out.trans (hb1.mono HB.out.size))
  have HX1 := hidk ((hb1.block _ (heap_lt HX0.out)).trans HX0.out)
  have c0 := KK.out w1 HX1.out
  clear hb1 HB HX0 K1 KK
  go_wp2_with fail
  refine (N1.out _).mono ?_
  rintro e w2 ⟨rfl, hb2⟩
  have HB2 := hidk (HB1.out.trans (hb2.mono HB1.out.size))
  have HX2 := hidk ((hb2.block _ (heap_lt HX1.out)).trans HX1.out)
  have HX3 := hidk (heap_keep (o' := .cells #[.int .i64 1, .string n1] 92) HX2.out)
  have HK3 := hidk (heap_alloc_new w2 (.cells #[.int .i64 1, .string n1] 92))
  have HB3 := hidk (HB2.out.trans (((Below.refl _ _).alloc (Nat.le_refl _) (.cells #[.int .i64 1, .string n1] 92)).mono HB2.out.size))
  clear hb2 HB1 HX1 HX2 N1 c0
  go_wp2_with (first
    | (show aD 16 _ _ _ _ _ _ _ _ _ _ _; refine wpList_load_row rfl 35 (.tmp 1) rfl w.heap.size rfl 35 X (0, 0) _ HX3.out Tryz.underlying35 rfl HSX.out ?_; try simp only [Act.put, pS1, pS2, pS3])
    | fail)
  refine (F1.out _).mono ?_
  rintro e w4 ⟨g4, rfl, hg4, _, hb4⟩
  obtain ⟨a5, c5, w5, hrun, hfr, hb5⟩ := AP.out w4 w2.heap.size g4 ((hb4.block _ (heap_lt HK3.out)).trans HK3.out) hg4 HB2.out.size (HB3.out.trans (hb4.mono HB3.out.size))
  have HRUN := hidk hrun
  have HFR := hidk hfr
  have HB5 := hidk hb5
  clear hrun hfr hb5 hb4 hg4 HK3 HX3 HB3 HB2 F1 AP
  go_wp2_with (first
    | (show aD 18 _ _ _ _ _ _ _ _ _ _ _; refine wpList_append_run rfl (.tmp 15) (.tmp 17) 95 95 rfl _ _ _ w5 rfl rfl HRUN.out ?_; try simp only [Act.put, pS1, pS2, pS3])
    | fail)
  refine (LY.out w5 a5 nn c5 Hnn.out (by rw [Hnn.out]; rw [Hnn.out] at HFR; exact HFR.out)).mono ?_
  rintro e w6 ⟨⟨a6, c6, rfl, hr6⟩, hb6⟩
  have HR6 := hidk hr6
  have HB6 := hidk (HB5.out.trans (hb6.mono HB5.out.size))
  clear hr6 hb6
  go_wp2
  go_ret2
  exact ⟨⟨_, _, rfl, HR6.out⟩, HB6.out⟩
theorem ePutE_any (x : EnT) (hin : InE x) (w : World) (X : Array Value) (HX : Hid (X = (ecells x).toArray)) :
    Calls Tryz.prog 96 #[.agg X] w fun e w' => BytesE (eB x) (eE x) e w' ∧ Below w.heap.size w w' := by
  unfold eB eE
  cases hr : rightE x
  · exact ePutE_no x hin.ok hr w X HX
  · exact ePutE_yes x hin hr w X HX
theorem builtS2 (h : HdT) (n : Int) (hd : h.d.length = 32) (C R : Array Value) (HC : Hid (C = (hcells h).toArray)) (HR : Hid (R = (scells ⟨h, n, List.replicate 32 0⟩).toArray)) : Tryz.prog.built 28 [(0, .agg C), (1, .int .i64 n)] = some R := by
  have hi := infoS
  have hzl := hcells_length zeroH rfl
  cases hq : Tryz.prog.info? 28 with
  | none => rw [hq] at hi; cases hi
  | some i =>
    rw [hq] at hi
    simp only [Option.map_some, Option.some.injEq, Prod.mk.injEq] at hi
    have hH := sizeH
    have hD := size23
    have h3 : (Tryz.prog.info? 3).map (·.size) = some 1 := by kernel_rfl
    cases hqH : Tryz.prog.info? 26 with
    | none => rw [hqH] at hH; cases hH
    | some iH =>
      cases hqD : Tryz.prog.info? 24 with
      | none => rw [hqD] at hD; cases hD
      | some iD =>
        cases hq3 : Tryz.prog.info? 3 with
        | none => rw [hq3] at h3; cases h3
        | some i3 =>
          rw [hqH] at hH
          rw [hqD] at hD
          rw [hq3] at h3
          simp only [Option.map_some, Option.some.injEq] at hH hD h3
          unfold Program.built
          simp only [hq, Tryz.underlying28, hi.1, List.mapM_cons, List.mapM_nil, hqH, hqD, hq3, hH, hD, h3, Option.map_some, Option.bind_eq_bind, Option.bind_some, Option.pure_def]
          show Instr.fill _ (scells zeroS).toArray _ = some R
          have hc36 : C.size = 36 := by rw [HC.out]; simp [hcells_length h hd]
          refine (fill_val _ 0 0 36 (.agg C) C _ [] (hcells zeroH) ([.int .i64 0] ++ cellsOf (List.replicate 32 0)) _ rfl rfl hc36 (by simp [scells, zeroS]) rfl hzl).trans ?_
          refine (fill_val _ 1 36 1 (.int .i64 n) #[.int .i64 n] _ C.toList [.int .i64 0] (cellsOf (List.replicate 32 0)) _ rfl rfl rfl (by simp) (by simpa using hc36) rfl).trans ?_
          simp only [Instr.fill, List.append_nil, Option.some.injEq]
          rw [HR.out, HC.out]
          rfl
theorem step_set_mid {P : Program} {ops : Array Oper} {o : Oper} {a : Act} {w : World} {K : Act → World → Prop} {Q : Exit → Act → World → Prop} {E : Prop} (hw : Region.wanted o (yielded ops a.tmps) = true) (ty : TypeId) (x y : Operand) (ho : o.op = .store ty x y)
    (g k : Nat) (D : Array Value) (hx : a.eval x = .pointer (some ⟨g, k, none⟩)) (hy : a.eval y = .agg D) (t' : TypeId) (Z : Array Value) (hg : w.heap[g]? = some (.cells Z t' (0, 0))) (hk : k + D.size ≤ Z.size) (hi : (P.info? ty).map (·.size) = some D.size) (h1 : D.all (·.oneCell') = true)
    (h : ∀ w', Hid (Wrote g (Z.toList.take k ++ D.toList ++ Z.toList.drop (k + D.size)).toArray t' w w') → K (a.put o.dst undef) w') : if Region.wanted o (yielded ops a.tmps) = true then Oper.wp P o a w K Q else E := by
  rw [if_pos hw]
  have hkk := h _ (wrote_row hg)
  have h1' : ∀ v ∈ D.toList, v.oneCell' = true := by
    intro v hv
    rw [Array.all_eq_true'] at h1
    exact h1 v (by simpa using hv)
  have hst := run_storeCells_at P g k t' D.toList 0 Z w hg (by simpa using hk) h1'
  cases hq : P.info? ty with
  | none => simp [hq] at hi
  | some i =>
    have hs : i.size = D.size := by simpa [hq] using hi
    unfold Oper.wp execOp
    simp only [ho, hx, hy, Instr.storeAt, Instr.sureAddr, Sem.run_bind, Sem.run_pure, Result.andThen_ok]
    simp only [Nat.add_zero, Nat.zero_add] at hst
    simp [storeVar, sizeOf, typeInfo, hq, Value.cells, hs, hst]
    simp only [List.append_assoc] at hkk ⊢
    exact hkk
theorem scells_sign (h : HdT) (n : Int) (t d : List UInt8) (hd : h.d.length = 32) (ht : t.length = 32) : ((scells ⟨h, n, t⟩).toArray.toList.take 37 ++ cellsOf d ++ (scells ⟨h, n, t⟩).toArray.toList.drop (37 + 32)).toArray = (scells ⟨h, n, d⟩).toArray := by
  unfold scells
  congr 1
  have e : ∀ l : List Value, l.toArray.toList = l := fun _ => rfl
  simp only [e, List.drop_append, List.take_append, List.length_append, hcells_length h hd, cellsOf_length, ht, List.length_singleton]
  rw [List.take_of_length_le (l := hcells h) (by rw [hcells_length h hd]; omega), List.drop_of_length_le (l := hcells h) (by rw [hcells_length h hd]; omega), List.drop_of_length_le (l := cellsOf t) (by rw [cellsOf_length, ht]; omega)]
  simp
theorem signsO_may (h : HdT) (n : Int) (g : List UInt8) : mayS ⟨h, n, g⟩ = signsO h n := by
  unfold mayS signsO
  rw [Bool.and_assoc]
set_option maxHeartbeats 8000000 in
theorem hSign_any (master : List UInt8) (h : HdT) (n : Int) (w : World) (M C R : Array Value) (HM : Hid (M = (cellsOf master).toArray)) (HC : Hid (C = (hcells h).toArray)) (hm : master.length = 32) (hd : h.d.length = 32) (hT : TabT w) (HR : Hid (R = (scells (signO master h n)).toArray)) :
    Calls Tryz.prog 41 #[.agg M, .agg C, .int .i64 n] w fun e w' => e = .returned (.tuple #[.agg R, .int .i64 (signE h n)]) ∧ Below w.heap.size w w' := by
  have hnot : ∀ (x : Bool) (w : World), (Op.unary .not (.bool x)).run Tryz.prog w = .ok (.bool (!x)) w := fun _ _ => rfl
  obtain ⟨Z, HZ, HA, HBZ, H69⟩ := noughtsS
  obtain ⟨ZY, HZY, HAY, HY32⟩ := noughtsY
  have HSZ : Hid ((Tryz.prog.info? 28).map (·.size) = some Z.size) := by show _ = _; rw [sizeS, H69.out]
  have H1Z : Hid (Z.all (·.oneCell') = true) := by show _ = _; rw [HZ.out]; exact one_cellsS _
  have HSM : Hid ((Tryz.prog.info? 48).map (·.size) = some M.size) := by show _ = _; rw [sizeY, HM.out]; simp [cellsOf_length, hm]
  have HSC : Hid ((Tryz.prog.info? 26).map (·.size) = some C.size) := by show _ = _; rw [sizeH, HC.out]; simp [hcells_length h hd]
  obtain ⟨S0, HS0, HSS, H1S, HS69⟩ := sign_row ⟨h, n, List.replicate 32 0⟩ hd rfl
  have HZS : Hid (Z.size = S0.size) := by show _ = _; rw [H69.out, HS69.out]
  have HBS : Hid (Tryz.prog.built 28 [(0, .agg C), (1, .int .i64 n)] = some S0) := builtS2 h n hd C S0 HC HS0
  obtain ⟨b, hb⟩ : ∃ b, b = signsO h n := ⟨_, rfl⟩
  have K1 : Hid (∀ W, Calls Tryz.prog 50 #[.agg S0] W fun e w' => e = .returned (.bool b) ∧ Below W.heap.size W w') := fun W => by rw [hb, ← signsO_may h n (List.replicate 32 0)]; exact hMay_any ⟨h, n, List.replicate 32 0⟩ hd W S0 HS0
  have HW0 := hidk (came2 w M C 48 26)
  cases b
  · have HRZ : Hid (R = Z) := by
      show _ = _
      rw [HR.out, HZ.out]; unfold signO; rw [← hb]; rfl
    rw [show signE h n = 70 by unfold signE; rw [← hb]; rfl, HRZ.out]
    clear HM HC hm hT HR HS0 hb HRZ HZ H69 HZY HAY HY32
    go_enter Tryz.func41, Tryz.ntmps41
    go_wp2_with (first
      | (show aD 6 _ _ _ _ _ _ _ _ _ _ _; refine wpList_new_var rfl 28 rfl Z HA.out ?_; intro g6 w1 HM6; try simp only [Act.put, pS1, pS2, pS3])
      | (show aD 11 _ _ _ _ _ _ _ _ _ _ _; refine wpList_load_row rfl 26 (.tmp 4) rfl (w.heap.size + 1) rfl 26 C (0, 0) _ ((HM6.out.below.block _ (heap_lt HW0.out.2.2)).trans HW0.out.2.2) Tryz.underlying26 rfl HSC.out ?_; try simp only [Act.put, pS1, pS2, pS3])
      | (show aD 13 _ _ _ _ _ _ _ _ _ _ _; refine wpList_build_two rfl 28 0 1 (.tmp 11) (.tmp 12) rfl S0 (.agg C) (.int .i64 n) rfl rfl HBS.out ?_; try simp only [Act.put, pS1, pS2, pS3])
      | (show aD 8 _ _ _ _ _ _ _ _ _ _ _; refine wpList_new_var rfl 28 rfl Z HA.out ?_; intro g8 w2 HM8; try simp only [Act.put, pS1, pS2, pS3])
      | (refine wpList_set_var rfl 28 (.tmp 8) (.tmp 13) rfl g8 S0 rfl rfl 28 Z HM8.out.row HSS.out HZS.out H1S.out ?_; intro w3 HW8; try simp only [Act.put, pS1, pS2, pS3])
      | (show aD 14 _ _ _ _ _ _ _ _ _ _ _; refine wpList_load_row rfl 28 (.tmp 8) rfl g8 rfl 28 S0 (0, 0) _ HW8.out.row Tryz.underlying28 rfl HSS.out ?_; try simp only [Act.put, pS1, pS2, pS3])
      | fail)
    have HB1 := hidk (HW0.out.1.trans (HM6.out.below.mono HW0.out.1.size))
    have h6 : w.heap.size ≤ g6 := by rw [HM6.out.new]; exact HW0.out.1.size
    have h8 : g6 < g8 := by rw [HM8.out.new]; exact heap_lt HM6.out.row
    have HB3 := hidk (HW8.out.below _ _ (HB1.out.trans (HM8.out.below.mono HB1.out.size)) (by omega))
    have HR6 := hidk ((HW8.out.other g6 (by omega)).trans ((HM8.out.below.block _ (heap_lt HM6.out.row)).trans HM6.out.row))
    clear HM6 HM8 HW8 HB1 HW0
    refine (K1.out _).mono ?_
    rintro e w4 ⟨rfl, hb4⟩
    have HB4 := hidk (HB3.out.trans (hb4.mono HB3.out.size))
    have HR64 := hidk ((hb4.block _ (heap_lt HR6.out)).trans HR6.out)
    clear hb4 HB3 HR6 K1
    go_wp2_with (first
      | (show aD 17 _ _ _ _ _ _ _ _ _ _ _; refine wpList_build_none rfl 28 rfl Z HBZ.out ?_; try simp only [Act.put, pS1, pS2, pS3])
      | (refine wpList_set_var rfl 28 (.tmp 6) (.tmp 17) rfl g6 Z rfl rfl 28 Z HR64.out HSZ.out rfl H1Z.out ?_; intro w5 HW6; try simp only [Act.put, pS1, pS2, pS3])
      | fail)
    refine bodyPost_ret (v := .tuple #[.agg Z, .int .i64 70]) ?_ rfl ⟨rfl, HW6.out.below w.heap.size w HB4.out h6⟩
    exact results_row_tmp (p := 6) (q := 7) (ty := 28) rfl _ _ g6 28 Z (0, 0) _ rfl HW6.out.row Tryz.underlying28 rfl HSZ.out
  · have ho := signsO_owner h n hb.symm
    have hrt : rightH h = true := by
      have := hb.symm
      unfold signsO at this
      simp only [Bool.and_eq_true] at this
      exact this.1
    have hR2 : R = (scells ⟨h, n, tagD master h n⟩).toArray := by rw [HR.out]; unfold signO; rw [← hb]; rfl
    rw [show signE h n = 0 by unfold signE; rw [← hb]; rfl]
    obtain ⟨r, Hr⟩ : ∃ r, Hid (r = h.r) := ⟨h.r, hidk rfl⟩
    obtain ⟨Ky, HK, HSK, H1K, H32K⟩ := key_row (keyD master r n) (keyD_length sumD_length _ _ _)
    obtain ⟨u, HU⟩ : ∃ u, Hid (u = signT h) := ⟨_, hidk rfl⟩
    obtain ⟨D, HD, HSD, H1D, H32D⟩ := dig_row' (tagD master h n) (tagD_length sumD_length _ _ _)
    have HZK : Hid (ZY.size = Ky.size) := by show _ = _; rw [HY32.out, H32K.out]
    have C1 : Hid (∀ W, Below w.heap.size w W → Calls Tryz.prog 65 #[.agg M, .int .i64 r, .int .i64 n] W fun e w' => e = .returned (.tuple #[.agg Ky, .int .i64 0]) ∧ Below W.heap.size W w') := fun W hbw => by
      have := key_any master r n W M Ky HM hm (hT.keep hbw) (by show _ = _; rw [HK.out, keyO_in _ _ _ (by rw [Hr.out]; exact ho)])
      rwa [show keyE r n = 0 by unfold keyE; rw [if_pos (by rw [Hr.out]; exact ho)]] at this
    have T1 : Hid (∀ W, Calls Tryz.prog 67 #[.agg C] W fun e w' => e = .returned (.string u) ∧ Below W.heap.size W w') := fun W => by rw [HU.out]; exact hText_any h hd W C HC
    have C2 : Hid (∀ W, Below w.heap.size w W → Calls Tryz.prog 66 #[.agg Ky, .string u] W fun e w' => e = .returned (.agg D) ∧ Below W.heap.size W w') := fun W hbw =>
      mac_any (keyD master r n) u W Ky D HK (keyD_length sumD_length _ _ _) (by rw [HU.out]; exact signT_size h hd) (hT.keep hbw) (by show _ = _; rw [HD.out, HU.out, signT_right h hrt, Hr.out]; rfl)
    have HSR : Hid ((Tryz.prog.info? 28).map (·.size) = some R.size) := by show _ = _; rw [sizeS, hR2, List.size_toArray]; exact congrArg some (scells_length _ hd (tagD_length sumD_length _ _ _)).symm
    have H1R : Hid (R.all (·.oneCell') = true) := by show _ = _; rw [hR2]; exact one_cellsS _
    have HZR : Hid (Z.size = R.size) := by show _ = _; rw [H69.out, hR2, List.size_toArray]; exact (scells_length _ hd (tagD_length sumD_length _ _ _)).symm
    have HRR : Hid ((S0.toList.take 37 ++ D.toList ++ S0.toList.drop (37 + D.size)).toArray = R) := by
      show _ = _
      rw [H32D.out, HS0.out, HD.out, hR2]
      exact scells_sign h n (List.replicate 32 0) (tagD master h n) hd rfl
    have HOO : Hid (37 + D.size ≤ S0.size) := by show _ ≤ _; rw [H32D.out, HS69.out]; omega
    have HCr : Hid (∀ (W : World) (g : Nat), W.heap[g]? = some (.cells C 26 (0, 0)) → W.cell? ⟨g, 0, none⟩ = some (.int .i64 r)) := fun W g hh => by
      rw [cell_of_row W g 0 _ _ (0, 0) hh, HC.out, Hr.out]; rfl
    clear HM HC hm hT HR HS0 hb HZ H69 HZY HY32 HK HU HD hR2 ho hrt H32D HS69 H32K Hr
    go_enter Tryz.func41, Tryz.ntmps41
    go_wp2_with (first
      | (show aD 6 _ _ _ _ _ _ _ _ _ _ _; refine wpList_new_var rfl 28 rfl Z HA.out ?_; intro g6 w1 HM6; try simp only [Act.put, pS1, pS2, pS3])
      | (show aD 11 _ _ _ _ _ _ _ _ _ _ _; refine wpList_load_row rfl 26 (.tmp 4) rfl (w.heap.size + 1) rfl 26 C (0, 0) _ ((HM6.out.below.block _ (heap_lt HW0.out.2.2)).trans HW0.out.2.2) Tryz.underlying26 rfl HSC.out ?_; try simp only [Act.put, pS1, pS2, pS3])
      | (show aD 13 _ _ _ _ _ _ _ _ _ _ _; refine wpList_build_two rfl 28 0 1 (.tmp 11) (.tmp 12) rfl S0 (.agg C) (.int .i64 n) rfl rfl HBS.out ?_; try simp only [Act.put, pS1, pS2, pS3])
      | (show aD 8 _ _ _ _ _ _ _ _ _ _ _; refine wpList_new_var rfl 28 rfl Z HA.out ?_; intro g8 w2 HM8; try simp only [Act.put, pS1, pS2, pS3])
      | (refine wpList_set_var rfl 28 (.tmp 8) (.tmp 13) rfl g8 S0 rfl rfl 28 Z HM8.out.row HSS.out HZS.out H1S.out ?_; intro w3 HW8; try simp only [Act.put, pS1, pS2, pS3])
      | (show aD 14 _ _ _ _ _ _ _ _ _ _ _; refine wpList_load_row rfl 28 (.tmp 8) rfl g8 rfl 28 S0 (0, 0) _ HW8.out.row Tryz.underlying28 rfl HSS.out ?_; try simp only [Act.put, pS1, pS2, pS3])
      | fail)
    have HB1 := hidk (HW0.out.1.trans (HM6.out.below.mono HW0.out.1.size))
    have h6 : w.heap.size + 1 < g6 := by rw [HM6.out.new]; exact heap_lt HW0.out.2.2
    have h8 : g6 < g8 := by rw [HM8.out.new]; exact heap_lt HM6.out.row
    have HBa := hidk (HM6.out.below.trans (HM8.out.below.mono HM6.out.below.size))
    have HB3 := hidk (HW8.out.below _ _ (HB1.out.trans (HM8.out.below.mono HB1.out.size)) (by omega))
    have HR6 := hidk ((HW8.out.other g6 (by omega)).trans ((HM8.out.below.block _ (heap_lt HM6.out.row)).trans HM6.out.row))
    have HR8 := hidk HW8.out.row
    have HRM := hidk ((HW8.out.other w.heap.size (by omega)).trans ((HBa.out.block _ (heap_lt HW0.out.2.1)).trans HW0.out.2.1))
    have HRC := hidk ((HW8.out.other (w.heap.size + 1) (by omega)).trans ((HBa.out.block _ (heap_lt HW0.out.2.2)).trans HW0.out.2.2))
    clear HM6 HM8 HW8 HB1 HW0 HBa
    refine (K1.out _).mono ?_
    rintro e w4 ⟨rfl, hb4⟩
    replace HB3 := hidk (HB3.out.trans (hb4.mono HB3.out.size))
    replace HR6 := hidk ((hb4.block _ (heap_lt HR6.out)).trans HR6.out)
    replace HR8 := hidk ((hb4.block _ (heap_lt HR8.out)).trans HR8.out)
    replace HRM := hidk ((hb4.block _ (heap_lt HRM.out)).trans HRM.out)
    replace HRC := hidk ((hb4.block _ (heap_lt HRC.out)).trans HRC.out)
    have hcr := HCr.out w4 _ HRC.out
    clear hb4 K1
    go_wp2_with (first
      | (show aD 19 _ _ _ _ _ _ _ _ _ _ _; refine wpList_load_row rfl 48 (.tmp 3) rfl w.heap.size rfl 48 M (0, 0) _ HRM.out Tryz.underlying48 rfl HSM.out ?_; try simp only [Act.put, pS1, pS2, pS3])
      | fail)
    refine (C1.out _ HB3.out).mono ?_
    rintro e w5 ⟨rfl, hb5⟩
    replace HB3 := hidk (HB3.out.trans (hb5.mono HB3.out.size))
    replace HR6 := hidk ((hb5.block _ (heap_lt HR6.out)).trans HR6.out)
    replace HR8 := hidk ((hb5.block _ (heap_lt HR8.out)).trans HR8.out)
    replace HRC := hidk ((hb5.block _ (heap_lt HRC.out)).trans HRC.out)
    clear hb5 C1 hcr HRM HCr
    go_wp2_with (first
      | (show aD 9 _ _ _ _ _ _ _ _ _ _ _; refine wpList_new_var rfl 48 rfl ZY HAY.out ?_; intro g9 w6 HM9; try simp only [Act.put, pS1, pS2, pS3])
      | (refine wpList_set_var rfl 48 (.tmp 9) (.tmp 24) rfl g9 Ky rfl rfl 48 ZY HM9.out.row HSK.out HZK.out H1K.out ?_; intro w7 HW9; try simp only [Act.put, pS1, pS2, pS3])
      | fail)
    have h9 : g8 < g9 := by rw [HM9.out.new]; exact heap_lt HR8.out
    have HBc : Hid (Below w.heap.size w w7.drew) := (HW9.out.below _ _ (HB3.out.trans (HM9.out.below.mono HB3.out.size)) (by omega)).drew
    replace HR6 := hidk ((HW9.out.other g6 (by omega)).trans ((HM9.out.below.block _ (heap_lt HR6.out)).trans HR6.out))
    replace HR8 := hidk ((HW9.out.other g8 (by omega)).trans ((HM9.out.below.block _ (heap_lt HR8.out)).trans HR8.out))
    replace HRC := hidk ((HW9.out.other (w.heap.size + 1) (by omega)).trans ((HM9.out.below.block _ (heap_lt HRC.out)).trans HRC.out))
    have HR9 := hidk HW9.out.row
    clear HM9 HW9 HB3
    refine wp_region_held_drew (S := (fun W => W.heap[g9]? = some (.cells Ky 48 (0, 0)) ∧ W.heap[w.heap.size + 1]? = some (.cells C 26 (0, 0)))) (by kernel_rfl) ⟨HR9.out, HRC.out⟩ (fun hHeld => ?_)
    refine zW 0 (.agg Ky) rfl (yieldsIf_row (by rfl) 48 (.tmp 9) rfl g9 rfl 48 Ky (0, 0) _ (fun _ h => h.1) Tryz.underlying48 rfl HSK.out) hHeld ?_
    try simp only [Act.put, pS1, pS2, pS3]
    refine zW 1 (.agg C) rfl (yieldsIf_row (by rfl) 26 (.tmp 4) rfl (w.heap.size + 1) rfl 26 C (0, 0) _ (fun _ h => h.2) Tryz.underlying26 rfl HSC.out) hHeld ?_
    try simp only [Act.put, pS1, pS2, pS3]
    refine wpAnyH_ready (rs := [2]) (by kernel_rfl) (by simp) ?_
    refine (AllReadyH.cons (o := { dst := some 28, op := .call { callee := .value (.func 67), args := #[.tmp 27], argTypes := #[26] }, type := 9, pos := "head.go:79", after := #[zD 1], guard := none }) rfl (fun K hK => ?_) AllReadyH.nil)
    go_simp
    refine (T1.out _).mono ?_
    rintro e v2 ⟨rfl, hb2⟩
    replace HBc := hidk (HBc.out.trans (hb2.mono HBc.out.size))
    replace HR6 := hidk ((hb2.block _ (heap_lt HR6.out)).trans HR6.out)
    replace HR8 := hidk ((hb2.block _ (heap_lt HR8.out)).trans HR8.out)
    go_wp2_with fail
    refine hK.out _ _ ⟨(hb2.block _ (heap_lt hHeld.1)).trans hHeld.1, (hb2.block _ (heap_lt hHeld.2)).trans hHeld.2⟩ (fun hHeld => ?_)
    clear hK K
    try simp only [Act.put, pS1, pS2, pS3]
    refine wpAnyH_ready (rs := [3]) (by kernel_rfl) (by simp) ?_
    refine (AllReadyH.cons (o := { dst := some 29, op := .call { callee := .value (.func 66), args := #[.tmp 26, .tmp 28], argTypes := #[48, 9] }, type := 24, pos := "head.go:79", after := #[zD 0, zD 2, zC 2], guard := none }) rfl (fun K hK => ?_) AllReadyH.nil)
    go_simp
    refine (C2.out _ HBc.out).mono ?_
    rintro e v3 ⟨rfl, hb3⟩
    replace HBc := hidk (HBc.out.trans (hb3.mono HBc.out.size))
    replace HR6 := hidk ((hb3.block _ (heap_lt HR6.out)).trans HR6.out)
    replace HR8 := hidk ((hb3.block _ (heap_lt HR8.out)).trans HR8.out)
    go_wp2_with fail
    refine hK.out _ _ ⟨(hb3.block _ (heap_lt hHeld.1)).trans hHeld.1, (hb3.block _ (heap_lt hHeld.2)).trans hHeld.2⟩ (fun hHeld => ?_)
    clear hK K
    try simp only [Act.put, pS1, pS2, pS3]
    refine zX 4 (.pointer (some ⟨g8, 37, none⟩)) rfl hHeld ?_
    try simp only [Act.put, pS1, pS2, pS3]
    refine wpAnyH_ready (rs := [5]) (by kernel_rfl) (by simp) ?_
    refine (AllReadyH.cons (o := { dst := none, op := .store 24 (.tmp 30) (.tmp 29), type := 0, pos := "head.go:79", after := #[zD 4, zD 3, zC 3, zP 0, zP 1, zP 2, zP 3], guard := none }) rfl (fun K hK => ?_) AllReadyH.nil)
    refine step_set_mid (by rfl) 24 (.tmp 30) (.tmp 29) rfl g8 37 D rfl rfl 28 S0 HR8.out HOO.out HSD.out H1D.out ?_
    intro v5 HW8
    refine hK.out _ _ ⟨(HW8.out.other g9 (by omega)).trans hHeld.1, (HW8.out.other (w.heap.size + 1) (by omega)).trans hHeld.2⟩ (fun hHeld => ?_)
    clear hK K
    try simp only [Act.put, pS1, pS2, pS3]
    refine wpAnyH_done (by kernel_rfl) ?_ _
    have HB8 := hidk (HW8.out.below w.heap.size w HBc.out (by omega))
    have HR68 := hidk ((HW8.out.other g6 (by omega)).trans HR6.out)
    have HR88 := hidk HW8.out.row
    rw [HRR.out] at HR88
    clear HW8 HBc HR6 HR8
    go_wp2_with (first
      | (show aD 31 _ _ _ _ _ _ _ _ _ _ _; refine wpList_load_row rfl 28 (.tmp 8) rfl g8 rfl 28 R (0, 0) _ HR88.out Tryz.underlying28 rfl HSR.out ?_; try simp only [Act.put, pS1, pS2, pS3])
      | (refine wpList_set_var rfl 28 (.tmp 6) (.tmp 31) rfl g6 R rfl rfl 28 Z HR68.out HSR.out HZR.out H1R.out ?_; intro w9 HW6; try simp only [Act.put, pS1, pS2, pS3])
      | fail)
    refine bodyPost_ret (v := .tuple #[.agg R, .int .i64 0]) ?_ rfl ⟨rfl, HW6.out.below w.heap.size w HB8.out (by omega)⟩
    exact results_row_tmp (p := 6) (q := 7) (ty := 28) rfl _ _ g6 28 R (0, 0) _ rfl HW6.out.row Tryz.underlying28 rfl HSR.out
def hV (tag : Int) (fs : List (Int × ByteArray)) : HdT := getHO (tkD tag fs).data.toList
def hB (tag : Int) (fs : List (Int × ByteArray)) : Bool := tkB tag fs && (getO (tkD tag fs).data.toList).isSome
theorem irow_row {W : World} {g : Nat} {x : ItT} {X : Array Value} (HX : Hid (X = (icells x).toArray)) {t : TypeId} (h : W.heap[g]? = some (.cells X t (0, 0))) : W.cell? ⟨g, 0, none⟩ = some (.int .i64 x.p) ∧ W.rangeAt g 1 (ecells x.e) := by
  constructor
  · rw [cell_of_row W g 0 X t (0, 0) h, HX.out]; rfl
  · intro j v hj
    rw [cell_of_row W g (1 + j) X t (0, 0) h, HX.out]
    have : (icells x)[1 + j]? = some v := by
      unfold icells
      rw [List.getElem?_append_right (by simp)]
      simpa using hj
    simpa using this
set_option maxHeartbeats 8000000 in
theorem ePutI_any (x : ItT) (hin : InI x) (w : World) (X : Array Value) (HX : Hid (X = (icells x).toArray)) :
    Calls Tryz.prog 69 #[.agg X] w fun e w' => BytesE (iB x) (iE x) e w' ∧ Below w.heap.size w w' := by
  have hnot : ∀ (x : Bool) (w : World), (Op.unary .not (.bool x)).run Tryz.prog w = .ok (.bool (!x)) w := fun _ _ => rfl
  have ok := hin.e.ok
  have HX0 : Hid ((w.alloc (.cells X 37)).heap[w.heap.size]? = some (.cells X 37 (0, 0))) := heap_alloc_new w _
  have HB : Hid (Below w.heap.size w (w.alloc (.cells X 37))) := (Below.refl _ _).alloc (Nat.le_refl _) _
  obtain ⟨Q, HQ, HSQ, H1Q, HNQ⟩ := entry_row x.e ok
  obtain ⟨k, Hk⟩ : ∃ k, Hid (k = x.p) := ⟨_, hidk rfl⟩
  have KP : Hid (∀ W : World, W.heap[w.heap.size]? = some (.cells X 37 (0, 0)) → W.cell? ⟨w.heap.size, 0, none⟩ = some (.int .i64 k)) := fun W h => by rw [Hk.out]; exact (irow_row HX h).1
  have KQ : Hid (∀ W : World, W.heap[w.heap.size]? = some (.cells X 37 (0, 0)) → W.rangeAt w.heap.size 1 Q.toList) := fun W h => by rw [HQ.out]; exact (irow_row HX h).2
  obtain ⟨l, Hl⟩ : ∃ l, Hid (l = eB x.e) := ⟨_, hidk rfl⟩
  obtain ⟨E, HE⟩ : ∃ l, Hid (l = eE x.e) := ⟨_, hidk rfl⟩
  have P1 : Hid (∀ W, Calls Tryz.prog 96 #[.agg Q] W fun e w' => (∃ a c, e = .returned (.tuple #[.slice a l.length c, .int .i64 E]) ∧ Reads w' a l.length c l) ∧ Below W.heap.size W w') := fun W => by rw [Hl.out, HE.out]; exact ePutE_any x.e hin.e W Q HQ
  obtain ⟨u, hu⟩ : ∃ u, (decide (1 ≤ k) && decide (k ≤ 900000000)) = u := ⟨_, rfl⟩
  have W1 : Hid (∀ W, Calls Tryz.prog 97 #[.int .i64 k, .int .i64 1, .int .i64 900000000] W fun e w' => e = .returned (.bool u) ∧ w' = W) := fun W => by rw [← hu]; exact eWithin_any k 1 900000000 W
  obtain ⟨n1, Hn1⟩ : ∃ n, Hid (n = nOf k) := ⟨_, hidk rfl⟩
  obtain ⟨y, Hy⟩ : ∃ y : ByteArray, Hid (y = bA l) := ⟨_, hidk rfl⟩
  have N1 : Hid (∀ W, Calls Tryz.prog 98 #[.int .i64 1, .int .i64 k] W fun e w' => e = .returned (.agg #[.int .i64 1, .string n1]) ∧ Below W.heap.size W w') := fun W => by rw [Hn1.out]; exact eNum_any 1 k W
  have hri : rightI x = (u && rightE x.e) := by unfold rightI; rw [← hu, Hk.out]
  obtain ⟨L, HL⟩ : ∃ l, Hid (l = iB x) := ⟨_, hidk rfl⟩
  obtain ⟨K, HK⟩ : ∃ l, Hid (l = iE x) := ⟨_, hidk rfl⟩
  have HNO : Hid (u = false ∨ E = 60 → L = [] ∧ K = 60) := fun h => by
    have hr : rightI x = false := by
      rw [hri]
      rcases h with h | h
      · rw [h]; rfl
      · rcases eE_two x.e with h2 | h2
        · rw [HE.out, h2.1] at h; cases h
        · rw [h2.2]; simp
    rw [HL.out, HK.out]
    unfold iB iE
    rw [hr]
    exact ⟨rfl, rfl⟩
  have HYES : Hid (u = true → E = 0 → L = itemB x ∧ K = 0 ∧ rightI x = true ∧ l = entryB x.e) := fun h0 h => by
    have hre : rightE x.e = true := by
      rcases eE_two x.e with h2 | h2
      · exact h2.2
      · rw [HE.out, h2.1] at h; cases h
    have hr : rightI x = true := by rw [hri, h0, hre]; rfl
    rw [HL.out, HK.out, Hl.out]
    unfold iB iE eB
    rw [if_pos hr, if_pos hr, if_pos hre]
    exact ⟨rfl, rfl, hr, rfl⟩
  have LY : Hid (u = true → E = 0 → ∀ W, Calls Tryz.prog 51 #[.slice (some ⟨W.heap.size, 0, none⟩) 2 2] (W.alloc (.cells #[.int .i64 1, .string n1, .int .i64 2, .string y] 92)) fun e w' => ∃ a c, e = .returned (.tuple #[.slice a L.length c, .int .i64 0]) ∧ Reads w' a L.length c L ∧ Below W.heap.size W w') := fun h0 h W => by
    obtain ⟨e1, _, hr, e4⟩ := HYES.out h0 h
    have hk := layE_iL hr ok
    have hL2 : fieldsN (iL x) = [(1, n1), (2, y)] := by rw [Hn1.out, Hy.out, e4, Hk.out]; rfl
    rw [hL2] at hk
    refine eLay_lit W _ [((1 : Int), n1), (2, y)] 2 L rfl rfl (by omega) (fun z hz => ?_) hk (by rw [e1, ← hL2]; rfl)
    simp only [List.mem_cons, List.not_mem_nil, or_false] at hz
    unfold maxLen
    rcases hz with rfl | rfl
    · have := nOf_size k; rw [← Hn1.out] at this; show n1.size ≤ _; omega
    · have h5 := bA_size l; rw [← Hy.out] at h5; have := eB_length x.e ok; rw [← Hl.out] at this; show y.size ≤ _; omega
  have hE2 : E = 0 ∨ E = 60 := by
    rw [HE.out]
    rcases eE_two x.e with h | h
    · exact .inl h.1
    · exact .inr h.1
  rw [← HL.out, ← HK.out]
  clear HX HQ Hk Hl HE hu Hn1 hri HL HK ok hin H1Q HNQ
  rcases hE2 with rfl | rfl
  · cases u
    · obtain ⟨rfl, rfl⟩ := HNO.out (.inl rfl)
      clear HNO HYES LY N1
      go_enter Tryz.func69, Tryz.ntmps69
      go_wp2_with (first
        | (show aD 8 _ _ _ _ _ _ _ _ _ _ _; refine wpList_mid rfl 35 (.tmp 7) rfl w.heap.size 1 rfl Q _ (KQ.out _ HX0.out) Tryz.underlying35 rfl HSQ.out ?_; try simp only [Act.put, pS1, pS2, pS3])
        | fail)
      refine (P1.out _).mono ?_
      rintro e w1 ⟨⟨a1, c1, rfl, hr1⟩, hb1⟩
      have HB1 := hidk (HB.out.trans (hb1.mono HB.out.size))
      have c0 := KP.out w1 ((hb1.block _ (heap_lt HX0.out)).trans HX0.out)
      clear hb1 hr1
      go_wp2_with fail
      refine (W1.out _).mono ?_
      rintro e w2 ⟨rfl, rfl⟩
      go_wp2
      go_ret2
      exact ⟨eBytes_no _ _, HB1.out⟩
    · obtain rfl : K = 0 := (HYES.out rfl rfl).2.1
      have LY2 := hidk (LY.out rfl rfl)
      clear HNO HYES LY
      go_enter Tryz.func69, Tryz.ntmps69
      go_wp2_with (first
        | (show aD 8 _ _ _ _ _ _ _ _ _ _ _; refine wpList_mid rfl 35 (.tmp 7) rfl w.heap.size 1 rfl Q _ (KQ.out _ HX0.out) Tryz.underlying35 rfl HSQ.out ?_; try simp only [Act.put, pS1, pS2, pS3])
        | fail)
      refine (P1.out _).mono ?_
      rintro e w1 ⟨⟨a1, c1, rfl, hr1⟩, hb1⟩
      have HB1 := hidk (HB.out.trans (hb1.mono HB.out.size))
      have HX1 := hidk ((hb1.block _ (heap_lt HX0.out)).trans HX0.out)
      have c0 := KP.out w1 HX1.out
      have CV : Hid (∀ W, Below w1.heap.size w1 W → Sem.run Tryz.prog (convert 69 9 (.slice a1 l.length c1)) W = .ok (.string y) W) := fun W h => by rw [Hy.out]; exact conv_reads (hr1.below h)
      clear hb1 hr1
      go_wp2_with fail
      refine (W1.out _).mono ?_
      rintro e w2 ⟨rfl, rfl⟩
      go_wp2
      refine wp_region_held_drew (S := (fun W => W.heap[w.heap.size]? = some (.cells X 37 (0, 0)) ∧ Below w2.heap.size w2 W)) (by kernel_rfl) ⟨HX1.out, (Below.refl _ _).drew⟩ (fun hHeld => ?_)
      refine zX 0 (.pointer (some ⟨w.heap.size, 0, none⟩)) rfl hHeld ?_
      try simp only [Act.put, pS1, pS2, pS3]
      refine zW 1 (.int .i64 k) rfl (Or.inl ⟨by rfl, by intro W hSw; have h1 := KP.out W hSw.1; go_simp⟩) hHeld ?_
      try simp only [Act.put, pS1, pS2, pS3]
      refine zX 3 (.slice a1 l.length c1) rfl hHeld ?_
      try simp only [Act.put, pS1, pS2, pS3]
      refine zW 4 (.string y) rfl (Or.inl ⟨by rfl, by intro W hSw; have h1 := CV.out W hSw.2; go_simp⟩) hHeld ?_
      try simp only [Act.put, pS1, pS2, pS3]
      refine zX 5 (.agg #[.int .i64 2, .string y]) rfl hHeld ?_
      try simp only [Act.put, pS1, pS2, pS3]
      refine wpAnyH_ready (rs := [2]) (by kernel_rfl) (by simp) ?_
      refine (AllReadyH.cons (o := { dst := some 22, op := .call { callee := .value (.func 98), args := #[.const (.int .i64 1), .tmp 21], argTypes := #[3, 3] }, type := 92, pos := "entry.go:97", after := #[zD 1], guard := none }) rfl (fun K hK => ?_) AllReadyH.nil)
      go_simp
      refine (N1.out _).mono ?_
      rintro e w3 ⟨rfl, hb3⟩
      have HBc := hidk (HB1.out.drew.trans (hb3.mono HB1.out.size))
      go_wp2_with fail
      refine hK.out _ _ ⟨(hb3.block _ (heap_lt HX1.out)).trans HX1.out, hHeld.2.trans (hb3.mono hHeld.2.size)⟩ (fun hHeld => ?_)
      clear hK K
      try simp only [Act.put, pS1, pS2, pS3]
      refine wpAnyH_ready (rs := [6]) (by kernel_rfl) (by simp) ?_
      refine (AllReadyH.cons (o := { dst := some 26, op := .buildSlice 95 2 #[(0, .tmp 22), (1, .tmp 25)], type := 95, pos := "entry.go:96", after := #[zD 2, zD 5], guard := none }) rfl (fun K hK => ?_) AllReadyH.nil)
      have HHc := hidk hHeld
      go_simp
      refine hK.out _ _ ⟨heap_keep hHeld.1, hHeld.2.alloc hHeld.2.size _⟩ (fun hHeld => ?_)
      clear hK K
      try simp only [Act.put, pS1, pS2, pS3]
      refine wpAnyH_ready (rs := [7]) (by kernel_rfl) (by simp) ?_
      refine (AllReadyH.cons (o := { dst := some 27, op := .call { callee := .value (.func 51), args := #[.tmp 26], argTypes := #[95] }, type := 70, pos := "entry.go:96", after := #[zD 6, zC 2], guard := none }) rfl (fun K hK => ?_) AllReadyH.nil)
      go_simp
      refine (LY2.out _).mono ?_
      rintro e w7 ⟨a7, c7, rfl, hrd, hb7⟩
      have HRD := hidk hrd
      have HBF := hidk (HBc.out.trans (hb7.mono HBc.out.size))
      go_wp2_with fail
      refine hK.out _ _ ⟨(hb7.block _ (heap_lt HHc.out.1)).trans HHc.out.1, HHc.out.2.trans (hb7.mono HHc.out.2.size)⟩ (fun hHeld => ?_)
      clear hK K
      try simp only [Act.put, pS1, pS2, pS3]
      refine zX 8 (.slice a7 L.length c7) rfl hHeld ?_
      try simp only [Act.put, pS1, pS2, pS3]
      refine zX 9 (.int .i64 0) rfl hHeld ?_
      try simp only [Act.put, pS1, pS2, pS3]
      refine zX 10 (.slice a7 L.length c7) rfl hHeld ?_
      try simp only [Act.put, pS1, pS2, pS3]
      refine zX 11 (.int .i64 0) rfl hHeld ?_
      try simp only [Act.put, pS1, pS2, pS3]
      refine wpAnyH_done (by kernel_rfl) ?_ _
      go_wp2
      go_ret2
      exact ⟨⟨_, _, rfl, HRD.out⟩, HBF.out⟩
  · obtain ⟨rfl, rfl⟩ := HNO.out (.inr rfl)
    clear HNO HYES LY N1
    go_enter Tryz.func69, Tryz.ntmps69
    go_wp2_with (first
      | (show aD 8 _ _ _ _ _ _ _ _ _ _ _; refine wpList_mid rfl 35 (.tmp 7) rfl w.heap.size 1 rfl Q _ (KQ.out _ HX0.out) Tryz.underlying35 rfl HSQ.out ?_; try simp only [Act.put, pS1, pS2, pS3])
      | fail)
    refine (P1.out _).mono ?_
    rintro e w1 ⟨⟨a1, c1, rfl, hr1⟩, hb1⟩
    have HB1 := hidk (HB.out.trans (hb1.mono HB.out.size))
    clear hb1 hr1
    go_wp2
    go_ret2
    exact ⟨eBytes_no _ _, HB1.out⟩
set_option maxHeartbeats 4000000 in
theorem eLeaf_any (x : ItT) (hin : InI x) (w : World) (X D : Array Value) (HX : Hid (X = (icells x).toArray)) (hT : TabH w) (HD : Hid (D = (cellsOf (leafO x)).toArray)) :
    Calls Tryz.prog 43 #[.agg X] w fun e w' => e = .returned (.tuple #[.agg D, .int .i64 (iE x)]) ∧ Below w.heap.size w w' := by
  have ok := hin.e.ok
  obtain ⟨Z, HZ, HA, HS, H1, H32⟩ := noughts27
  have HSX : Hid ((Tryz.prog.info? 37).map (·.size) = some X.size) := by show _ = _; rw [sizeI, HX.out]; simp [icells_length _ ok]
  have hd : (leafO x).length = 32 := by
    unfold leafO
    split
    · exact sumD_length _
    · rfl
  have HSD : Hid ((Tryz.prog.info? 24).map (·.size) = some D.size) := by show _ = _; rw [size23, HD.out]; simp [cellsOf_length, hd]
  have H1D : Hid (D.all (·.oneCell') = true) := by show _ = _; rw [HD.out]; exact cellsOf_all _
  have HZD : Hid (Z.size = D.size) := by show _ = _; rw [H32.out, HD.out]; simp [cellsOf_length, hd]
  have HX0 : Hid ((w.alloc (.cells X 37)).heap[w.heap.size]? = some (.cells X 37 (0, 0))) := heap_alloc_new w _
  have HB : Hid (Below w.heap.size w (w.alloc (.cells X 37))) := (Below.refl _ _).alloc (Nat.le_refl _) _
  have HBN : Hid (Tryz.prog.built 24 [] = some Z) := by show _ = _; rw [HZ.out]; kernel_rfl
  obtain ⟨l, Hl⟩ : ∃ l, Hid (l = iB x) := ⟨_, hidk rfl⟩
  obtain ⟨E, HE⟩ : ∃ l, Hid (l = iE x) := ⟨_, hidk rfl⟩
  have P1 : Hid (∀ W, Calls Tryz.prog 69 #[.agg X] W fun e w' => (∃ a c, e = .returned (.tuple #[.slice a l.length c, .int .i64 E]) ∧ Reads w' a l.length c l) ∧ Below W.heap.size W w') := fun W => by rw [Hl.out, HE.out]; exact ePutI_any x hin W X HX
  obtain ⟨y, Hy⟩ : ∃ y : ByteArray, Hid (y = bA l) := ⟨_, hidk rfl⟩
  have hE2 : E = 0 ∧ rightI x = true ∨ E = 60 ∧ rightI x = false := by rw [HE.out]; exact iE_two x
  rw [← HE.out]
  have LF : Hid (rightI x = true → ∀ W, Below w.heap.size w W → Calls Tryz.prog 70 #[.string y] W fun e w' => e = .returned (.agg D) ∧ Below W.heap.size W w') := fun h W hb => by
    have hl : l = itemB x := by rw [Hl.out]; unfold iB; rw [if_pos h]
    have hz := itemB_length h ok
    exact leaf_any y W (by rw [Hy.out, bA_size, hl]; omega) (hT.keep hb) D (by
      show _ = _
      rw [HD.out]
      unfold leafO leafI
      rw [if_pos h, Hy.out, bA_list, hl])
  have HNO : Hid (rightI x = false → D = Z) := fun h => by
    rw [HD.out, HZ.out]
    unfold leafO
    rw [if_neg (by rw [h]; simp)]
  clear HX HD HE hT ok hin hd HZ
  rcases hE2 with ⟨rfl, hr⟩ | ⟨rfl, hr⟩
  · have LF2 := hidk (LF.out hr)
    clear LF HNO hr
    go_enter Tryz.func43, Tryz.ntmps43
    go_wp2_with (first
      | (show aD 2 _ _ _ _ _ _ _ _ _ _ _; refine wpList_new_var rfl 24 rfl Z HA.out ?_; intro g2 w1 HM2; try simp only [Act.put, pS1, pS2, pS3])
      | (show aD 7 _ _ _ _ _ _ _ _ _ _ _; refine wpList_load_row rfl 37 (.tmp 1) rfl w.heap.size rfl 37 X (0, 0) _ ((HM2.out.below.block _ (heap_lt HX0.out)).trans HX0.out) Tryz.underlying37 rfl HSX.out ?_; try simp only [Act.put, pS1, pS2, pS3])
      | fail)
    have h2 : w.heap.size ≤ g2 := by rw [HM2.out.new]; exact HB.out.size
    have HB1 := hidk (HB.out.trans (HM2.out.below.mono HB.out.size))
    have HR2 := hidk HM2.out.row
    clear HM2 HB HX0
    refine (P1.out _).mono ?_
    rintro e w2 ⟨⟨a2, c2, rfl, hr2⟩, hb2⟩
    have HB2 := hidk (HB1.out.trans (hb2.mono HB1.out.size))
    replace HR2 := hidk ((hb2.block _ (heap_lt HR2.out)).trans HR2.out)
    have hcv := conv_reads hr2
    rw [show (⟨l.toArray⟩ : ByteArray) = y from Hy.out.symm] at hcv
    clear hb2 hr2 HB1 P1
    go_wp2_with fail
    refine (LF2.out _ HB2.out).mono ?_
    rintro e w3 ⟨rfl, hb3⟩
    have HB3 := hidk (HB2.out.trans (hb3.mono HB2.out.size))
    replace HR2 := hidk ((hb3.block _ (heap_lt HR2.out)).trans HR2.out)
    clear hb3 HB2 LF2 hcv
    go_wp2_with (first
      | (refine wpList_set_var rfl 24 (.tmp 2) (.tmp 17) rfl g2 D rfl rfl 24 Z HR2.out HSD.out HZD.out H1D.out ?_; intro wl HW2; try simp only [Act.put, pS1, pS2, pS3])
      | fail)
    refine bodyPost_ret (v := .tuple #[.agg D, .int .i64 0]) ?_ rfl ⟨rfl, HW2.out.below _ _ HB3.out h2⟩
    exact results_row_tmp (p := 2) (q := 3) (ty := 24) rfl _ _ g2 24 D (0, 0) _ rfl HW2.out.row Tryz.underlying24 rfl HSD.out
  · obtain rfl := HNO.out hr
    clear LF HNO hr
    go_enter Tryz.func43, Tryz.ntmps43
    go_wp2_with (first
      | (show aD 2 _ _ _ _ _ _ _ _ _ _ _; refine wpList_new_var rfl 24 rfl D HA.out ?_; intro g2 w1 HM2; try simp only [Act.put, pS1, pS2, pS3])
      | (show aD 7 _ _ _ _ _ _ _ _ _ _ _; refine wpList_load_row rfl 37 (.tmp 1) rfl w.heap.size rfl 37 X (0, 0) _ ((HM2.out.below.block _ (heap_lt HX0.out)).trans HX0.out) Tryz.underlying37 rfl HSX.out ?_; try simp only [Act.put, pS1, pS2, pS3])
      | fail)
    have h2 : w.heap.size ≤ g2 := by rw [HM2.out.new]; exact HB.out.size
    have HB1 := hidk (HB.out.trans (HM2.out.below.mono HB.out.size))
    have HR2 := hidk HM2.out.row
    clear HM2 HB HX0
    refine (P1.out _).mono ?_
    rintro e w2 ⟨⟨a2, c2, rfl, hr2⟩, hb2⟩
    have HB2 := hidk (HB1.out.trans (hb2.mono HB1.out.size))
    replace HR2 := hidk ((hb2.block _ (heap_lt HR2.out)).trans HR2.out)
    clear hb2 hr2 HB1 P1
    go_wp2_with (first
      | (show aD 13 _ _ _ _ _ _ _ _ _ _ _; refine wpList_build_none rfl 24 rfl D HBN.out ?_; try simp only [Act.put, pS1, pS2, pS3])
      | (refine wpList_set_var rfl 24 (.tmp 2) (.tmp 13) rfl g2 D rfl rfl 24 D HR2.out HSD.out rfl H1D.out ?_; intro wl HW2; try simp only [Act.put, pS1, pS2, pS3])
      | fail)
    refine bodyPost_ret (v := .tuple #[.agg D, .int .i64 60]) ?_ rfl ⟨rfl, HW2.out.below _ _ HB2.out h2⟩
    exact results_row_tmp (p := 2) (q := 3) (ty := 24) rfl _ _ g2 24 D (0, 0) _ rfl HW2.out.row Tryz.underlying24 rfl HSD.out
end Go.Proofs.YtkmedlfbkddmoaaGreatDoor
/- What the calls of package entry answer, all together. -/
namespace Go.Proofs.YtkmedlfbkddmoaaGreatDoor
open Go.RowKit Sums Nums
set_option maxRecDepth 100000
set_option linter.unusedVariables false
theorem entryC : EntryC where
  checkC := fun c hc w C HC => eCheckC_any c w C HC
  putC := fun c hc w C HC => ePutC_any c hc.d w C HC
  check := fun x hx w X HX => eCheck_any x hx.ok w X HX
  put := fun x hx w X HX => ePutE_any x hx w X HX
  putI := fun x hx w X HX => ePutI_any x hx w X HX
  leaf := fun x hx w X D HX hT HD => eLeaf_any x hx w X D HX hT HD
theorem headC : HeadC where
  check := fun h hh w C HC => hCheck_any h hh.d w C HC
  put := fun h hh w C HC => hPut_any h hh.d w C HC
  sign := fun master h n w M C R HM HC hm hh hn hT HR => hSign_any master h n w M C R HM HC hm hh.d hT HR
  verify := fun master s w M C HM HC hm hs hT => hVerify_any master s w M C HM HC hm hs hT
  putS := fun s hs w C HC => hPutS_any s hs w C HC
end Go.Proofs.YtkmedlfbkddmoaaGreatDoor
