/- Texts of our own that the row of KeepReads leans on, part 31. -/
import Derived.Test.YtjpmmbmhkpgjcaaKeepReadsJ15
import Derived.Test.YtjpmmbmhkpgjcaaKeepReadsJ22
import Derived.Test.YtjpmmbmhkpgjcaaKeepReadsJ25
import Derived.Test.YtjpmmbmhkpgjcaaKeepReadsJ30
import Derived.OpenShut
import Derived.ChangeArms

/- Heads, signed heads and bytes that came in. -/
namespace Go.Proofs.Ytjpmmbmhkpgjcaa
open Go.RowKit Sums Nums
set_option linter.unusedVariables false
set_option maxRecDepth 100000
variable {H : Type} {enc : TypeId × Value → H} {W : World} {base : Nat} {sp : Nat → Bool} {held : Bool} {fuel : Nat} {x : DataW H × List MemPlace}
theorem open_dig_cells {cs : List Value} (hf : DataW.trod enc Try.prog W base sp held fuel 30 cs = some x) : ∃ l : List UInt8, l.length = 32 ∧ cs = cellsOf l := by
  obtain ⟨xs, m, rfl, _, hl, hx, hall⟩ := DataW.trod_array Try.underlying30 hf
  have h1 : Try.prog.cellsOf 5 = 1 := by kernel_rfl
  have h32 : Try.prog.cellsOf 30 = 32 := by kernel_rfl
  rw [h32] at hl
  rw [h1] at hall
  simp only [Nat.mul_one] at hall
  have each : ∀ i, (hi : i < cs.length) → ∃ b : UInt8, cs[i] = .int .u8 b.toNat := by
    intro i hi
    have := hall i (by omega)
    rw [List.getElem?_eq_getElem (by omega)] at this
    obtain ⟨z, hz, _, hwf⟩ := DataW.trod_int Try.underlying5 this
    have e : (cs.drop i).take 1 = [cs[i]] := by
      rw [List.drop_eq_getElem_cons hi]; rfl
    rw [e] at hz
    simp at hz
    have hb := bounds_u8 hwf
    refine ⟨UInt8.ofNat z.toNat, ?_⟩
    rw [UInt8.toNat_ofNat', show ((z.toNat % 2 ^ 8 : Nat) : Int) = z by omega]
    simpa using hz
  refine ⟨cs.map fun v => match v with | .int _ n => UInt8.ofNat n.toNat | _ => 0, by simp; simpa using hl, ?_⟩
  unfold cellsOf
  rw [List.map_map]
  apply List.ext_getElem
  · simp
  · intro i h1 h2
    obtain ⟨b, hb⟩ := each i h1
    rw [List.getElem_map]
    rw [hb]
    simp
theorem open_int_cells {cs : List Value} (hf : DataW.trod enc Try.prog W base sp held fuel 3 cs = some x) : ∃ z : Int, In64 z ∧ cs = [.int .i64 z] := by
  obtain ⟨z, hz, _, hwf⟩ := DataW.trod_int Try.underlying3 hf
  exact ⟨z, bounds_i64 hwf, hz⟩
theorem part_some {xs : List (DataW H × List MemPlace)} {n i : Nat} (hl : xs.length = n) (hi : i < n) : ∃ y, xs[i]? = some y := ⟨xs[i]'(by omega), List.getElem?_eq_getElem (by omega)⟩
theorem open_head_cells {cs : List Value} (hf : DataW.trod enc Try.prog W base sp held fuel 32 cs = some x) : ∃ z : HdT, InH z ∧ cs = hcells z := by
  obtain ⟨xs, m, rfl, _, hl, hx, hall⟩ := DataW.trod_struct Try.underlying32 hf
  have h1 : Try.prog.cellsOf 3 = 1 := by kernel_rfl
  have h32 : Try.prog.cellsOf 30 = 32 := by kernel_rfl
  have h36 : Try.prog.cellsOf 32 = 36 := by kernel_rfl
  rw [h36] at hl
  obtain ⟨y0, e0⟩ := part_some hx (i := 0) (by decide)
  obtain ⟨y1, e1⟩ := part_some hx (i := 1) (by decide)
  obtain ⟨y2, e2⟩ := part_some hx (i := 2) (by decide)
  obtain ⟨y3, e3⟩ := part_some hx (i := 3) (by decide)
  obtain ⟨y4, e4⟩ := part_some hx (i := 4) (by decide)
  have f0 : DataW.trod enc Try.prog W base sp held m 3 ((cs.drop 0).take (Try.prog.cellsOf 3)) = some y0 := (hall 0 _ rfl).trans e0
  have f1 : DataW.trod enc Try.prog W base sp held m 3 ((cs.drop 1).take (Try.prog.cellsOf 3)) = some y1 := (hall 1 _ rfl).trans e1
  have f2 : DataW.trod enc Try.prog W base sp held m 3 ((cs.drop 2).take (Try.prog.cellsOf 3)) = some y2 := (hall 2 _ rfl).trans e2
  have f3 : DataW.trod enc Try.prog W base sp held m 30 ((cs.drop 3).take (Try.prog.cellsOf 30)) = some y3 := (hall 3 _ rfl).trans e3
  have f4 : DataW.trod enc Try.prog W base sp held m 3 ((cs.drop 35).take (Try.prog.cellsOf 3)) = some y4 := (hall 4 _ rfl).trans e4
  rw [h1] at f0 f1 f2 f4
  rw [h32] at f3
  obtain ⟨r, ir, cr⟩ := open_int_cells f0
  obtain ⟨e, ie, ce⟩ := open_int_cells f1
  obtain ⟨s, is, cs'⟩ := open_int_cells f2
  obtain ⟨d, id, cd⟩ := open_dig_cells f3
  obtain ⟨t, it, ct⟩ := open_int_cells f4
  refine ⟨⟨r, e, s, d, t⟩, ⟨id, ir, ie, is, it⟩, ?_⟩
  unfold hcells
  show cs = [Value.int .i64 r, .int .i64 e, .int .i64 s] ++ cellsOf d ++ [.int .i64 t]
  have k0 : cs = (cs.drop 0).take 1 ++ ((cs.drop 1).take 1 ++ ((cs.drop 2).take 1 ++ ((cs.drop 3).take 32 ++ (cs.drop 35).take 1))) := by
    have q4 : (cs.drop 35).take 1 = cs.drop 35 := List.take_of_length_le (by rw [List.length_drop]; omega)
    have q3 : (cs.drop 3).take 32 ++ cs.drop 35 = cs.drop 3 := by
      have := List.take_append_drop 32 (cs.drop 3)
      rw [List.drop_drop] at this
      exact this
    have q2 : (cs.drop 2).take 1 ++ cs.drop 3 = cs.drop 2 := by
      have := List.take_append_drop 1 (cs.drop 2)
      rw [List.drop_drop] at this
      exact this
    have q1 : (cs.drop 1).take 1 ++ cs.drop 2 = cs.drop 1 := by
      have := List.take_append_drop 1 (cs.drop 1)
      rw [List.drop_drop] at this
      exact this
    rw [q4, q3, q2, q1, List.drop_zero, List.take_append_drop]
  rw [cr, ce, cs', cd, ct] at k0
  rw [k0]
  simp
theorem open_signed_cells {cs : List Value} (hf : DataW.trod enc Try.prog W base sp held fuel 34 cs = some x) : ∃ z : SgT, InS z ∧ cs = scells z := by
  obtain ⟨xs, m, rfl, _, hl, hx, hall⟩ := DataW.trod_struct Try.underlying34 hf
  have h1 : Try.prog.cellsOf 3 = 1 := by kernel_rfl
  have h32 : Try.prog.cellsOf 30 = 32 := by kernel_rfl
  have h36 : Try.prog.cellsOf 32 = 36 := by kernel_rfl
  have h69 : Try.prog.cellsOf 34 = 69 := by kernel_rfl
  rw [h69] at hl
  obtain ⟨y0, e0⟩ := part_some hx (i := 0) (by decide)
  obtain ⟨y1, e1⟩ := part_some hx (i := 1) (by decide)
  obtain ⟨y2, e2⟩ := part_some hx (i := 2) (by decide)
  have f0 : DataW.trod enc Try.prog W base sp held m 32 ((cs.drop 0).take (Try.prog.cellsOf 32)) = some y0 := (hall 0 _ rfl).trans e0
  have f1 : DataW.trod enc Try.prog W base sp held m 3 ((cs.drop 36).take (Try.prog.cellsOf 3)) = some y1 := (hall 1 _ rfl).trans e1
  have f2 : DataW.trod enc Try.prog W base sp held m 30 ((cs.drop 37).take (Try.prog.cellsOf 30)) = some y2 := (hall 2 _ rfl).trans e2
  rw [h36] at f0
  rw [h1] at f1
  rw [h32] at f2
  obtain ⟨h, ih, ch⟩ := open_head_cells f0
  obtain ⟨n, inn, cn⟩ := open_int_cells f1
  obtain ⟨g, ig, cg⟩ := open_dig_cells f2
  refine ⟨⟨h, n, g⟩, ⟨ih, inn, ig⟩, ?_⟩
  unfold scells
  show cs = hcells h ++ [Value.int .i64 n] ++ cellsOf g
  have k0 : cs = (cs.drop 0).take 36 ++ ((cs.drop 36).take 1 ++ (cs.drop 37).take 32) := by
    have q3 : (cs.drop 37).take 32 = cs.drop 37 := List.take_of_length_le (by rw [List.length_drop]; omega)
    have q2 : (cs.drop 36).take 1 ++ cs.drop 37 = cs.drop 36 := by
      have := List.take_append_drop 1 (cs.drop 36)
      rw [List.drop_drop] at this
      exact this
    rw [q3, q2, List.drop_zero, List.take_append_drop]
  rw [ch, cn, cg] at k0
  rw [k0]
  simp
end Go.Proofs.Ytjpmmbmhkpgjcaa

/- Claims that came in. -/
namespace Go.Proofs.Ytjpmmbmhkpgjcaa
open Go.RowKit Sums Nums
set_option linter.unusedVariables false
set_option maxRecDepth 100000
variable {H : Type} {enc : TypeId × Value → H} {W : World} {base : Nat} {sp : Nat → Bool} {held : Bool} {fuel : Nat} {x : DataW H × List MemPlace}
theorem open_claim_cells {cs : List Value} (hf : DataW.trod enc Try.prog W base sp held fuel 36 cs = some x) : ∃ z : ClT, InC z ∧ cs = ccells z := by
  obtain ⟨xs, m, rfl, _, hl, hx, hall⟩ := DataW.trod_struct Try.underlying36 hf
  have h32 : Try.prog.cellsOf 30 = 32 := by kernel_rfl
  have h1 : Try.prog.cellsOf 3 = 1 := by kernel_rfl
  have hsz : Try.prog.cellsOf 36 = 36 := by kernel_rfl
  rw [hsz] at hl
  obtain ⟨y0, e0⟩ := part_some hx (i := 0) (by decide)
  obtain ⟨y1, e1⟩ := part_some hx (i := 1) (by decide)
  obtain ⟨y2, e2⟩ := part_some hx (i := 2) (by decide)
  obtain ⟨y3, e3⟩ := part_some hx (i := 3) (by decide)
  obtain ⟨y4, e4⟩ := part_some hx (i := 4) (by decide)
  have f0 : DataW.trod enc Try.prog W base sp held m 3 ((cs.drop 0).take (Try.prog.cellsOf 3)) = some y0 := (hall 0 _ rfl).trans e0
  have f1 : DataW.trod enc Try.prog W base sp held m 3 ((cs.drop 1).take (Try.prog.cellsOf 3)) = some y1 := (hall 1 _ rfl).trans e1
  have f2 : DataW.trod enc Try.prog W base sp held m 3 ((cs.drop 2).take (Try.prog.cellsOf 3)) = some y2 := (hall 2 _ rfl).trans e2
  have f3 : DataW.trod enc Try.prog W base sp held m 3 ((cs.drop 3).take (Try.prog.cellsOf 3)) = some y3 := (hall 3 _ rfl).trans e3
  have f4 : DataW.trod enc Try.prog W base sp held m 30 ((cs.drop 4).take (Try.prog.cellsOf 30)) = some y4 := (hall 4 _ rfl).trans e4
  rw [h1] at f0
  rw [h1] at f1
  rw [h1] at f2
  rw [h1] at f3
  rw [h32] at f4
  obtain ⟨r, ir, cr'⟩ := open_int_cells f0
  obtain ⟨e, ie, ce'⟩ := open_int_cells f1
  obtain ⟨n, in', cn'⟩ := open_int_cells f2
  obtain ⟨s, is, cs'⟩ := open_int_cells f3
  obtain ⟨d, id, cd'⟩ := open_dig_cells f4
  refine ⟨⟨r, e, n, s, d⟩, ⟨id, ir, ie, in', is⟩, ?_⟩
  unfold ccells
  show cs = [Value.int .i64 r, .int .i64 e, .int .i64 n, .int .i64 s] ++ cellsOf d
  have k0 : cs = ((cs.drop 0).take 1 ++ ((cs.drop 1).take 1 ++ ((cs.drop 2).take 1 ++ ((cs.drop 3).take 1 ++ (cs.drop 4).take 32)))) := by
    have q4 : (cs.drop 4).take 32 = cs.drop 4 := List.take_of_length_le (by rw [List.length_drop]; omega)
    have q3 : (cs.drop 3).take 1 ++ cs.drop 4 = cs.drop 3 := by
      have := List.take_append_drop 1 (cs.drop 3)
      rw [List.drop_drop] at this
      exact this
    have q2 : (cs.drop 2).take 1 ++ cs.drop 3 = cs.drop 2 := by
      have := List.take_append_drop 1 (cs.drop 2)
      rw [List.drop_drop] at this
      exact this
    have q1 : (cs.drop 1).take 1 ++ cs.drop 2 = cs.drop 1 := by
      have := List.take_append_drop 1 (cs.drop 1)
      rw [List.drop_drop] at this
      exact this
    rw [q4, q3, q2, q1, List.drop_zero, List.take_append_drop]
  rw [cr', ce', cn', cs', cd'] at k0
  rw [k0]
  all_goals simp
end Go.Proofs.Ytjpmmbmhkpgjcaa

/- Entries and items that came in. -/
namespace Go.Proofs.Ytjpmmbmhkpgjcaa
open Go.RowKit Sums Nums
set_option linter.unusedVariables false
set_option maxRecDepth 100000
variable {H : Type} {enc : TypeId × Value → H} {W : World} {base : Nat} {sp : Nat → Bool} {held : Bool} {fuel : Nat} {x : DataW H × List MemPlace}
theorem open_kind_cells {cs : List Value} (hf : DataW.trod enc Try.prog W base sp held fuel 28 cs = some x) : ∃ z : Int, In64 z ∧ cs = [.int .i64 z] := by
  obtain ⟨z, hz, _, hwf⟩ := DataW.trod_int Try.underlying28 hf
  exact ⟨z, bounds_i64 hwf, hz⟩
theorem open_str_cells {cs : List Value} (hf : DataW.trod enc Try.prog W base sp held fuel 9 cs = some x) : ∃ s : ByteArray, s.size ≤ maxLen ∧ cs = [.string s] := by
  obtain ⟨s, hz, _, hwf⟩ := DataW.trod_string Try.underlying9 hf
  exact ⟨s, hwf, hz⟩
theorem open_entry_cells {cs : List Value} (hf : DataW.trod enc Try.prog W base sp held fuel 38 cs = some x) : ∃ z : EnT, CmE z ∧ cs = ecells z := by
  obtain ⟨xs, m, rfl, _, hl, hx, hall⟩ := DataW.trod_struct Try.underlying38 hf
  have h36 : Try.prog.cellsOf 36 = 36 := by kernel_rfl
  have h1 : Try.prog.cellsOf 3 = 1 := by kernel_rfl
  have hk : Try.prog.cellsOf 28 = 1 := by kernel_rfl
  have h69 : Try.prog.cellsOf 34 = 69 := by kernel_rfl
  have h9 : Try.prog.cellsOf 9 = 1 := by kernel_rfl
  have hsz : Try.prog.cellsOf 38 = 109 := by kernel_rfl
  rw [hsz] at hl
  obtain ⟨y0, e0⟩ := part_some hx (i := 0) (by decide)
  obtain ⟨y1, e1⟩ := part_some hx (i := 1) (by decide)
  obtain ⟨y2, e2⟩ := part_some hx (i := 2) (by decide)
  obtain ⟨y3, e3⟩ := part_some hx (i := 3) (by decide)
  obtain ⟨y4, e4⟩ := part_some hx (i := 4) (by decide)
  obtain ⟨y5, e5⟩ := part_some hx (i := 5) (by decide)
  have f0 : DataW.trod enc Try.prog W base sp held m 28 ((cs.drop 0).take (Try.prog.cellsOf 28)) = some y0 := (hall 0 _ rfl).trans e0
  have f1 : DataW.trod enc Try.prog W base sp held m 3 ((cs.drop 1).take (Try.prog.cellsOf 3)) = some y1 := (hall 1 _ rfl).trans e1
  have f2 : DataW.trod enc Try.prog W base sp held m 3 ((cs.drop 2).take (Try.prog.cellsOf 3)) = some y2 := (hall 2 _ rfl).trans e2
  have f3 : DataW.trod enc Try.prog W base sp held m 9 ((cs.drop 3).take (Try.prog.cellsOf 9)) = some y3 := (hall 3 _ rfl).trans e3
  have f4 : DataW.trod enc Try.prog W base sp held m 34 ((cs.drop 4).take (Try.prog.cellsOf 34)) = some y4 := (hall 4 _ rfl).trans e4
  have f5 : DataW.trod enc Try.prog W base sp held m 36 ((cs.drop 73).take (Try.prog.cellsOf 36)) = some y5 := (hall 5 _ rfl).trans e5
  rw [hk] at f0
  rw [h1] at f1
  rw [h1] at f2
  rw [h9] at f3
  rw [h69] at f4
  rw [h36] at f5
  obtain ⟨k, ik, ck'⟩ := open_kind_cells f0
  obtain ⟨c, ic, cc'⟩ := open_int_cells f1
  obtain ⟨s, is, cs'⟩ := open_int_cells f2
  obtain ⟨t, it, ct'⟩ := open_str_cells f3
  obtain ⟨h, ih, ch'⟩ := open_signed_cells f4
  obtain ⟨m, im, cm'⟩ := open_claim_cells f5
  refine ⟨⟨k, c, s, t, h, m⟩, ⟨ik, ic, is, it, ih, im⟩, ?_⟩
  unfold ecells
  show cs = [Value.int .i64 k, .int .i64 c, .int .i64 s, .string t] ++ scells h ++ ccells m
  have k0 : cs = ((cs.drop 0).take 1 ++ ((cs.drop 1).take 1 ++ ((cs.drop 2).take 1 ++ ((cs.drop 3).take 1 ++ ((cs.drop 4).take 69 ++ (cs.drop 73).take 36))))) := by
    have q5 : (cs.drop 73).take 36 = cs.drop 73 := List.take_of_length_le (by rw [List.length_drop]; omega)
    have q4 : (cs.drop 4).take 69 ++ cs.drop 73 = cs.drop 4 := by
      have := List.take_append_drop 69 (cs.drop 4)
      rw [List.drop_drop] at this
      exact this
    have q3 : (cs.drop 3).take 1 ++ cs.drop 4 = cs.drop 3 := by
      have := List.take_append_drop 1 (cs.drop 3)
      rw [List.drop_drop] at this
      exact this
    have q2 : (cs.drop 2).take 1 ++ cs.drop 3 = cs.drop 2 := by
      have := List.take_append_drop 1 (cs.drop 2)
      rw [List.drop_drop] at this
      exact this
    have q1 : (cs.drop 1).take 1 ++ cs.drop 2 = cs.drop 1 := by
      have := List.take_append_drop 1 (cs.drop 1)
      rw [List.drop_drop] at this
      exact this
    rw [q5, q4, q3, q2, q1, List.drop_zero, List.take_append_drop]
  rw [ck', cc', cs', ct', ch', cm'] at k0
  rw [k0]
  all_goals simp
theorem open_item_cells {cs : List Value} (hf : DataW.trod enc Try.prog W base sp held fuel 40 cs = some x) : ∃ z : ItT, CmI z ∧ cs = icells z := by
  obtain ⟨xs, m, rfl, _, hl, hx, hall⟩ := DataW.trod_struct Try.underlying40 hf
  have h109 : Try.prog.cellsOf 38 = 109 := by kernel_rfl
  have h1 : Try.prog.cellsOf 3 = 1 := by kernel_rfl
  have hsz : Try.prog.cellsOf 40 = 110 := by kernel_rfl
  rw [hsz] at hl
  obtain ⟨y0, e0⟩ := part_some hx (i := 0) (by decide)
  obtain ⟨y1, e1⟩ := part_some hx (i := 1) (by decide)
  have f0 : DataW.trod enc Try.prog W base sp held m 3 ((cs.drop 0).take (Try.prog.cellsOf 3)) = some y0 := (hall 0 _ rfl).trans e0
  have f1 : DataW.trod enc Try.prog W base sp held m 38 ((cs.drop 1).take (Try.prog.cellsOf 38)) = some y1 := (hall 1 _ rfl).trans e1
  rw [h1] at f0
  rw [h109] at f1
  obtain ⟨p, ip, cp'⟩ := open_int_cells f0
  obtain ⟨e, ie, ce'⟩ := open_entry_cells f1
  refine ⟨⟨p, e⟩, ⟨ip, ie⟩, ?_⟩
  unfold icells
  show cs = [Value.int .i64 p] ++ ecells e
  have k0 : cs = ((cs.drop 0).take 1 ++ (cs.drop 1).take 109) := by
    have q1 : (cs.drop 1).take 109 = cs.drop 1 := List.take_of_length_le (by rw [List.length_drop]; omega)
    rw [q1, List.drop_zero, List.take_append_drop]
  rw [cp', ce'] at k0
  rw [k0]
  all_goals simp
end Go.Proofs.Ytjpmmbmhkpgjcaa

/- What head.GetSigned answers. -/
namespace Go.Proofs.Ytjpmmbmhkpgjcaa
open Go.RowKit Sums Nums
set_option linter.unusedVariables false
set_option linter.unusedSimpArgs false
set_option maxRecDepth 100000
def hV (tag : Int) (fs : List (Int × ByteArray)) : HdT := getHO (tkD tag fs).data.toList
def hB (tag : Int) (fs : List (Int × ByteArray)) : Bool := tkB tag fs && (getO (tkD tag fs).data.toList).isSome
theorem hV_digs (tag : Int) (fs : List (Int × ByteArray)) : (hV tag fs).d.length = 32 := getHO_digs _
set_option maxHeartbeats 4000000 in
theorem rhead_any (W : World) (lo g : Nat) (fs : List (Int × ByteArray)) (tag : Int) (h : Rd W lo g fs) (hsz : (tkD tag fs).size ≤ 1000000) (D : Array Value) (HD : Hid (D = (hcells (hV tag fs)).toArray)) :
    Calls Try.prog 143 #[.pointer (some ⟨g, 0, none⟩), .int .i64 tag] W fun e w' => e = .returned (.tuple #[.agg D, .bool (hB tag fs)]) ∧ W.grownBy w' (some g) ∧ Rd w' lo g (tkR tag fs) := by
  obtain ⟨Z, HZ, HA, HBZ, H36⟩ := noughtsH
  have HH := hidk h
  have D1 : Hid (∀ V, Rd V lo g fs → Calls Try.prog 149 #[.pointer (some ⟨g, 0, none⟩), .int .i64 tag] V fun e w' => e = .returned (.tuple #[.string (tkD tag fs), .bool (tkB tag fs)]) ∧ V.grownBy w' (some g) ∧ Rd w' lo g (tkR tag fs)) := fun V hV => data_any V lo g fs tag hV
  have hlt := h.lt
  have hD36 : D.size = 36 := by rw [HD.out, List.size_toArray]; exact hcells_length _ (hV_digs tag fs)
  have HSD : Hid ((Try.prog.info? 32).map (·.size) = some D.size) := by show _ = _; rw [sizeH, hD36]
  have H1D : Hid (D.all (·.oneCell') = true) := by show _ = _; rw [HD.out]; exact one_cells _
  have HZD : Hid (Z.size = D.size) := by show _ = _; rw [H36.out, hD36]
  obtain ⟨E, hE⟩ : ∃ E, E = getHE (tkD tag fs).data.toList := ⟨_, rfl⟩
  have G1 : Hid (∀ V a c, Reads V a (tkD tag fs).size c (tkD tag fs).data.toList → Calls Try.prog 150 #[.slice a (tkD tag fs).size c] V fun e w' => e = .returned (.tuple #[.agg D, .int .i64 E]) ∧ Below V.heap.size V w') := fun V a c hr => by rw [hE]; exact hGet_any a _ c _ V hr hsz D HD
  have hE2 : (E = 0 ∧ (getO (tkD tag fs).data.toList).isSome = true) ∨ (E = 70 ∧ (getO (tkD tag fs).data.toList).isSome = false) := by
    rw [hE]; unfold getHE
    cases (getO (tkD tag fs).data.toList).isSome
    · exact .inr ⟨rfl, rfl⟩
    · exact .inl ⟨rfl, rfl⟩
  unfold hB
  obtain ⟨d, hd⟩ : ∃ d, d = tkD tag fs := ⟨_, rfl⟩
  obtain ⟨b, hb⟩ : ∃ b, b = tkB tag fs := ⟨_, rfl⟩
  obtain ⟨r, hr⟩ : ∃ r, r = tkR tag fs := ⟨_, rfl⟩
  simp only [← hd, ← hb, ← hr] at D1 G1 hE2 hsz ⊢
  have hml : d.size ≤ maxLen := by unfold maxLen; omega
  clear hd hb hr h HD HZ hE hD36
  rcases hE2 with ⟨rfl, hq⟩ | ⟨rfl, hq⟩
  all_goals
    rw [hq]
    clear hq
    cases b
    all_goals
      go_enter Try.func143, Try.ntmps143
      go_wp2_with (first
        | (show wpList _ _ _ ({ dst := some 4, op := _, type := _, pos := _, after := _, guard := _ } :: _) _ _; refine wpList_new_var rfl 32 rfl Z HA.out ?_; intro g4 w1 HM4; try simp only [Act.put, List.setIfInBounds_toArray, List.set_cons_zero, List.set_cons_succ])
        | fail)
      refine (D1.out w1 (HH.out.below HM4.out.below)).mono ?_
      rintro e w2 ⟨rfl, hg2, hr2⟩
      have HG2 := hidk (grown_trans (grown_below HM4.out.below) hg2)
      have HR2 := hidk hr2
      have h4 : W.heap.size ≤ g4 := Nat.le_of_eq HM4.out.new.symm
      have HR4 : Hid (w2.heap[g4]? = some (.cells Z 32 (0, 0))) := (hg2.block _ (heap_lt HM4.out.row) (by intro e; cases e; omega)).trans HM4.out.row
      clear hg2 hr2 HM4 D1 HH
      go_wp2_with (first
        | (show wpList _ _ _ ({ dst := some 18, op := _, type := _, pos := _, after := _, guard := _ } :: _) _ _; refine wpList_conv_text rfl 9 61 5 (.tmp 17) rfl d rfl Try.underlying9 Try.underlying61 Try.underlying5 hml ?_; intro a3 c3 w3 HV; try simp only [Act.put, List.setIfInBounds_toArray, List.set_cons_zero, List.set_cons_succ])
        | fail)
      refine (G1.out _ _ _ HV.out.1).mono ?_
      rintro e w5 ⟨rfl, hb5⟩
      have hbb := HV.out.2.trans (hb5.mono HV.out.2.size)
      have HG5 := hidk (grown_trans HG2.out (grown_below hbb))
      have HR5 := hidk (HR2.out.below hbb)
      have HR45 := hidk ((hbb.block _ (heap_lt HR4.out)).trans HR4.out)
      clear hb5 hbb HV HG2 HR2 HR4
      go_wp2_with (first
        | (show wpList _ _ _ ({ dst := some 8, op := _, type := _, pos := _, after := _, guard := _ } :: _) _ _; refine wpList_new_var rfl 32 rfl Z HA.out ?_; intro g8 w6 HM8; try simp only [Act.put, List.setIfInBounds_toArray, List.set_cons_zero, List.set_cons_succ])
        | (refine wpList_set_var rfl 32 (.tmp 8) (.tmp 20) rfl g8 D rfl rfl 32 Z HM8.out.row HSD.out HZD.out H1D.out ?_; intro w7 HW8; try simp only [Act.put, List.setIfInBounds_toArray, List.set_cons_zero, List.set_cons_succ])
        | (show wpList _ _ _ ({ dst := some 22, op := _, type := _, pos := _, after := _, guard := _ } :: _) _ _; refine wpList_load_row rfl 32 (.tmp 8) rfl g8 rfl 32 D (0, 0) _ HW8.out.row Try.underlying32 rfl HSD.out ?_; try simp only [Act.put, List.setIfInBounds_toArray, List.set_cons_zero, List.set_cons_succ])
        | (refine wpList_set_var rfl 32 (.tmp 4) (.tmp 22) rfl g4 D rfl rfl 32 Z ((HW8.out.other _ (by have e1 := HM8.out.new; have := heap_lt HR45.out; omega)).trans ((HM8.out.below.block _ (heap_lt HR45.out)).trans HR45.out)) HSD.out HZD.out H1D.out ?_; intro w8 HW4; try simp only [Act.put, List.setIfInBounds_toArray, List.set_cons_zero, List.set_cons_succ])
        | fail)
      have h8 : w5.heap.size ≤ g8 := Nat.le_of_eq HM8.out.new.symm
      have hg5 := HR5.out.lt
      have hs5 := HG5.out.size
      refine bodyPost_ret (v := .tuple #[.agg D, .bool _]) ?_ rfl ⟨rfl, grown_wrote (grown_wrote (grown_trans HG5.out (grown_below HM8.out.below)) HW8.out (by omega)) HW4.out h4, ((HR5.out.below HM8.out.below).wrote HW8.out (.inr (by omega))).wrote HW4.out (.inr (by omega))⟩
      exact results_row_tmp (p := 4) (q := 5) (ty := 32) rfl _ _ g4 32 D (0, 0) _ rfl HW4.out.row Try.underlying32 rfl HSD.out
set_option maxHeartbeats 2000000 in
theorem into_head (W : World) (lo g gh off : Nat) (fs : List (Int × ByteArray)) (tag : Int) (h : Rd W lo g fs) (hsz : (tkD tag fs).size ≤ 1000000) (C C' D : Array Value) (t : TypeId) (hC : W.heap[gh]? = some (.cells C t (0, 0))) (ho : off + 36 ≤ C.size) (hl : gh < lo) (HD : Hid (D = (hcells (hV tag fs)).toArray)) (HC' : Hid (C' = (C.toList.take off ++ D.toList ++ C.toList.drop (off + 36)).toArray)) :
    Calls Try.prog 142 #[.pointer (some ⟨gh, off, none⟩), .int .i64 tag, .func (.func 143) #[.pointer (some ⟨g, 0, none⟩)] #[]] W fun e w' =>
      e = .returned (.bool (hB tag fs)) ∧ w'.heap[gh]? = some (.cells C' t (0, 0)) ∧ Rd w' lo g (tkR tag fs) ∧ Went gh g W w' := by
  obtain ⟨Z, HZ, HA, HBZ, H36⟩ := noughtsH
  have N1 := hidk (rhead_any W lo g fs tag h hsz D HD)
  have hlt := h.lt
  have hD36 : D.size = 36 := by rw [HD.out, List.size_toArray]; exact hcells_length _ (hV_digs tag fs)
  have HSD : Hid ((Try.prog.info? 32).map (·.size) = some D.size) := by show _ = _; rw [sizeH, hD36]
  have H1D : Hid (D.all (·.oneCell') = true) := by show _ = _; rw [HD.out]; exact one_cells _
  have HZD : Hid (Z.size = D.size) := by show _ = _; rw [H36.out, hD36]
  have hgg : gh ≠ g := by obtain ⟨_, _, _, q, _⟩ := h; omega
  have HCC : Hid (C' = (C.toList.take off ++ D.toList ++ C.toList.drop (off + D.size)).toArray) := by show _ = _; rw [hD36, HC'.out]
  have HOO : Hid (off + D.size ≤ C.size) := by show _ ≤ _; rw [hD36]; exact ho
  have HC := hidk hC
  obtain ⟨b, hb⟩ : ∃ n, n = hB tag fs := ⟨_, rfl⟩
  rw [← hb] at N1
  rw [← hb]
  clear HC' hb hC HD hD36 HZ ho HBZ H36
  go_enter Try.func142, Try.ntmps142
  go_wp2_with fail
  refine N1.out.mono ?_
  rintro e w1 ⟨rfl, hg1, hr1⟩
  have HG := hidk hg1
  have HR := hidk hr1
  have HC1 := hidk ((hg1.block _ (heap_lt HC.out) (by intro e; cases e; exact hgg rfl)).trans HC.out)
  have hs1 := hg1.size
  clear hg1 hr1 h
  go_wp2_with (first
    | (show wpList _ _ _ ({ dst := some 7, op := _, type := _, pos := _, after := _, guard := _ } :: _) _ _; refine wpList_new_var rfl 32 rfl Z HA.out ?_; intro g7 w2 HM7; try simp only [Act.put, List.setIfInBounds_toArray, List.set_cons_zero, List.set_cons_succ])
    | (refine wpList_set_var rfl 32 (.tmp 7) (.tmp 13) rfl g7 D rfl rfl 32 Z HM7.out.row HSD.out HZD.out H1D.out ?_; intro w3 HW7; try simp only [Act.put, List.setIfInBounds_toArray, List.set_cons_zero, List.set_cons_succ])
    | (show wpList _ _ _ ({ dst := some 16, op := _, type := _, pos := _, after := _, guard := _ } :: _) _ _; refine wpList_load_row rfl 32 (.tmp 7) rfl g7 rfl 32 D (0, 0) _ HW7.out.row Try.underlying32 rfl HSD.out ?_; try simp only [Act.put, List.setIfInBounds_toArray, List.set_cons_zero, List.set_cons_succ])
    | (refine wpList_set_mid rfl 32 (.tmp 17) (.tmp 16) rfl gh off D rfl rfl t C ((HW7.out.other _ (by have e1 := HM7.out.new; have := heap_lt HC1.out; omega)).trans ((HM7.out.below.block _ (heap_lt HC1.out)).trans HC1.out)) HOO.out HSD.out H1D.out ?_; intro w4 HW; try simp only [Act.put, List.setIfInBounds_toArray, List.set_cons_zero, List.set_cons_succ])
    | fail)
  have h7 : w1.heap.size ≤ g7 := Nat.le_of_eq HM7.out.new.symm
  have HG2 := hidk (grown_wrote (grown_trans HG.out (grown_below HM7.out.below)) HW7.out (Nat.le_trans HG.out.size h7))
  have hb1 := HR.out.lt
  go_ret
  refine ⟨rfl, ?_, ((HR.out.below HM7.out.below).wrote HW7.out (.inr (by omega))).wrote HW.out (.inl hl), went_of HG2.out HW.out hlt⟩
  rw [HCC.out]
  exact HW.out.row
theorem gt_head {w W : World} {g2 g4 g5 lo : Nat} {Z C C' : Array Value} {T : TypeId} {fs fs' : List (Int × ByteArray)} (tag : Int) (off : Nat) (b : Bool) (h : GtS w W g2 g4 g5 lo Z C T fs) (hsz : (tkD tag fs).size ≤ 1000000) (ho : off + 36 ≤ C.size) (hC : C' = (C.toList.take off ++ hcells (hV tag fs) ++ C.toList.drop (off + 36)).toArray) (hb : b = hB tag fs) (hf : fs' = tkR tag fs) :
    Calls Try.prog 142 #[.pointer (some ⟨g4, off, none⟩), .int .i64 tag, .func (.func 143) #[.pointer (some ⟨g5, 0, none⟩)] #[]] W fun e w' => e = .returned (.bool b) ∧ GtS w w' g2 g4 g5 lo Z C' T fs' := by
  subst hb hf
  refine (into_head W lo g5 g4 off fs tag h.rd hsz C C' (hcells (hV tag fs)).toArray T h.r4 ho h.ol (hidk rfl) (by show _ = _; rw [hC])).mono ?_
  rintro e w' ⟨rfl, h1, h2, h3⟩
  exact ⟨rfl, h.went h1 h2 h3⟩
theorem readF_64 (bs : List UInt8) : ∀ f ∈ readF bs, f.2.size ≤ 65536 := by
  intro f hf
  unfold readF at hf
  by_cases h : readE bs = 0
  · rw [if_pos h] at hf
    unfold toF at hf
    obtain ⟨x, hx, rfl⟩ := List.mem_map.1 hf
    have := parse_small _ _ _ x hx
    show x.d.toArray.size ≤ 65536
    simp
    omega
  · rw [if_neg h] at hf; simp at hf
theorem tkD_le (tag : Int) (fs : List (Int × ByteArray)) (n : Nat) (h : ∀ f ∈ fs, f.2.size ≤ n) : (tkD tag fs).size ≤ n := by
  cases fs with
  | nil => exact Nat.zero_le _
  | cons f r =>
    by_cases e : f.1 = tag
    · rw [show tkD tag (f :: r) = f.2 from if_pos e]; exact h f (List.mem_cons_self ..)
    · rw [show tkD tag (f :: r) = ⟨#[]⟩ from if_neg e]; exact Nat.zero_le _
theorem hB_tk {tag : Int} {fs : List (Int × ByteArray)} (h : hB tag fs = true) : tkB tag fs = true ∧ getO (tkD tag fs).data.toList = some (hV tag fs) := by
  unfold hB at h
  simp only [Bool.and_eq_true] at h
  refine ⟨h.1, ?_⟩
  unfold hV getHO
  cases hg : getO (tkD tag fs).data.toList with
  | none => rw [hg] at h; cases h.2
  | some x => rfl
def seqS (f0 : List (Int × ByteArray)) : SgT := ⟨hV 1 f0, nV 2 (tkR 1 f0), dV 3 (tkR 2 (tkR 1 f0))⟩
def allS (f0 : List (Int × ByteArray)) : Bool := hB 1 f0 && (nB 2 (tkR 1 f0) && (dB 3 (tkR 2 (tkR 1 f0)) && (decide ((tkR 3 (tkR 2 (tkR 1 f0))).length = 0) && mayS (seqS f0))))
theorem get_seqS (bs : List UInt8) : Go.Proofs.Ytjpmmbmhkpgjcaa.getS bs = if allS (readF bs) = true then some (seqS (readF bs)) else none := by
  by_cases h0 : readE bs = 0
  · by_cases ha : allS (readF bs) = true
    · rw [if_pos ha]
      obtain ⟨f0, hf0⟩ : ∃ f, f = readF bs := ⟨_, rfl⟩
      rw [← hf0] at ha ⊢
      unfold allS at ha
      simp only [Bool.and_eq_true, decide_eq_true_eq] at ha
      obtain ⟨a1, a2, a3, a6, a7⟩ := ha
      have s1 := tk_shape (hB_tk a1).1
      have s2 := tk_shape (nB_tk a2).1
      have s3 := tk_shape (dB_tk a3).1
      have s6 := List.eq_nil_of_length_eq_zero a6
      have hh : seqS f0 = ⟨hV 1 f0, valO (tkD 2 (tkR 1 f0)).data.toList, (tkD 3 (tkR 2 (tkR 1 f0))).data.toList⟩ := by
        unfold seqS
        rw [nV_val a2, dV_yes a3]
      have hx := (dB_tk a3).2
      have hg1 := (hB_tk a1).2
      obtain ⟨x1, e1⟩ : ∃ x, x = tkD 1 f0 := ⟨_, rfl⟩
      obtain ⟨x2, e2⟩ : ∃ x, x = tkD 2 (tkR 1 f0) := ⟨_, rfl⟩
      obtain ⟨x3, e3⟩ : ∃ x, x = tkD 3 (tkR 2 (tkR 1 f0)) := ⟨_, rfl⟩
      rw [← e2, ← e3] at hh
      rw [← e3] at hx
      rw [← e1] at hg1
      have hs : readF bs = fieldsN [x1, x2, x3] := by
        rw [s6, ← e3] at s3
        rw [s3, ← e2] at s2
        rw [s2, ← e1] at s1
        rw [← hf0, s1]
        rfl
      have hp : partsO bs 3 = some [x1, x2, x3] := partsO_of h0 hs
      unfold Go.Proofs.Ytjpmmbmhkpgjcaa.getS
      rw [hp]
      show (match getO x1.data.toList with | some h => if x3.size = 32 ∧ mayS ⟨h, valO x2.data.toList, x3.data.toList⟩ = true then some (⟨h, valO x2.data.toList, x3.data.toList⟩ : SgT) else none | none => none) = _
      rw [hg1]
      show (if x3.size = 32 ∧ mayS ⟨hV 1 f0, valO x2.data.toList, x3.data.toList⟩ = true then some (⟨hV 1 f0, valO x2.data.toList, x3.data.toList⟩ : SgT) else none) = _
      rw [← hh, if_pos ⟨hx, a7⟩]
    · rw [if_neg ha]
      cases hg : Go.Proofs.Ytjpmmbmhkpgjcaa.getS bs with
      | none => rfl
      | some s =>
        exfalso
        apply ha
        unfold Go.Proofs.Ytjpmmbmhkpgjcaa.getS at hg
        split at hg
        · rename_i x1 x2 x3 hp
          split at hg
          · rename_i h1 hg1
            split at hg
            · rename_i hh
              have hr := (mayS_iff _).1 hh.2
              simp only at hr
              have hf := (partsO_fields hp).2.1
              rw [hf]
              have n2 := valO_num (l := x2.data.toList) (by omega)
              have hhv : hV 1 [((1 : Int), x1), (2, x2), (3, x3)] = h1 := by
                unfold hV getHO
                rw [tkD_hit, hg1]
                rfl
              have hhb : hB 1 [((1 : Int), x1), (2, x2), (3, x3)] = true := by
                unfold hB
                rw [tkB_hit, tkD_hit, hg1]
                rfl
              have hq : seqS [((1 : Int), x1), (2, x2), (3, x3)] = ⟨h1, valO x2.data.toList, x3.data.toList⟩ := by
                unfold seqS
                rw [hhv]
                simp only [tkR_hit, nV_hit]
                rw [dV_yes (by rw [dB_hit]; simpa using hh.1), tkD_hit]
                unfold vOf valO
                rw [if_pos n2, if_pos n2]
              show allS [((1 : Int), x1), (2, x2), (3, x3)] = true
              unfold allS
              rw [hq, hhb]
              simp only [tkR_hit, nB_hit, dB_hit, n2, hh.2, List.length_nil, Bool.true_and, Bool.and_true, decide_true]
              simpa using hh.1
            · cases hg
          · cases hg
        · cases hg
  · have hf := readF_none h0
    have hg : Go.Proofs.Ytjpmmbmhkpgjcaa.getS bs = none := by
      cases hg : partsO bs 3 with
      | none => unfold Go.Proofs.Ytjpmmbmhkpgjcaa.getS; rw [hg]
      | some l => exact absurd (partsO_fields hg).1 h0
    rw [hg, hf, if_neg]
    intro h
    cases h
theorem scells_zero (o : HdT) (h : HdT) (n : Int) (t : List UInt8) (hd : h.d.length = 32) : ((scells ⟨h, n, t⟩).toArray.toList.take 0 ++ hcells o ++ (scells ⟨h, n, t⟩).toArray.toList.drop (0 + 36)).toArray = (scells ⟨o, n, t⟩).toArray := by
  unfold scells
  congr 1
  simp [List.drop_append, hcells_length h hd]
theorem scells_node (h : HdT) (n v : Int) (t : List UInt8) (hd : h.d.length = 32) : (scells ⟨h, n, t⟩).toArray.setIfInBounds 36 (.int .i64 v) = (scells ⟨h, v, t⟩).toArray := by
  unfold scells
  rw [List.setIfInBounds_toArray]
  congr 1
  rw [List.append_assoc, List.append_assoc, List.set_append_right _ _ (by simp [hcells_length h hd])]
  simp [hcells_length h hd]
set_option maxHeartbeats 8000000 in
theorem hGetS_any (a : Option Addr) (len cap : Nat) (bs : List UInt8) (w : World) (hR : Reads w a len cap bs) (hl : len ≤ 1000000) (R : Array Value) (HR : Hid (R = (scells (getSO bs)).toArray)) :
    Calls Try.prog 140 #[.slice a len cap] w fun e w' => e = .returned (.tuple #[.agg R, .int .i64 (getSE bs)]) ∧ Below w.heap.size w w' := by
  obtain ⟨Z, HZ, HA, HBZ, H36⟩ := noughtsS
  have HSZ : Hid ((Try.prog.info? 34).map (·.size) = some Z.size) := by show _ = _; rw [sizeS, H36.out]
  have H1Z : Hid (Z.all (·.oneCell') = true) := by show _ = _; rw [HZ.out]; exact one_cellsS _
  have hnot : ∀ (x : Bool) (w : World), (Op.unary .not (.bool x)).run Try.prog w = .ok (.bool (!x)) w := fun _ _ => rfl
  obtain ⟨f0, hf0⟩ : ∃ f, f = readF bs := ⟨_, rfl⟩
  obtain ⟨f1, hf1⟩ : ∃ f, f = tkR 1 f0 := ⟨_, rfl⟩
  obtain ⟨f2, hf2⟩ : ∃ f, f = tkR 2 f1 := ⟨_, rfl⟩
  obtain ⟨f3, hf3⟩ : ∃ f, f = tkR 3 f2 := ⟨_, rfl⟩
  have hsz : (tkD 1 f0).size ≤ 1000000 := Nat.le_trans (tkD_le 1 f0 65536 (by rw [hf0]; exact readF_64 bs)) (by decide)
  obtain ⟨C1, hC1⟩ : ∃ C, C = (scells ⟨hV 1 f0, 0, List.replicate 32 0⟩).toArray := ⟨_, rfl⟩
  obtain ⟨C2, hC2⟩ : ∃ C, C = (scells ⟨hV 1 f0, nV 2 f1, List.replicate 32 0⟩).toArray := ⟨_, rfl⟩
  obtain ⟨C3, hC3⟩ : ∃ C, C = (scells ⟨hV 1 f0, nV 2 f1, dV 3 f2⟩).toArray := ⟨_, rfl⟩
  have hz1 : C1.size = 69 := by rw [hC1, List.size_toArray]; exact scells_length _ (hV_digs _ _) rfl
  have hz2 : C2.size = 69 := by rw [hC2, List.size_toArray]; exact scells_length _ (hV_digs _ _) rfl
  have hz3 : C3.size = 69 := by rw [hC3, List.size_toArray]; exact scells_length _ (hV_digs _ _) (dV_length _ _)
  obtain ⟨b1, hb1⟩ : ∃ b, b = hB 1 f0 := ⟨_, rfl⟩
  obtain ⟨b2, hb2⟩ : ∃ b, b = nB 2 f1 := ⟨_, rfl⟩
  obtain ⟨b3, hb3⟩ : ∃ b, b = dB 3 f2 := ⟨_, rfl⟩
  obtain ⟨b4, hb4⟩ : ∃ b, b = decide (f3.length = 0) := ⟨_, rfl⟩
  obtain ⟨br, hbr⟩ : ∃ b, b = mayS (seqS f0) := ⟨_, rfl⟩
  have hq : seqS f0 = ⟨hV 1 f0, nV 2 f1, dV 3 f2⟩ := by unfold seqS; rw [hf2, hf1]
  have hall : allS f0 = (b1 && (b2 && (b3 && (b4 && br)))) := by
    unfold allS
    rw [hb1, hb2, hb3, hb4, hbr, hf3, hf2, hf1]
  have hget := get_seqS bs
  rw [← hf0, hall] at hget
  obtain ⟨K, hKK⟩ : ∃ K, K = getSE bs := ⟨_, rfl⟩
  rw [← hKK]
  have HF : Hid ((b1 && (b2 && (b3 && (b4 && br)))) = false → R = Z ∧ K = 70) := fun hh => by
    rw [hh] at hget
    have hget : Go.Proofs.Ytjpmmbmhkpgjcaa.getS bs = none := hget
    rw [HR.out, HZ.out, hKK]
    unfold getSO getSE
    rw [hget]
    exact ⟨rfl, rfl⟩
  have HT : Hid ((b1 && (b2 && (b3 && (b4 && br)))) = true → R = C3 ∧ K = 0) := fun hh => by
    rw [hh] at hget
    have hget : Go.Proofs.Ytjpmmbmhkpgjcaa.getS bs = some (seqS f0) := hget
    rw [HR.out, hC3, hKK]
    unfold getSO getSE
    rw [hget, hq]
    exact ⟨rfl, rfl⟩
  have O1 : Hid (∀ W, Below w.heap.size w W → Calls Try.prog 141 #[.slice a len cap] W fun e w' => ∃ x c, e = .returned (.slice x f0.length c) ∧ Lie w' W.heap.size x c f0 ∧ Below W.heap.size W w') := fun W hb => by rw [hf0]; exact open_any a len cap bs W (hR.below hb) hl
  have I1 : Hid (∀ W g2 g4 g5 lo, GtS w W g2 g4 g5 lo Z Z 34 f0 → Calls Try.prog 142 #[.pointer (some ⟨g4, 0, none⟩), .int .i64 1, .func (.func 143) #[.pointer (some ⟨g5, 0, none⟩)] #[]] W fun e w' => e = .returned (.bool b1) ∧ GtS w w' g2 g4 g5 lo Z C1 34 f1) := fun W g2 g4 g5 lo hs => gt_head 1 0 b1 hs hsz (by rw [H36.out]; omega) (by rw [HZ.out, hC1]; exact (scells_zero (hV 1 f0) zeroH 0 (List.replicate 32 0) rfl).symm) hb1 hf1
  have I2 : Hid (∀ W g2 g4 g5 lo, GtS w W g2 g4 g5 lo Z C1 34 f1 → Calls Try.prog 144 #[.pointer (some ⟨g4, 36, none⟩), .int .i64 2, .func (.func 145) #[.pointer (some ⟨g5, 0, none⟩)] #[]] W fun e w' => e = .returned (.bool b2) ∧ GtS w w' g2 g4 g5 lo Z C2 34 f2) := fun W g2 g4 g5 lo hs => gt_int 2 36 b2 hs (by rw [hz1]; omega) (by rw [hC1, hC2]; exact (scells_node (hV 1 f0) 0 (nV 2 f1) (List.replicate 32 0) (hV_digs _ _)).symm) hb2 hf2
  have I3 : Hid (∀ W g2 g4 g5 lo, GtS w W g2 g4 g5 lo Z C2 34 f2 → Calls Try.prog 146 #[.pointer (some ⟨g4, 37, none⟩), .int .i64 3, .func (.func 147) #[.pointer (some ⟨g5, 0, none⟩)] #[]] W fun e w' => e = .returned (.bool b3) ∧ GtS w w' g2 g4 g5 lo Z C3 34 f3) := fun W g2 g4 g5 lo hs => gt_dig 3 37 b3 hs (by rw [hz2]; omega) (by rw [hC2, hC3]; exact (scells_sign (hV 1 f0) (nV 2 f1) (List.replicate 32 0) (dV 3 f2) (hV_digs _ _) rfl).symm) hb3 hf3
  have I4 : Hid (∀ W g2 g4 g5 lo, GtS w W g2 g4 g5 lo Z C3 34 f3 → Calls Try.prog 148 #[.pointer (some ⟨g5, 0, none⟩)] W fun e w' => e = .returned (.bool b4) ∧ GtS w w' g2 g4 g5 lo Z C3 34 f3) := fun W g2 g4 g5 lo hs => gt_ended b4 hs hb4
  obtain ⟨E, hE⟩ : ∃ E, E = mayS (seqS f0) := ⟨_, rfl⟩
  have hd5 : (seqS f0).h.d.length = 32 := hV_digs _ _
  have K1 : Hid (∀ W, Calls Try.prog 132 #[.agg C3] W fun e w' => e = .returned (.bool E) ∧ Below W.heap.size W w') := fun W => by rw [hE]; exact hMay_any (seqS f0) hd5 W C3 (by rw [hC3, hq]; exact hidk rfl)
  have hK : (E = true ∧ br = true) ∨ (E = false ∧ br = false) := by
    rw [hE, hbr]
    cases mayS (seqS f0)
    · exact .inr ⟨rfl, rfl⟩
    · exact .inl ⟨rfl, rfl⟩
  have HSC : Hid ((Try.prog.info? 34).map (·.size) = some C3.size) := by show _ = _; rw [sizeS, hz3]
  have H1C : Hid (C3.all (·.oneCell') = true) := by show _ = _; rw [hC3]; exact one_cellsS _
  have HZC : Hid (Z.size = C3.size) := by show _ = _; rw [H36.out, hz3]
  clear hf0 hf1 hf2 hf3 hC1 hC2 hC3 hz1 hz2 hz3 hb1 hb2 hb3 hb4 hbr hq hall hget hKK hE hd5 HR H36 hsz
  clear HZ hR
  go_enter Try.func140, Try.ntmps140
  go_wp2_with (first
    | (show wpList _ _ _ ({ dst := some 2, op := _, type := _, pos := _, after := _, guard := _ } :: _) _ _; refine wpList_new_var rfl 34 rfl Z HA.out ?_; intro g2 w1 HM2; try simp only [Act.put, List.setIfInBounds_toArray, List.set_cons_zero, List.set_cons_succ])
    | (show wpList _ _ _ ({ dst := some 4, op := _, type := _, pos := _, after := _, guard := _ } :: _) _ _; refine wpList_new_var rfl 34 rfl Z HA.out ?_; intro g4 w2 HM4; try simp only [Act.put, List.setIfInBounds_toArray, List.set_cons_zero, List.set_cons_succ])
    | fail)
  have HB2 : Hid (Below w.heap.size w w2) := HM2.out.below.trans (HM4.out.below.mono HM2.out.below.size)
  refine (O1.out w2 HB2.out).mono ?_
  rintro e w3 ⟨x, c, rfl, hl3, hb3⟩
  have HS0 : Hid (GtS w (w3.alloc (.cells #[.slice x f0.length c] 176)) g2 g4 w3.heap.size w2.heap.size Z Z 34 f0) := by
    have hbb := HB2.out.trans (hb3.mono HB2.out.size)
    have q2 : w2.heap[g2]? = some (.cells Z 34 (0, 0)) := (HM4.out.below.block _ (heap_lt HM2.out.row)).trans HM2.out.row
    refine ⟨hbb.alloc hbb.size _, heap_keep ((hb3.block _ (heap_lt q2)).trans q2), heap_keep ((hb3.block _ (heap_lt HM4.out.row)).trans HM4.out.row), rd_new hl3 hb3.size, Nat.le_of_eq HM2.out.new.symm, ?_, heap_lt HM4.out.row, hb3.size⟩
    rw [HM4.out.new]; exact heap_lt HM2.out.row
  obtain ⟨g5, hg5⟩ : ∃ g, g = w3.heap.size := ⟨_, rfl⟩
  obtain ⟨lo, hlo⟩ : ∃ g, g = w2.heap.size := ⟨_, rfl⟩
  rw [← hg5, ← hlo] at HS0
  clear HM2 HM4 HB2 hb3 hl3 O1 hlo
  go_wp2_with fail
  rw [← hg5]
  clear hg5
  refine (I1.out _ _ _ _ _ HS0.out).mono ?_
  rintro e v1 ⟨rfl, hs1⟩
  have HS1 := hidk hs1
  clear hs1 HS0 I1
  cases b1
  · skip
    go_wp2_with (first
      | (show wpList _ _ _ ({ dst := some 32, op := _, type := _, pos := _, after := _, guard := _ } :: _) _ _; refine wpList_build_none rfl 34 rfl Z HBZ.out ?_; try simp only [Act.put, List.setIfInBounds_toArray, List.set_cons_zero, List.set_cons_succ])
      | (refine wpList_set_var rfl 34 (.tmp 2) (.tmp 32) rfl g2 Z rfl rfl 34 Z HS1.out.r2 HSZ.out rfl H1Z.out ?_; intro wz HWz; try simp only [Act.put, List.setIfInBounds_toArray, List.set_cons_zero, List.set_cons_succ])
      | fail)
    refine bodyPost_ret (v := .tuple #[.agg R, .int .i64 K]) ?_ rfl ⟨rfl, HWz.out.below w.heap.size w HS1.out.below HS1.out.o2⟩
    rw [(HF.out rfl).1, (HF.out rfl).2]
    exact results_row_tmp (p := 2) (q := 3) (ty := 34) rfl _ _ g2 34 Z (0, 0) _ rfl HWz.out.row Try.underlying34 rfl HSZ.out
  go_wp2_with fail
  refine (I2.out _ _ _ _ _ HS1.out).mono ?_
  rintro e v2 ⟨rfl, hs2⟩
  have HS2 := hidk hs2
  clear hs2 HS1 I2
  cases b2
  · skip
    go_wp2_with (first
      | (show wpList _ _ _ ({ dst := some 32, op := _, type := _, pos := _, after := _, guard := _ } :: _) _ _; refine wpList_build_none rfl 34 rfl Z HBZ.out ?_; try simp only [Act.put, List.setIfInBounds_toArray, List.set_cons_zero, List.set_cons_succ])
      | (refine wpList_set_var rfl 34 (.tmp 2) (.tmp 32) rfl g2 Z rfl rfl 34 Z HS2.out.r2 HSZ.out rfl H1Z.out ?_; intro wz HWz; try simp only [Act.put, List.setIfInBounds_toArray, List.set_cons_zero, List.set_cons_succ])
      | fail)
    refine bodyPost_ret (v := .tuple #[.agg R, .int .i64 K]) ?_ rfl ⟨rfl, HWz.out.below w.heap.size w HS2.out.below HS2.out.o2⟩
    rw [(HF.out rfl).1, (HF.out rfl).2]
    exact results_row_tmp (p := 2) (q := 3) (ty := 34) rfl _ _ g2 34 Z (0, 0) _ rfl HWz.out.row Try.underlying34 rfl HSZ.out
  go_wp2_with fail
  refine (I3.out _ _ _ _ _ HS2.out).mono ?_
  rintro e v3 ⟨rfl, hs3⟩
  have HS3 := hidk hs3
  clear hs3 HS2 I3
  cases b3
  · skip
    go_wp2_with (first
      | (show wpList _ _ _ ({ dst := some 32, op := _, type := _, pos := _, after := _, guard := _ } :: _) _ _; refine wpList_build_none rfl 34 rfl Z HBZ.out ?_; try simp only [Act.put, List.setIfInBounds_toArray, List.set_cons_zero, List.set_cons_succ])
      | (refine wpList_set_var rfl 34 (.tmp 2) (.tmp 32) rfl g2 Z rfl rfl 34 Z HS3.out.r2 HSZ.out rfl H1Z.out ?_; intro wz HWz; try simp only [Act.put, List.setIfInBounds_toArray, List.set_cons_zero, List.set_cons_succ])
      | fail)
    refine bodyPost_ret (v := .tuple #[.agg R, .int .i64 K]) ?_ rfl ⟨rfl, HWz.out.below w.heap.size w HS3.out.below HS3.out.o2⟩
    rw [(HF.out rfl).1, (HF.out rfl).2]
    exact results_row_tmp (p := 2) (q := 3) (ty := 34) rfl _ _ g2 34 Z (0, 0) _ rfl HWz.out.row Try.underlying34 rfl HSZ.out
  go_wp2_with fail
  refine (I4.out _ _ _ _ _ HS3.out).mono ?_
  rintro e v4 ⟨rfl, hs4⟩
  have HS4 := hidk hs4
  clear hs4 HS3 I4
  cases b4
  · skip
    go_wp2_with (first
      | (show wpList _ _ _ ({ dst := some 32, op := _, type := _, pos := _, after := _, guard := _ } :: _) _ _; refine wpList_build_none rfl 34 rfl Z HBZ.out ?_; try simp only [Act.put, List.setIfInBounds_toArray, List.set_cons_zero, List.set_cons_succ])
      | (refine wpList_set_var rfl 34 (.tmp 2) (.tmp 32) rfl g2 Z rfl rfl 34 Z HS4.out.r2 HSZ.out rfl H1Z.out ?_; intro wz HWz; try simp only [Act.put, List.setIfInBounds_toArray, List.set_cons_zero, List.set_cons_succ])
      | fail)
    refine bodyPost_ret (v := .tuple #[.agg R, .int .i64 K]) ?_ rfl ⟨rfl, HWz.out.below w.heap.size w HS4.out.below HS4.out.o2⟩
    rw [(HF.out rfl).1, (HF.out rfl).2]
    exact results_row_tmp (p := 2) (q := 3) (ty := 34) rfl _ _ g2 34 Z (0, 0) _ rfl HWz.out.row Try.underlying34 rfl HSZ.out
  go_wp2_with (first
    | (show wpList _ _ _ ({ dst := some 28, op := _, type := _, pos := _, after := _, guard := _ } :: _) _ _; refine wpList_load_row_w (by rfl) 34 (.tmp 4) rfl g4 rfl 34 C3 (0, 0) _ HS4.out.r4 Try.underlying34 rfl HSC.out ?_; try simp only [Act.put, List.setIfInBounds_toArray, List.set_cons_zero, List.set_cons_succ])
    | fail)
  refine (K1.out _).mono ?_
  rintro e vk ⟨rfl, hbk⟩
  have HSk := hidk (HS4.out.keep hbk)
  clear hbk HS4 K1
  rcases hK with ⟨rfl, rfl⟩ | ⟨rfl, rfl⟩
  · go_wp2_with (first
      | (show wpList _ _ _ ({ dst := some 33, op := _, type := _, pos := _, after := _, guard := _ } :: _) _ _; refine wpList_load_row rfl 34 (.tmp 4) rfl g4 rfl 34 C3 (0, 0) _ HSk.out.r4 Try.underlying34 rfl HSC.out ?_; try simp only [Act.put, List.setIfInBounds_toArray, List.set_cons_zero, List.set_cons_succ])
      | (refine wpList_set_var rfl 34 (.tmp 2) (.tmp 33) rfl g2 C3 rfl rfl 34 Z HSk.out.r2 HSC.out HZC.out H1C.out ?_; intro wz HWz; try simp only [Act.put, List.setIfInBounds_toArray, List.set_cons_zero, List.set_cons_succ])
      | fail)
    refine bodyPost_ret (v := .tuple #[.agg R, .int .i64 K]) ?_ rfl ⟨rfl, HWz.out.below w.heap.size w HSk.out.below HSk.out.o2⟩
    rw [(HT.out rfl).1, (HT.out rfl).2]
    exact results_row_tmp (p := 2) (q := 3) (ty := 34) rfl _ _ g2 34 C3 (0, 0) _ rfl HWz.out.row Try.underlying34 rfl HSC.out
  · skip
    go_wp2_with (first
      | (show wpList _ _ _ ({ dst := some 32, op := _, type := _, pos := _, after := _, guard := _ } :: _) _ _; refine wpList_build_none rfl 34 rfl Z HBZ.out ?_; try simp only [Act.put, List.setIfInBounds_toArray, List.set_cons_zero, List.set_cons_succ])
      | (refine wpList_set_var rfl 34 (.tmp 2) (.tmp 32) rfl g2 Z rfl rfl 34 Z HSk.out.r2 HSZ.out rfl H1Z.out ?_; intro wz HWz; try simp only [Act.put, List.setIfInBounds_toArray, List.set_cons_zero, List.set_cons_succ])
      | fail)
    refine bodyPost_ret (v := .tuple #[.agg R, .int .i64 K]) ?_ rfl ⟨rfl, HWz.out.below w.heap.size w HSk.out.below HSk.out.o2⟩
    rw [(HF.out rfl).1, (HF.out rfl).2]
    exact results_row_tmp (p := 2) (q := 3) (ty := 34) rfl _ _ g2 34 Z (0, 0) _ rfl HWz.out.row Try.underlying34 rfl HSZ.out
end Go.Proofs.Ytjpmmbmhkpgjcaa

/- What entry.Get answers. -/
namespace Go.Proofs.Ytjpmmbmhkpgjcaa
open Go.RowKit Sums Nums
set_option linter.unusedVariables false
set_option linter.unusedSimpArgs false
set_option maxRecDepth 100000
set_option maxHeartbeats 16000000 in
theorem eTakeE_any (n₀ : Nat) (a : Option Addr) (len cap : Nat) (fs : List (Int × ByteArray)) (w : World) (hR : FReads n₀ w a len cap fs) (hn : n₀ ≤ w.heap.size) (hfz : ∀ f ∈ fs, f.2.size ≤ 65536) (X : Array Value) (HX : Hid (X = (ecells (takeE fs)).toArray)) :
    Calls Try.prog 137 #[.slice a len cap] w fun e w' => e = .returned (.agg X) ∧ Below w.heap.size w w' := by
  obtain ⟨Z, HZ, HA, HBZ, HNZ⟩ := noughtsE
  have HSX : Hid ((Try.prog.info? 38).map (·.size) = some X.size) := by show _ = _; rw [sizeE, HX.out]; simp [ecells_length _ (takeE_ok fs)]
  have H1X : Hid (X.all (·.oneCell') = true) := by show _ = _; rw [HX.out]; exact one_cellsE _
  have HZX : Hid (Z.size = X.size) := by show _ = _; rw [HNZ.out, HX.out]; simp [ecells_length _ (takeE_ok fs)]
  have z5 := fdD_le 5 65536 fs hfz
  have z6 := fdD_le 6 65536 fs hfz
  obtain ⟨v1, Hv1⟩ : ∃ v, Hid (v = fdN 1 fs) := ⟨_, hidk rfl⟩
  have N1 : Hid (∀ W, Below w.heap.size w W → Calls Try.prog 114 #[.slice a len cap, .int .i64 1] W fun e w' => e = .returned (.int .i64 v1) ∧ Below W.heap.size W w') := fun W hb => by rw [Hv1.out]; exact eNumber_any n₀ a len cap fs 1 W (hR.below (hb.mono hn)) (Nat.le_trans hn hb.size)
  obtain ⟨v2, Hv2⟩ : ∃ v, Hid (v = fdN 2 fs) := ⟨_, hidk rfl⟩
  have N2 : Hid (∀ W, Below w.heap.size w W → Calls Try.prog 114 #[.slice a len cap, .int .i64 2] W fun e w' => e = .returned (.int .i64 v2) ∧ Below W.heap.size W w') := fun W hb => by rw [Hv2.out]; exact eNumber_any n₀ a len cap fs 2 W (hR.below (hb.mono hn)) (Nat.le_trans hn hb.size)
  obtain ⟨v3, Hv3⟩ : ∃ v, Hid (v = fdN 3 fs) := ⟨_, hidk rfl⟩
  have N3 : Hid (∀ W, Below w.heap.size w W → Calls Try.prog 114 #[.slice a len cap, .int .i64 3] W fun e w' => e = .returned (.int .i64 v3) ∧ Below W.heap.size W w') := fun W hb => by rw [Hv3.out]; exact eNumber_any n₀ a len cap fs 3 W (hR.below (hb.mono hn)) (Nat.le_trans hn hb.size)
  obtain ⟨d4, Hd4⟩ : ∃ v, Hid (v = fdD 4 fs) := ⟨_, hidk rfl⟩
  have N4 : Hid (∀ W, Below w.heap.size w W → Calls Try.prog 126 #[.slice a len cap, .int .i64 4] W fun e w' => e = .returned (.string d4) ∧ Below W.heap.size W w') := fun W hb => by rw [Hd4.out]; exact eData_any n₀ a len cap fs 4 W (hR.below (hb.mono hn)) (Nat.le_trans hn hb.size)
  obtain ⟨d5, Hd5⟩ : ∃ v, Hid (v = fdD 5 fs) := ⟨_, hidk rfl⟩
  have N5 : Hid (∀ W, Below w.heap.size w W → Calls Try.prog 126 #[.slice a len cap, .int .i64 5] W fun e w' => e = .returned (.string d5) ∧ Below W.heap.size W w') := fun W hb => by rw [Hd5.out]; exact eData_any n₀ a len cap fs 5 W (hR.below (hb.mono hn)) (Nat.le_trans hn hb.size)
  obtain ⟨d6, Hd6⟩ : ∃ v, Hid (v = fdD 6 fs) := ⟨_, hidk rfl⟩
  have N6 : Hid (∀ W, Below w.heap.size w W → Calls Try.prog 126 #[.slice a len cap, .int .i64 6] W fun e w' => e = .returned (.string d6) ∧ Below W.heap.size W w') := fun W hb => by rw [Hd6.out]; exact eData_any n₀ a len cap fs 6 W (hR.below (hb.mono hn)) (Nat.le_trans hn hb.size)
  rw [← Hd5.out] at z5
  rw [← Hd6.out] at z6
  have m5 : d5.size ≤ maxLen := by unfold maxLen; omega
  have m6 : d6.size ≤ maxLen := by unfold maxLen; omega
  have ok1 : OkE ⟨v1, v2, v3, d4, zeroS, zeroC⟩ := ⟨rfl, rfl, rfl⟩
  obtain ⟨B, HB, HSB, H1B, HNB⟩ := entry_row ⟨v1, v2, v3, d4, zeroS, zeroC⟩ ok1
  have HZB : Hid (Z.size = B.size) := by show _ = _; rw [HNZ.out, HNB.out]
  have HBO : Hid (Try.prog.built 38 [(0, .int .i64 v1), (1, .int .i64 v2), (2, .int .i64 v3), (3, .string d4)] = some B) := builtE4 v1 v2 v3 d4 B HB
  have hgS := getSO_ok d5.data.toList
  have hgC := getCO_ok d6.data.toList
  obtain ⟨Q, HQ, HSQ, H1Q, HNQ⟩ := sign_row (getSO d5.data.toList) hgS.1 hgS.2
  obtain ⟨C, HC, HSC, H1C, HNC⟩ := claim_row5 (getCO d6.data.toList) hgC
  obtain ⟨e5, He5⟩ : ∃ z, Hid (z = getSE d5.data.toList) := ⟨_, hidk rfl⟩
  obtain ⟨e6, He6⟩ : ∃ z, Hid (z = getCE d6.data.toList) := ⟨_, hidk rfl⟩
  have G5 : Hid (∀ W a c, Reads W a d5.size c d5.data.toList → Calls Try.prog 140 #[.slice a d5.size c] W fun e w' => e = .returned (.tuple #[.agg Q, .int .i64 e5]) ∧ Below W.heap.size W w') := fun W a c h => by rw [He5.out]; exact hGetS_any a d5.size c _ W h (by omega) Q HQ
  have G6 : Hid (∀ W a c, Reads W a d6.size c d6.data.toList → Calls Try.prog 80 #[.slice a d6.size c] W fun e w' => e = .returned (.tuple #[.agg C, .int .i64 e6]) ∧ Below W.heap.size W w') := fun W a c h => by rw [He6.out]; exact eGetC_any a d6.size c _ W h (by omega) C HC
  have ok2 : OkE ⟨v1, v2, v3, d4, getSO d5.data.toList, zeroC⟩ := ⟨hgS.1, hgS.2, rfl⟩
  obtain ⟨B2, HB2, HSB2, H1B2, HNB2⟩ := entry_row ⟨v1, v2, v3, d4, getSO d5.data.toList, zeroC⟩ ok2
  have HE5 : Hid ((B.toList.take 4 ++ Q.toList ++ B.toList.drop (4 + Q.size)).toArray = B2) := by
    show _ = _
    rw [HNQ.out, HB.out, HQ.out, HB2.out]
    exact eset_h ⟨v1, v2, v3, d4, zeroS, zeroC⟩ ok1 _ hgS.1 hgS.2
  have HE6 : Hid ((B2.toList.take 73 ++ C.toList ++ B2.toList.drop (73 + C.size)).toArray = X) := by
    show _ = _
    rw [HNC.out, HB2.out, HC.out, HX.out, show takeE fs = ⟨v1, v2, v3, d4, getSO d5.data.toList, getCO d6.data.toList⟩ by rw [Hv1.out, Hv2.out, Hv3.out, Hd4.out, Hd5.out, Hd6.out]; rfl]
    exact eset_m ⟨v1, v2, v3, d4, getSO d5.data.toList, zeroC⟩ ok2 _ hgC
  have F5 : Hid (4 + Q.size ≤ B.size) := by show _ ≤ _; rw [HNQ.out, HNB.out]; omega
  have F6 : Hid (73 + C.size ≤ B2.size) := by show _ ≤ _; rw [HNC.out, HNB2.out]; omega
  clear hR HX HZ HBZ HNZ HB HQ HC HB2 He5 He6 hgS hgC ok1 ok2 Hv1 Hv2 Hv3 Hd4 Hd5 Hd6 HNQ HNC HNB HNB2 hfz
  go_enter Try.func137, Try.ntmps137
  go_wp2_with (first
    | (show wpList _ _ _ ({ dst := some 2, op := _, type := _, pos := _, after := _, guard := _ } :: _) _ _; refine wpList_new_var rfl 38 rfl Z HA.out ?_; intro g2 w1 HM2; try simp only [Act.put, List.setIfInBounds_toArray, List.set_cons_zero, List.set_cons_succ])
    | fail)
  have h2 : w.heap.size ≤ g2 := Nat.le_of_eq HM2.out.new.symm
  have HBc := hidk HM2.out.below
  have HR2 := hidk HM2.out.row
  clear HM2
  refine (N1.out _ HBc.out).mono ?_
  rintro e w2 ⟨rfl, hb2⟩
  replace HR2 := hidk ((hb2.block _ (heap_lt HR2.out)).trans HR2.out)
  replace HBc := hidk (HBc.out.trans (hb2.mono HBc.out.size))
  clear hb2 N1
  go_wp2_with fail
  refine (N2.out _ HBc.out).mono ?_
  rintro e w3 ⟨rfl, hb3⟩
  replace HR2 := hidk ((hb3.block _ (heap_lt HR2.out)).trans HR2.out)
  replace HBc := hidk (HBc.out.trans (hb3.mono HBc.out.size))
  clear hb3 N2
  go_wp2_with fail
  refine (N3.out _ HBc.out).mono ?_
  rintro e w4 ⟨rfl, hb4⟩
  replace HR2 := hidk ((hb4.block _ (heap_lt HR2.out)).trans HR2.out)
  replace HBc := hidk (HBc.out.trans (hb4.mono HBc.out.size))
  clear hb4 N3
  go_wp2_with fail
  refine (N4.out _ HBc.out).mono ?_
  rintro e w5 ⟨rfl, hb5⟩
  replace HR2 := hidk ((hb5.block _ (heap_lt HR2.out)).trans HR2.out)
  replace HBc := hidk (HBc.out.trans (hb5.mono HBc.out.size))
  clear hb5 N4
  go_wp2_with (first
    | (show wpList _ _ _ ({ dst := some 12, op := _, type := _, pos := _, after := _, guard := _ } :: _) _ _; refine wpList_build_some rfl 38 _ rfl _ rfl B HBO.out ?_; try simp only [Act.put, List.setIfInBounds_toArray, List.set_cons_zero, List.set_cons_succ])
    | (show wpList _ _ _ ({ dst := some 3, op := _, type := _, pos := _, after := _, guard := _ } :: _) _ _; refine wpList_new_var rfl 38 rfl Z HA.out ?_; intro g3 w6 HM3; try simp only [Act.put, List.setIfInBounds_toArray, List.set_cons_zero, List.set_cons_succ])
    | (refine wpList_set_var rfl 38 (.tmp 3) (.tmp 12) rfl g3 B rfl rfl 38 Z HM3.out.row HSB.out HZB.out H1B.out ?_; intro w7 HW3; try simp only [Act.put, List.setIfInBounds_toArray, List.set_cons_zero, List.set_cons_succ])
    | fail)
  have g23 : g2 < g3 := by rw [HM3.out.new]; exact heap_lt HR2.out
  replace HR2 := hidk ((HW3.out.other g2 (by omega)).trans ((HM3.out.below.block _ (heap_lt HR2.out)).trans HR2.out))
  have HR3 := hidk HW3.out.row
  replace HBc := hidk (HW3.out.below _ _ (HBc.out.trans (HM3.out.below.mono HBc.out.size)) (by omega))
  clear HM3 HW3
  refine (N5.out _ HBc.out).mono ?_
  rintro e w8 ⟨rfl, hb8⟩
  replace HR2 := hidk ((hb8.block _ (heap_lt HR2.out)).trans HR2.out)
  replace HR3 := hidk ((hb8.block _ (heap_lt HR3.out)).trans HR3.out)
  replace HBc := hidk (HBc.out.trans (hb8.mono HBc.out.size))
  clear hb8 N5
  go_wp2_with (first
    | (show wpList _ _ _ ({ dst := some 16, op := _, type := _, pos := _, after := _, guard := _ } :: _) _ _; refine wpList_conv_text rfl 9 61 5 (.tmp 15) rfl d5 rfl Try.underlying9 Try.underlying61 Try.underlying5 m5 ?_; intro ax5 cx5 wx5 HV5; try simp only [Act.put, List.setIfInBounds_toArray, List.set_cons_zero, List.set_cons_succ])
    | fail)
  replace HR2 := hidk ((HV5.out.2.block _ (heap_lt HR2.out)).trans HR2.out)
  replace HR3 := hidk ((HV5.out.2.block _ (heap_lt HR3.out)).trans HR3.out)
  replace HBc := hidk (HBc.out.trans (HV5.out.2.mono HBc.out.size))
  refine (G5.out _ _ _ HV5.out.1).mono ?_
  rintro e wy5 ⟨rfl, hy5⟩
  replace HR2 := hidk ((hy5.block _ (heap_lt HR2.out)).trans HR2.out)
  replace HR3 := hidk ((hy5.block _ (heap_lt HR3.out)).trans HR3.out)
  replace HBc := hidk (HBc.out.trans (hy5.mono HBc.out.size))
  clear hy5 HV5 G5
  go_wp2_with (first
    | (refine wpList_set_mid rfl 34 (.tmp 20) (.tmp 18) rfl g3 4 Q rfl rfl 38 B HR3.out F5.out HSQ.out H1Q.out ?_; intro wz5 HWm; rw [HE5.out] at HWm; replace HR2 := hidk ((HWm.out.other g2 (by omega)).trans HR2.out); replace HR3 := hidk HWm.out.row; replace HBc := hidk (HWm.out.below _ _ HBc.out (by omega)); clear HWm; try simp only [Act.put, List.setIfInBounds_toArray, List.set_cons_zero, List.set_cons_succ])
    | fail)
  refine (N6.out _ HBc.out).mono ?_
  rintro e w9 ⟨rfl, hb9⟩
  replace HR2 := hidk ((hb9.block _ (heap_lt HR2.out)).trans HR2.out)
  replace HR3 := hidk ((hb9.block _ (heap_lt HR3.out)).trans HR3.out)
  replace HBc := hidk (HBc.out.trans (hb9.mono HBc.out.size))
  clear hb9 N6
  go_wp2_with (first
    | (show wpList _ _ _ ({ dst := some 24, op := _, type := _, pos := _, after := _, guard := _ } :: _) _ _; refine wpList_conv_text rfl 9 61 5 (.tmp 23) rfl d6 rfl Try.underlying9 Try.underlying61 Try.underlying5 m6 ?_; intro ax6 cx6 wx6 HV6; try simp only [Act.put, List.setIfInBounds_toArray, List.set_cons_zero, List.set_cons_succ])
    | fail)
  replace HR2 := hidk ((HV6.out.2.block _ (heap_lt HR2.out)).trans HR2.out)
  replace HR3 := hidk ((HV6.out.2.block _ (heap_lt HR3.out)).trans HR3.out)
  replace HBc := hidk (HBc.out.trans (HV6.out.2.mono HBc.out.size))
  refine (G6.out _ _ _ HV6.out.1).mono ?_
  rintro e wy6 ⟨rfl, hy6⟩
  replace HR2 := hidk ((hy6.block _ (heap_lt HR2.out)).trans HR2.out)
  replace HR3 := hidk ((hy6.block _ (heap_lt HR3.out)).trans HR3.out)
  replace HBc := hidk (HBc.out.trans (hy6.mono HBc.out.size))
  clear hy6 HV6 G6
  go_wp2_with (first
    | (refine wpList_set_mid rfl 36 (.tmp 28) (.tmp 26) rfl g3 73 C rfl rfl 38 B2 HR3.out F6.out HSC.out H1C.out ?_; intro wz6 HWm; rw [HE6.out] at HWm; replace HR2 := hidk ((HWm.out.other g2 (by omega)).trans HR2.out); replace HR3 := hidk HWm.out.row; replace HBc := hidk (HWm.out.below _ _ HBc.out (by omega)); clear HWm; try simp only [Act.put, List.setIfInBounds_toArray, List.set_cons_zero, List.set_cons_succ])
    | (show wpList _ _ _ ({ dst := some 29, op := _, type := _, pos := _, after := _, guard := _ } :: _) _ _; refine wpList_load_row rfl 38 (.tmp 3) rfl g3 rfl 38 X (0, 0) _ HR3.out Try.underlying38 rfl HSX.out ?_; try simp only [Act.put, List.setIfInBounds_toArray, List.set_cons_zero, List.set_cons_succ])
    | (refine wpList_set_var rfl 38 (.tmp 2) (.tmp 29) rfl g2 X rfl rfl 38 Z HR2.out HSX.out HZX.out H1X.out ?_; intro wl HW2; try simp only [Act.put, List.setIfInBounds_toArray, List.set_cons_zero, List.set_cons_succ])
    | fail)
  refine bodyPost_ret (v := .agg X) ?_ rfl ⟨rfl, HW2.out.below _ _ HBc.out h2⟩
  exact results_cell_row (p := 2) (ty := 38) rfl _ _ g2 38 X (0, 0) _ rfl HW2.out.row Try.underlying38 rfl HSX.out
set_option maxHeartbeats 8000000 in
theorem eReadE_any (a : Option Addr) (len cap : Nat) (bs : List UInt8) (w : World) (hR : Reads w a len cap bs) (hl : len ≤ 1000000) (R : Array Value) (HR : Hid (R = (ecells (getEO bs)).toArray)) :
    Calls Try.prog 136 #[.slice a len cap, .func (.func 137) #[] #[], .func (.func 91) #[] #[]] w fun e w' => e = .returned (.tuple #[.agg R, .int .i64 (getEE bs)]) ∧ Below w.heap.size w w' := by
  have hnot : ∀ (x : Bool) (w : World), (Op.unary .not (.bool x)).run Try.prog w = .ok (.bool (!x)) w := fun _ _ => rfl
  obtain ⟨Z, HZ, HA, HBZ, HNZ⟩ := noughtsE
  obtain ⟨fs, hfs⟩ : ∃ f, f = readF bs := ⟨_, rfl⟩
  have hfz : ∀ f ∈ fs, f.2.size ≤ 65536 := by rw [hfs]; exact readF_65 bs
  obtain ⟨x, hx⟩ : ∃ x, x = takeE fs := ⟨_, rfl⟩
  have hok : OkE x := by rw [hx]; exact takeE_ok fs
  have hin : InE x := by rw [hx]; exact takeE_in fs hfz
  obtain ⟨X, HX, HSX, H1X, HNX⟩ := entry_row x hok
  have HZX : Hid (Z.size = X.size) := by show _ = _; rw [HNZ.out, HNX.out]
  have HSZ : Hid ((Try.prog.info? 38).map (·.size) = some Z.size) := by show _ = _; rw [sizeE, HNZ.out]
  have H1Z : Hid (Z.all (·.oneCell') = true) := by show _ = _; rw [HZ.out]; exact one_cellsE _
  obtain ⟨L, hL⟩ : ∃ L, L = eB x := ⟨_, rfl⟩
  obtain ⟨E, hE⟩ : ∃ E, E = eE x := ⟨_, rfl⟩
  obtain ⟨q, hq⟩ : ∃ q : Bool, q = true ↔ L = bs := by
    by_cases h : L = bs
    · exact ⟨true, by simp [h]⟩
    · exact ⟨false, by simp [h]⟩
  obtain ⟨K, hK⟩ : ∃ K, K = getEE bs := ⟨_, rfl⟩
  have hE2 : E = 0 ∧ rightE x = true ∨ E = 60 ∧ rightE x = false := by rw [hE]; exact eE_two x
  have HT : Hid (E = 0 → q = true → R = X ∧ K = 0) := fun h0 hqt => by
    have hr : rightE x = true := by
      rcases hE2 with h | h
      · exact h.2
      · omega
    have hb : entryB x = bs := by
      have := hq.1 hqt
      rw [hL] at this
      unfold eB at this
      rw [if_pos hr] at this
      exact this
    have hh := getEO_yes (bs := bs) (by rw [← hfs, ← hx]; exact ⟨hr, hb⟩)
    rw [HR.out, HX.out, hK, hh.1, hh.2, ← hfs, ← hx]
    exact ⟨rfl, rfl⟩
  have HF : Hid (E = 60 ∨ q = false → R = Z ∧ K = 60) := fun h0 => by
    have hh := getEO_no (bs := bs) (by
      rw [← hfs, ← hx]
      rintro ⟨hr, hb⟩
      rcases h0 with h0 | h0
      · rcases hE2 with h | h
        · omega
        · rw [hr] at h; cases h.2
      · have : q = true := hq.2 (by rw [hL]; unfold eB; rw [if_pos hr]; exact hb)
        rw [h0] at this; cases this)
    rw [HR.out, HZ.out, hK, hh.1, hh.2]
    exact ⟨rfl, rfl⟩
  rw [← hK]
  have HRD : Hid (∀ W, Below w.heap.size w W → Reads W a len cap bs) := fun W hb => hR.below hb
  obtain ⟨ke, hke⟩ : ∃ k : Nat, k = readE bs := ⟨_, rfl⟩
  have R1 : Hid (∀ W, Below w.heap.size w W → Calls Try.prog 112 #[.slice a len cap] W fun e W' => ∃ a' c', e = .returned (.tuple #[.slice a' fs.length c', .int .i64 ke]) ∧ FReads W'.heap.size W' a' fs.length c' fs ∧ Below W.heap.size W W') := fun W hb => read_reads a len cap bs W (hR.below hb) hl hke.symm hfs.symm
  have T1 : Hid (∀ W a' c', FReads W.heap.size W a' fs.length c' fs → Calls Try.prog 137 #[.slice a' fs.length c'] W fun e w' => e = .returned (.agg X) ∧ Below W.heap.size W w') := fun W a' c' h => eTakeE_any W.heap.size a' fs.length c' fs W h (Nat.le_refl _) hfz X (by rw [← hx]; exact HX)
  have P1 : Hid (∀ W, Calls Try.prog 91 #[.agg X] W fun e w' => (∃ a' c', e = .returned (.tuple #[.slice a' L.length c', .int .i64 E]) ∧ Reads w' a' L.length c' L) ∧ Below W.heap.size W w') := fun W => by
    rw [hL, hE]
    exact ePutE_any x hin W X HX
  have Q1 : Hid (∀ W a' c', Reads W a' L.length c' L → Reads W a len cap bs → Calls Try.prog 113 #[.slice a' L.length c', .slice a len cap] W fun e w' => e = .returned (.bool q) ∧ w' = W) := fun W a' c' h1 h2 => eSame_any a' a L.length c' len cap L bs W h1 h2 q hq
  have hE3 : E = 0 ∨ E = 60 := by omega
  clear hR HR hfs hfz hx hok hin HX HZ HBZ HNZ HNX hL hE hq hK hE2 hke
  rcases hE3 with rfl | rfl
  all_goals
    cases q
    all_goals
      first
        | have HQ : Hid (R = Z ∧ K = 60) := HF.out (.inl rfl)
        | have HQ : Hid (R = Z ∧ K = 60) := HF.out (.inr rfl)
        | have HQ : Hid (R = X ∧ K = 0) := HT.out rfl rfl
      clear HF HT
      go_enter Try.func136, Try.ntmps136
      go_wp2_with (first
        | (show wpList _ _ _ ({ dst := some 6, op := _, type := _, pos := _, after := _, guard := _ } :: _) _ _; refine wpList_new_var rfl 38 rfl Z HA.out ?_; intro g6 w1 HM6; try simp only [Act.put, List.setIfInBounds_toArray, List.set_cons_zero, List.set_cons_succ])
        | (show wpList _ _ _ ({ dst := some 8, op := _, type := _, pos := _, after := _, guard := _ } :: _) _ _; refine wpList_new_var rfl 38 rfl Z HA.out ?_; intro g8 w2 HM8; try simp only [Act.put, List.setIfInBounds_toArray, List.set_cons_zero, List.set_cons_succ])
        | fail)
      have h6 : w.heap.size ≤ g6 := Nat.le_of_eq HM6.out.new.symm
      have h8 : g6 < g8 := by have e1 := HM8.out.new; have := heap_lt HM6.out.row; omega
      have HB2 : Hid (Below w.heap.size w w2) := HM6.out.below.trans (HM8.out.below.mono HM6.out.below.size)
      have HR6 := hidk ((HM8.out.below.block _ (heap_lt HM6.out.row)).trans HM6.out.row)
      have HR8 := hidk HM8.out.row
      clear HM6 HM8
      refine (R1.out w2 HB2.out).mono ?_
      rintro e w3 ⟨a3, c3, rfl, hf3, hb3⟩
      have HF3 := hidk hf3
      have HB3 := hidk (HB2.out.trans (hb3.mono HB2.out.size))
      replace HR6 := hidk ((hb3.block _ (heap_lt HR6.out)).trans HR6.out)
      replace HR8 := hidk ((hb3.block _ (heap_lt HR8.out)).trans HR8.out)
      clear hf3 hb3 HB2 R1
      go_wp2_with fail
      refine (T1.out w3 a3 c3 HF3.out).mono ?_
      rintro e w4 ⟨rfl, hb4⟩
      have HB4 := hidk (HB3.out.trans (hb4.mono HB3.out.size))
      replace HR6 := hidk ((hb4.block _ (heap_lt HR6.out)).trans HR6.out)
      replace HR8 := hidk ((hb4.block _ (heap_lt HR8.out)).trans HR8.out)
      clear hb4 HB3 HF3 T1
      go_wp2_with (first
        | (show wpList _ _ _ ({ dst := some 11, op := _, type := _, pos := _, after := _, guard := _ } :: _) _ _; refine wpList_new_var rfl 38 rfl Z HA.out ?_; intro g11 w5 HM11; try simp only [Act.put, List.setIfInBounds_toArray, List.set_cons_zero, List.set_cons_succ])
        | (refine wpList_set_var rfl 38 (.tmp 11) (.tmp 21) rfl g11 X rfl rfl 38 Z HM11.out.row HSX.out HZX.out H1X.out ?_; intro w6 HW11; try simp only [Act.put, List.setIfInBounds_toArray, List.set_cons_zero, List.set_cons_succ])
        | (show wpList _ _ _ ({ dst := some 24, op := _, type := _, pos := _, after := _, guard := _ } :: _) _ _; refine wpList_load_row rfl 38 (.tmp 11) rfl g11 rfl 38 X (0, 0) _ HW11.out.row Try.underlying38 rfl HSX.out ?_; try simp only [Act.put, List.setIfInBounds_toArray, List.set_cons_zero, List.set_cons_succ])
        | fail)
      have h11 : w4.heap.size ≤ g11 := Nat.le_of_eq HM11.out.new.symm
      have g68 := heap_lt HR8.out
      have HB6 := hidk (HW11.out.below _ _ (HB4.out.trans (HM11.out.below.mono HB4.out.size)) (Nat.le_trans HB4.out.size h11))
      replace HR6 := hidk ((HW11.out.other _ (by omega)).trans ((HM11.out.below.block _ (heap_lt HR6.out)).trans HR6.out))
      replace HR8 := hidk ((HW11.out.other _ (by omega)).trans ((HM11.out.below.block _ (heap_lt HR8.out)).trans HR8.out))
      have HR11 := hidk HW11.out.row
      clear HM11 HW11 HB4
      refine (P1.out w6).mono ?_
      rintro e w7 ⟨⟨a7, c7, rfl, hr7⟩, hb7⟩
      have HL7 := hidk hr7
      have HB7 := hidk (HB6.out.trans (hb7.mono HB6.out.size))
      replace HR6 := hidk ((hb7.block _ (heap_lt HR6.out)).trans HR6.out)
      replace HR8 := hidk ((hb7.block _ (heap_lt HR8.out)).trans HR8.out)
      replace HR11 := hidk ((hb7.block _ (heap_lt HR11.out)).trans HR11.out)
      have HRB := hidk (HRD.out w7 HB7.out)
      clear hr7 hb7 HB6 P1 HRD
      go_wp2_with (first
        | (show wpList _ _ _ ({ dst := some 36, op := _, type := _, pos := _, after := _, guard := _ } :: _) _ _; refine wpList_load_row rfl 38 (.tmp 8) rfl g8 rfl 38 Z (0, 0) _ HR8.out Try.underlying38 rfl HSZ.out ?_; try simp only [Act.put, List.setIfInBounds_toArray, List.set_cons_zero, List.set_cons_succ])
        | (refine wpList_set_var rfl 38 (.tmp 6) (.tmp 36) rfl g6 Z rfl rfl 38 Z HR6.out HSZ.out rfl H1Z.out ?_; intro wz HW6; try simp only [Act.put, List.setIfInBounds_toArray, List.set_cons_zero, List.set_cons_succ])
        | fail)
      first
        | (obtain ⟨rfl, rfl⟩ := HQ.out
           refine bodyPost_ret (v := .tuple #[.agg R, .int .i64 60]) ?_ rfl ⟨rfl, HW6.out.below _ _ HB7.out h6⟩
           exact results_row_tmp (p := 6) (q := 7) (ty := 38) rfl _ _ g6 38 R (0, 0) _ rfl HW6.out.row Try.underlying38 rfl HSZ.out)
        | (refine (Q1.out _ _ _ HL7.out HRB.out).mono ?_
           rintro e w8 ⟨rfl, rfl⟩
           go_wp2_with (first
             | (show wpList _ _ _ ({ dst := some 36, op := _, type := _, pos := _, after := _, guard := _ } :: _) _ _; refine wpList_load_row rfl 38 (.tmp 8) rfl g8 rfl 38 Z (0, 0) _ HR8.out Try.underlying38 rfl HSZ.out ?_; try simp only [Act.put, List.setIfInBounds_toArray, List.set_cons_zero, List.set_cons_succ])
             | (show wpList _ _ _ ({ dst := some 37, op := _, type := _, pos := _, after := _, guard := _ } :: _) _ _; refine wpList_load_row rfl 38 (.tmp 11) rfl g11 rfl 38 X (0, 0) _ HR11.out Try.underlying38 rfl HSX.out ?_; try simp only [Act.put, List.setIfInBounds_toArray, List.set_cons_zero, List.set_cons_succ])
             | (refine wpList_set_var rfl 38 (.tmp 6) (.tmp 36) rfl g6 Z rfl rfl 38 Z HR6.out HSZ.out rfl H1Z.out ?_; intro wz HW6; try simp only [Act.put, List.setIfInBounds_toArray, List.set_cons_zero, List.set_cons_succ])
             | (refine wpList_set_var rfl 38 (.tmp 6) (.tmp 37) rfl g6 X rfl rfl 38 Z HR6.out HSX.out HZX.out H1X.out ?_; intro wz HW6; try simp only [Act.put, List.setIfInBounds_toArray, List.set_cons_zero, List.set_cons_succ])
             | fail)
           first
             | (obtain ⟨rfl, rfl⟩ := HQ.out
                refine bodyPost_ret (v := .tuple #[.agg R, .int .i64 60]) ?_ rfl ⟨rfl, HW6.out.below _ _ HB7.out h6⟩
                exact results_row_tmp (p := 6) (q := 7) (ty := 38) rfl _ _ g6 38 R (0, 0) _ rfl HW6.out.row Try.underlying38 rfl HSZ.out)
             | (obtain ⟨rfl, rfl⟩ := HQ.out
                refine bodyPost_ret (v := .tuple #[.agg R, .int .i64 0]) ?_ rfl ⟨rfl, HW6.out.below _ _ HB7.out h6⟩
                exact results_row_tmp (p := 6) (q := 7) (ty := 38) rfl _ _ g6 38 R (0, 0) _ rfl HW6.out.row Try.underlying38 rfl HSX.out))
set_option maxHeartbeats 2000000 in
theorem eGetE_any (a : Option Addr) (len cap : Nat) (bs : List UInt8) (w : World) (hR : Reads w a len cap bs) (hl : len ≤ 1000000) (R : Array Value) (HR : Hid (R = (ecells (getEO bs)).toArray)) :
    Calls Try.prog 125 #[.slice a len cap] w fun e w' => e = .returned (.tuple #[.agg R, .int .i64 (getEE bs)]) ∧ Below w.heap.size w w' := by
  obtain ⟨Z, HZ, HA, HBZ, HNZ⟩ := noughtsE
  obtain ⟨X, HX, HSX, H1X, HNX⟩ := entry_row (getEO bs) (getEO_okT bs)
  obtain rfl : X = R := by rw [HX.out, HR.out]
  have HZX : Hid (Z.size = X.size) := by show _ = _; rw [HNZ.out, HNX.out]
  obtain ⟨K, hK⟩ : ∃ K, K = getEE bs := ⟨_, rfl⟩
  have R1 : Hid (∀ W, Below w.heap.size w W → Calls Try.prog 136 #[.slice a len cap, .func (.func 137) #[] #[], .func (.func 91) #[] #[]] W fun e w' => e = .returned (.tuple #[.agg X, .int .i64 K]) ∧ Below W.heap.size W w') := fun W hb => by rw [hK]; exact eReadE_any a len cap bs W (hR.below hb) hl X HR
  rw [← hK]
  clear hR HR HX HZ HBZ HNZ HNX hK
  go_enter Try.func125, Try.ntmps125
  go_wp2_with (first
    | (show wpList _ _ _ ({ dst := some 2, op := _, type := _, pos := _, after := _, guard := _ } :: _) _ _; refine wpList_new_var rfl 38 rfl Z HA.out ?_; intro g2 w1 HM2; try simp only [Act.put, List.setIfInBounds_toArray, List.set_cons_zero, List.set_cons_succ])
    | fail)
  have h2 : w.heap.size ≤ g2 := Nat.le_of_eq HM2.out.new.symm
  refine (R1.out w1 HM2.out.below).mono ?_
  rintro e w2 ⟨rfl, hb2⟩
  have HB2 := hidk (HM2.out.below.trans (hb2.mono HM2.out.below.size))
  have HR2 := hidk ((hb2.block _ (heap_lt HM2.out.row)).trans HM2.out.row)
  clear hb2 HM2 R1
  go_wp2_with (first
    | (refine wpList_set_var rfl 38 (.tmp 2) (.tmp 6) rfl g2 X rfl rfl 38 Z HR2.out HSX.out HZX.out H1X.out ?_; intro wz HW2; try simp only [Act.put, List.setIfInBounds_toArray, List.set_cons_zero, List.set_cons_succ])
    | fail)
  refine bodyPost_ret (v := .tuple #[.agg X, .int .i64 K]) ?_ rfl ⟨rfl, HW2.out.below _ _ HB2.out h2⟩
  exact results_row_tmp (p := 2) (q := 3) (ty := 38) rfl _ _ g2 38 X (0, 0) _ rfl HW2.out.row Try.underlying38 rfl HSX.out
end Go.Proofs.Ytjpmmbmhkpgjcaa

/- What entry.PutItem and entry.GetItem answer. -/
namespace Go.Proofs.Ytjpmmbmhkpgjcaa
open Go.RowKit Sums Nums
set_option linter.unusedVariables false
set_option linter.unusedSimpArgs false
set_option maxRecDepth 100000
theorem builtI1 (p : Int) (R : Array Value) (HR : Hid (R = (icells ⟨p, zeroE⟩).toArray)) : Try.prog.built 40 [(0, .int .i64 p)] = some R := by
  have hi := infoI
  cases hq : Try.prog.info? 40 with
  | none => rw [hq] at hi; cases hi
  | some i =>
    rw [hq] at hi
    simp only [Option.map_some, Option.some.injEq, Prod.mk.injEq] at hi
    have h3 : (Try.prog.info? 3).map (·.size) = some 1 := by kernel_rfl
    have hE := sizeE
    cases hq3 : Try.prog.info? 3 with
    | none => rw [hq3] at h3; cases h3
    | some i3 =>
    cases hqE : Try.prog.info? 38 with
    | none => rw [hqE] at hE; cases hE
    | some iE =>
    rw [hq3] at h3
    rw [hqE] at hE
    simp only [Option.map_some, Option.some.injEq] at h3 hE
    unfold Program.built
    simp only [hq, Try.underlying40, hi.1, List.mapM_cons, List.mapM_nil, hq3, hqE, h3, hE, Option.map_some, Option.bind_eq_bind, Option.bind_some, Option.pure_def]
    show Instr.fill _ (icells zeroI).toArray _ = some R
    refine (fill_val _ 0 0 1 (.int .i64 p) #[.int .i64 p] _ [] [.int .i64 0] (ecells zeroE) _ rfl rfl rfl (by simp [icells, zeroI]) rfl rfl).trans ?_
    simp only [Instr.fill, List.append_nil, Option.some.injEq]
    rw [HR.out]
    rfl
theorem iset_e (x : ItT) (ok : OkE x.e) (v : EnT) (hv : OkE v) : ((icells x).take 1 ++ ecells v ++ (icells x).drop (1 + 109)).toArray = (icells ⟨x.p, v⟩).toArray := by
  congr 1
  rw [List.drop_of_length_le (by rw [icells_length x ok]; omega), List.append_nil]
  rfl
set_option maxHeartbeats 8000000 in
theorem eTakeI_any (n₀ : Nat) (a : Option Addr) (len cap : Nat) (fs : List (Int × ByteArray)) (w : World) (hR : FReads n₀ w a len cap fs) (hn : n₀ ≤ w.heap.size) (hfz : ∀ f ∈ fs, f.2.size ≤ 65536) (X : Array Value) (HX : Hid (X = (icells (takeI fs)).toArray)) :
    Calls Try.prog 111 #[.slice a len cap] w fun e w' => e = .returned (.agg X) ∧ Below w.heap.size w w' := by
  obtain ⟨Z, HZ, HA, HBZ, HNZ⟩ := noughtsI
  have HSX : Hid ((Try.prog.info? 40).map (·.size) = some X.size) := by show _ = _; rw [sizeI, HX.out]; simp [icells_length _ (takeI_ok fs)]
  have H1X : Hid (X.all (·.oneCell') = true) := by show _ = _; rw [HX.out]; exact one_cellsI _
  have HZX : Hid (Z.size = X.size) := by show _ = _; rw [HNZ.out, HX.out]; simp [icells_length _ (takeI_ok fs)]
  have z2 := fdD_le 2 65536 fs hfz
  obtain ⟨v1, Hv1⟩ : ∃ v, Hid (v = fdN 1 fs) := ⟨_, hidk rfl⟩
  have N1 : Hid (∀ W, Below w.heap.size w W → Calls Try.prog 114 #[.slice a len cap, .int .i64 1] W fun e w' => e = .returned (.int .i64 v1) ∧ Below W.heap.size W w') := fun W hb => by rw [Hv1.out]; exact eNumber_any n₀ a len cap fs 1 W (hR.below (hb.mono hn)) (Nat.le_trans hn hb.size)
  obtain ⟨d2, Hd2⟩ : ∃ v, Hid (v = fdD 2 fs) := ⟨_, hidk rfl⟩
  have N2 : Hid (∀ W, Below w.heap.size w W → Calls Try.prog 126 #[.slice a len cap, .int .i64 2] W fun e w' => e = .returned (.string d2) ∧ Below W.heap.size W w') := fun W hb => by rw [Hd2.out]; exact eData_any n₀ a len cap fs 2 W (hR.below (hb.mono hn)) (Nat.le_trans hn hb.size)
  rw [← Hd2.out] at z2
  have m2 : d2.size ≤ maxLen := by unfold maxLen; omega
  obtain ⟨B, HB, HSB, H1B, HNB⟩ := item_row ⟨v1, zeroE⟩ zeroE_ok
  have HZB : Hid (Z.size = B.size) := by show _ = _; rw [HNZ.out, HNB.out]
  have HBO : Hid (Try.prog.built 40 [(0, .int .i64 v1)] = some B) := builtI1 v1 B HB
  have hgE := getEO_okT d2.data.toList
  obtain ⟨Q, HQ, HSQ, H1Q, HNQ⟩ := entry_row (getEO d2.data.toList) hgE
  obtain ⟨e2, He2⟩ : ∃ z, Hid (z = getEE d2.data.toList) := ⟨_, hidk rfl⟩
  have G2 : Hid (∀ W a c, Reads W a d2.size c d2.data.toList → Calls Try.prog 125 #[.slice a d2.size c] W fun e w' => e = .returned (.tuple #[.agg Q, .int .i64 e2]) ∧ Below W.heap.size W w') := fun W a c h => by rw [He2.out]; exact eGetE_any a d2.size c _ W h (by omega) Q HQ
  have HE2 : Hid ((B.toList.take 1 ++ Q.toList ++ B.toList.drop (1 + Q.size)).toArray = X) := by
    show _ = _
    rw [HNQ.out, HB.out, HQ.out, HX.out, show takeI fs = ⟨v1, getEO d2.data.toList⟩ by rw [Hv1.out, Hd2.out]; rfl]
    exact iset_e ⟨v1, zeroE⟩ zeroE_ok _ hgE
  have F2 : Hid (1 + Q.size ≤ B.size) := by show _ ≤ _; rw [HNQ.out, HNB.out]; omega
  clear hR HX HZ HBZ HNZ HB HQ He2 hgE Hv1 Hd2 HNQ HNB hfz
  go_enter Try.func111, Try.ntmps111
  go_wp2_with (first
    | (show wpList _ _ _ ({ dst := some 2, op := _, type := _, pos := _, after := _, guard := _ } :: _) _ _; refine wpList_new_var rfl 40 rfl Z HA.out ?_; intro g2 w1 HM2; try simp only [Act.put, List.setIfInBounds_toArray, List.set_cons_zero, List.set_cons_succ])
    | fail)
  have h2 : w.heap.size ≤ g2 := Nat.le_of_eq HM2.out.new.symm
  have HBc := hidk HM2.out.below
  have HR2 := hidk HM2.out.row
  clear HM2
  refine (N1.out _ HBc.out).mono ?_
  rintro e w2 ⟨rfl, hb2⟩
  replace HR2 := hidk ((hb2.block _ (heap_lt HR2.out)).trans HR2.out)
  replace HBc := hidk (HBc.out.trans (hb2.mono HBc.out.size))
  clear hb2 N1
  go_wp2_with (first
    | (show wpList _ _ _ ({ dst := some 6, op := _, type := _, pos := _, after := _, guard := _ } :: _) _ _; refine wpList_build_some rfl 40 _ rfl _ rfl B HBO.out ?_; try simp only [Act.put, List.setIfInBounds_toArray, List.set_cons_zero, List.set_cons_succ])
    | (show wpList _ _ _ ({ dst := some 3, op := _, type := _, pos := _, after := _, guard := _ } :: _) _ _; refine wpList_new_var rfl 40 rfl Z HA.out ?_; intro g3 w6 HM3; try simp only [Act.put, List.setIfInBounds_toArray, List.set_cons_zero, List.set_cons_succ])
    | (refine wpList_set_var rfl 40 (.tmp 3) (.tmp 6) rfl g3 B rfl rfl 40 Z HM3.out.row HSB.out HZB.out H1B.out ?_; intro w7 HW3; try simp only [Act.put, List.setIfInBounds_toArray, List.set_cons_zero, List.set_cons_succ])
    | fail)
  have g23 : g2 < g3 := by rw [HM3.out.new]; exact heap_lt HR2.out
  replace HR2 := hidk ((HW3.out.other g2 (by omega)).trans ((HM3.out.below.block _ (heap_lt HR2.out)).trans HR2.out))
  have HR3 := hidk HW3.out.row
  replace HBc := hidk (HW3.out.below _ _ (HBc.out.trans (HM3.out.below.mono HBc.out.size)) (by omega))
  clear HM3 HW3
  refine (N2.out _ HBc.out).mono ?_
  rintro e w8 ⟨rfl, hb8⟩
  replace HR2 := hidk ((hb8.block _ (heap_lt HR2.out)).trans HR2.out)
  replace HR3 := hidk ((hb8.block _ (heap_lt HR3.out)).trans HR3.out)
  replace HBc := hidk (HBc.out.trans (hb8.mono HBc.out.size))
  clear hb8 N2
  go_wp2_with (first
    | (show wpList _ _ _ ({ dst := some 10, op := _, type := _, pos := _, after := _, guard := _ } :: _) _ _; refine wpList_conv_text rfl 9 61 5 (.tmp 9) rfl d2 rfl Try.underlying9 Try.underlying61 Try.underlying5 m2 ?_; intro ax2 cx2 wx2 HV2; try simp only [Act.put, List.setIfInBounds_toArray, List.set_cons_zero, List.set_cons_succ])
    | fail)
  replace HR2 := hidk ((HV2.out.2.block _ (heap_lt HR2.out)).trans HR2.out)
  replace HR3 := hidk ((HV2.out.2.block _ (heap_lt HR3.out)).trans HR3.out)
  replace HBc := hidk (HBc.out.trans (HV2.out.2.mono HBc.out.size))
  refine (G2.out _ _ _ HV2.out.1).mono ?_
  rintro e wy2 ⟨rfl, hy2⟩
  replace HR2 := hidk ((hy2.block _ (heap_lt HR2.out)).trans HR2.out)
  replace HR3 := hidk ((hy2.block _ (heap_lt HR3.out)).trans HR3.out)
  replace HBc := hidk (HBc.out.trans (hy2.mono HBc.out.size))
  clear hy2 HV2 G2
  go_wp2_with (first
    | (refine wpList_set_mid rfl 38 (.tmp 14) (.tmp 12) rfl g3 1 Q rfl rfl 40 B HR3.out F2.out HSQ.out H1Q.out ?_; intro wz2 HWm; rw [HE2.out] at HWm; replace HR2 := hidk ((HWm.out.other g2 (by omega)).trans HR2.out); replace HR3 := hidk HWm.out.row; replace HBc := hidk (HWm.out.below _ _ HBc.out (by omega)); clear HWm; try simp only [Act.put, List.setIfInBounds_toArray, List.set_cons_zero, List.set_cons_succ])
    | (show wpList _ _ _ ({ dst := some 15, op := _, type := _, pos := _, after := _, guard := _ } :: _) _ _; refine wpList_load_row rfl 40 (.tmp 3) rfl g3 rfl 40 X (0, 0) _ HR3.out Try.underlying40 rfl HSX.out ?_; try simp only [Act.put, List.setIfInBounds_toArray, List.set_cons_zero, List.set_cons_succ])
    | (refine wpList_set_var rfl 40 (.tmp 2) (.tmp 15) rfl g2 X rfl rfl 40 Z HR2.out HSX.out HZX.out H1X.out ?_; intro wl HW2; try simp only [Act.put, List.setIfInBounds_toArray, List.set_cons_zero, List.set_cons_succ])
    | fail)
  refine bodyPost_ret (v := .agg X) ?_ rfl ⟨rfl, HW2.out.below _ _ HBc.out h2⟩
  exact results_cell_row (p := 2) (ty := 40) rfl _ _ g2 40 X (0, 0) _ rfl HW2.out.row Try.underlying40 rfl HSX.out
theorem irow_row {W : World} {g : Nat} {x : ItT} {X : Array Value} (HX : Hid (X = (icells x).toArray)) {t : TypeId} (h : W.heap[g]? = some (.cells X t (0, 0))) : W.cell? ⟨g, 0, none⟩ = some (.int .i64 x.p) ∧ W.rangeAt g 1 (ecells x.e) := by
  constructor
  · rw [cell_of_row W g 0 X t (0, 0) h, HX.out]; rfl
  · intro j v hj
    rw [cell_of_row W g (1 + j) X t (0, 0) h, HX.out]
    have : (icells x)[1 + j]? = some v := by
      unfold icells
      rw [List.getElem?_append_right (by simp)]
      simpa using hj
    simpa using this
set_option maxHeartbeats 8000000 in
theorem ePutI_any (x : ItT) (hin : InI x) (w : World) (X : Array Value) (HX : Hid (X = (icells x).toArray)) :
    Calls Try.prog 75 #[.agg X] w fun e w' => BytesE (iB x) (iE x) e w' ∧ Below w.heap.size w w' := by
  have hnot : ∀ (x : Bool) (w : World), (Op.unary .not (.bool x)).run Try.prog w = .ok (.bool (!x)) w := fun _ _ => rfl
  have ok := hin.e.ok
  have HX0 : Hid ((w.alloc (.cells X 40)).heap[w.heap.size]? = some (.cells X 40 (0, 0))) := heap_alloc_new w _
  have HB : Hid (Below w.heap.size w (w.alloc (.cells X 40))) := (Below.refl _ _).alloc (Nat.le_refl _) _
  obtain ⟨Q, HQ, HSQ, H1Q, HNQ⟩ := entry_row x.e ok
  obtain ⟨k, Hk⟩ : ∃ k, Hid (k = x.p) := ⟨_, hidk rfl⟩
  have KP : Hid (∀ W : World, W.heap[w.heap.size]? = some (.cells X 40 (0, 0)) → W.cell? ⟨w.heap.size, 0, none⟩ = some (.int .i64 k)) := fun W h => by rw [Hk.out]; exact (irow_row HX h).1
  have KQ : Hid (∀ W : World, W.heap[w.heap.size]? = some (.cells X 40 (0, 0)) → W.rangeAt w.heap.size 1 Q.toList) := fun W h => by rw [HQ.out]; exact (irow_row HX h).2
  obtain ⟨l, Hl⟩ : ∃ l, Hid (l = eB x.e) := ⟨_, hidk rfl⟩
  obtain ⟨E, HE⟩ : ∃ l, Hid (l = eE x.e) := ⟨_, hidk rfl⟩
  have P1 : Hid (∀ W, Calls Try.prog 91 #[.agg Q] W fun e w' => (∃ a c, e = .returned (.tuple #[.slice a l.length c, .int .i64 E]) ∧ Reads w' a l.length c l) ∧ Below W.heap.size W w') := fun W => by rw [Hl.out, HE.out]; exact ePutE_any x.e hin.e W Q HQ
  obtain ⟨u, hu⟩ : ∃ u, (decide (1 ≤ k) && decide (k ≤ 900000000)) = u := ⟨_, rfl⟩
  have W1 : Hid (∀ W, Calls Try.prog 85 #[.int .i64 k, .int .i64 1, .int .i64 900000000] W fun e w' => e = .returned (.bool u) ∧ w' = W) := fun W => by rw [← hu]; exact eWithin_any k 1 900000000 W
  obtain ⟨n1, Hn1⟩ : ∃ n, Hid (n = nOf k) := ⟨_, hidk rfl⟩
  obtain ⟨y, Hy⟩ : ∃ y : ByteArray, Hid (y = bA l) := ⟨_, hidk rfl⟩
  have N1 : Hid (∀ W, Calls Try.prog 71 #[.int .i64 1, .int .i64 k] W fun e w' => e = .returned (.agg #[.int .i64 1, .string n1]) ∧ Below W.heap.size W w') := fun W => by rw [Hn1.out]; exact eNum_any 1 k W
  have hri : rightI x = (u && rightE x.e) := by unfold rightI; rw [← hu, Hk.out]
  obtain ⟨L, HL⟩ : ∃ l, Hid (l = iB x) := ⟨_, hidk rfl⟩
  obtain ⟨K, HK⟩ : ∃ l, Hid (l = iE x) := ⟨_, hidk rfl⟩
  have HNO : Hid (u = false ∨ E = 60 → L = [] ∧ K = 60) := fun h => by
    have hr : rightI x = false := by
      rw [hri]
      rcases h with h | h
      · rw [h]; rfl
      · rcases eE_two x.e with h2 | h2
        · rw [HE.out, h2.1] at h; cases h
        · rw [h2.2]; simp
    rw [HL.out, HK.out]
    unfold iB iE
    rw [hr]
    exact ⟨rfl, rfl⟩
  have HYES : Hid (u = true → E = 0 → L = itemB x ∧ K = 0 ∧ rightI x = true ∧ l = entryB x.e) := fun h0 h => by
    have hre : rightE x.e = true := by
      rcases eE_two x.e with h2 | h2
      · exact h2.2
      · rw [HE.out, h2.1] at h; cases h
    have hr : rightI x = true := by rw [hri, h0, hre]; rfl
    rw [HL.out, HK.out, Hl.out]
    unfold iB iE eB
    rw [if_pos hr, if_pos hr, if_pos hre]
    exact ⟨rfl, rfl, hr, rfl⟩
  have LY : Hid (u = true → E = 0 → ∀ W, Calls Try.prog 46 #[.slice (some ⟨W.heap.size, 0, none⟩) 2 2] (W.alloc (.cells #[.int .i64 1, .string n1, .int .i64 2, .string y] 85)) fun e w' => ∃ a c, e = .returned (.tuple #[.slice a L.length c, .int .i64 0]) ∧ Reads w' a L.length c L ∧ Below W.heap.size W w') := fun h0 h W => by
    obtain ⟨e1, _, hr, e4⟩ := HYES.out h0 h
    have hk := layE_iL hr ok
    have hL2 : fieldsN (iL x) = [(1, n1), (2, y)] := by rw [Hn1.out, Hy.out, e4, Hk.out]; rfl
    rw [hL2] at hk
    refine eLay_lit W _ [((1 : Int), n1), (2, y)] 2 L rfl rfl (by omega) (fun z hz => ?_) hk (by rw [e1, ← hL2]; rfl)
    simp only [List.mem_cons, List.not_mem_nil, or_false] at hz
    unfold maxLen
    rcases hz with rfl | rfl
    · have := nOf_size k; rw [← Hn1.out] at this; show n1.size ≤ _; omega
    · have h5 := bA_size l; rw [← Hy.out] at h5; have := eB_length x.e ok; rw [← Hl.out] at this; show y.size ≤ _; omega
  have hE2 : E = 0 ∨ E = 60 := by
    rw [HE.out]
    rcases eE_two x.e with h | h
    · exact .inl h.1
    · exact .inr h.1
  rw [← HL.out, ← HK.out]
  clear HX HQ Hk Hl HE hu Hn1 hri HL HK ok hin H1Q HNQ
  rcases hE2 with rfl | rfl
  · cases u
    · obtain ⟨rfl, rfl⟩ := HNO.out (.inl rfl)
      clear HNO HYES LY N1
      go_enter Try.func75, Try.ntmps75
      go_wp2_with (first
        | (show wpList _ _ _ ({ dst := some 8, op := _, type := _, pos := _, after := _, guard := _ } :: _) _ _; refine wpList_mid rfl 38 (.tmp 7) rfl w.heap.size 1 rfl Q _ (KQ.out _ HX0.out) Try.underlying38 rfl HSQ.out ?_; try simp only [Act.put, List.setIfInBounds_toArray, List.set_cons_zero, List.set_cons_succ])
        | fail)
      refine (P1.out _).mono ?_
      rintro e w1 ⟨⟨a1, c1, rfl, hr1⟩, hb1⟩
      have HB1 := hidk (HB.out.trans (hb1.mono HB.out.size))
      have c0 := KP.out w1 ((hb1.block _ (heap_lt HX0.out)).trans HX0.out)
      clear hb1 hr1
      go_wp2_with fail
      refine (W1.out _).mono ?_
      rintro e w2 ⟨rfl, rfl⟩
      go_wp2
      go_ret2
      exact ⟨eBytes_no _ _, HB1.out⟩
    · obtain rfl : K = 0 := (HYES.out rfl rfl).2.1
      have LY2 := hidk (LY.out rfl rfl)
      clear HNO HYES LY
      go_enter Try.func75, Try.ntmps75
      go_wp2_with (first
        | (show wpList _ _ _ ({ dst := some 8, op := _, type := _, pos := _, after := _, guard := _ } :: _) _ _; refine wpList_mid rfl 38 (.tmp 7) rfl w.heap.size 1 rfl Q _ (KQ.out _ HX0.out) Try.underlying38 rfl HSQ.out ?_; try simp only [Act.put, List.setIfInBounds_toArray, List.set_cons_zero, List.set_cons_succ])
        | fail)
      refine (P1.out _).mono ?_
      rintro e w1 ⟨⟨a1, c1, rfl, hr1⟩, hb1⟩
      have HB1 := hidk (HB.out.trans (hb1.mono HB.out.size))
      have HX1 := hidk ((hb1.block _ (heap_lt HX0.out)).trans HX0.out)
      have c0 := KP.out w1 HX1.out
      have CV : Hid (∀ W, Below w1.heap.size w1 W → Sem.run Try.prog (convert 61 9 (.slice a1 l.length c1)) W = .ok (.string y) W) := fun W h => by rw [Hy.out]; exact conv_reads (hr1.below h)
      clear hb1 hr1
      go_wp2_with fail
      refine (W1.out _).mono ?_
      rintro e w2 ⟨rfl, rfl⟩
      go_wp2
      refine wp_region_held_drew (S := (fun W => W.heap[w.heap.size]? = some (.cells X 40 (0, 0)) ∧ Below w2.heap.size w2 W)) (by kernel_rfl) ⟨HX1.out, (Below.refl _ _).drew⟩ (fun hHeld => ?_)
      refine wpAnyH_take (i := 0) (oi := { dst := some 20, op := Op.fieldAddr 40 (Operand.tmp 1) 0, type := 0, pos := "entry.go:96", after := #[], guard := none }) (v := .pointer (some ⟨w.heap.size, 0, none⟩)) rfl (by kernel_rfl) (by kernel_rfl) (by kernel_rfl) (fun _ _ _ h => h) (Or.inl ⟨by rfl, by intro W hSw; go_simp⟩) hHeld ?_
      try simp only [Act.put, List.setIfInBounds_toArray, List.set_cons_zero, List.set_cons_succ]
      refine wpAnyH_take (i := 1) (oi := { dst := some 21, op := Op.load 3 (Operand.tmp 20), type := 3, pos := "entry.go:96", after := #[{ on := 0, ground := Ground.data }], guard := none }) (v := .int .i64 k) rfl (by kernel_rfl) (by kernel_rfl) (by kernel_rfl) (fun _ _ _ h => h) (Or.inl ⟨by rfl, by intro W hSw; have h1 := KP.out W hSw.1; go_simp⟩) hHeld ?_
      try simp only [Act.put, List.setIfInBounds_toArray, List.set_cons_zero, List.set_cons_succ]
      refine wpAnyH_take (i := 3) (oi := { dst := some 23, op := Op.move (Operand.tmp 4), type := 61, pos := "entry.go:96", after := #[], guard := none }) (v := .slice a1 l.length c1) rfl (by kernel_rfl) (by kernel_rfl) (by kernel_rfl) (fun _ _ _ h => h) (Or.inl ⟨by rfl, by intro W hSw; go_simp⟩) hHeld ?_
      try simp only [Act.put, List.setIfInBounds_toArray, List.set_cons_zero, List.set_cons_succ]
      refine wpAnyH_take (i := 4) (oi := { dst := some 24, op := Op.convert 61 9 (Operand.tmp 23), type := 9, pos := "entry.go:96", after := #[{ on := 3, ground := Ground.data }], guard := none }) (v := .string y) rfl (by kernel_rfl) (by kernel_rfl) (by kernel_rfl) (fun _ _ _ h => h) (Or.inl ⟨by rfl, by intro W hSw; have h1 := CV.out W hSw.2; go_simp⟩) hHeld ?_
      try simp only [Act.put, List.setIfInBounds_toArray, List.set_cons_zero, List.set_cons_succ]
      refine wpAnyH_take (i := 5) (oi := { dst := some 25, op := Op.build 85 #[(0, Operand.const (Value.int IntKind.i64 2)), (1, Operand.tmp 24)], type := 85, pos := "entry.go:96", after := #[{ on := 4, ground := Ground.data }], guard := none }) (v := .agg #[.int .i64 2, .string y]) rfl (by kernel_rfl) (by kernel_rfl) (by kernel_rfl) (fun _ _ _ h => h) (Or.inl ⟨by rfl, by intro W hSw; go_simp⟩) hHeld ?_
      try simp only [Act.put, List.setIfInBounds_toArray, List.set_cons_zero, List.set_cons_succ]
      refine wpAnyH_ready (rs := [2]) (by kernel_rfl) (by simp) ?_
      refine (AllReadyH.cons (o := { dst := some 22, op := Op.call { callee := Callee.value (Operand.func 71), args := #[Operand.const (Value.int IntKind.i64 1), Operand.tmp 21], argTypes := #[3, 3] }, type := 85, pos := "entry.go:97", after := #[{ on := 1, ground := Ground.data }], guard := none }) rfl (fun K hK => ?_) AllReadyH.nil)
      go_simp
      refine (N1.out _).mono ?_
      rintro e w3 ⟨rfl, hb3⟩
      have HBc := hidk (HB1.out.drew.trans (hb3.mono HB1.out.size))
      go_wp2_with fail
      refine hK.out _ _ ⟨(hb3.block _ (heap_lt HX1.out)).trans HX1.out, hHeld.2.trans (hb3.mono hHeld.2.size)⟩ (fun hHeld => ?_)
      clear hK K
      try simp only [Act.put, List.setIfInBounds_toArray, List.set_cons_zero, List.set_cons_succ]
      refine wpAnyH_ready (rs := [6]) (by kernel_rfl) (by simp) ?_
      refine (AllReadyH.cons (o := { dst := some 26, op := Op.buildSlice 88 2 #[(0, Operand.tmp 22), (1, Operand.tmp 25)], type := 88, pos := "entry.go:96", after := #[{ on := 2, ground := Ground.data }, { on := 5, ground := Ground.data }], guard := none }) rfl (fun K hK => ?_) AllReadyH.nil)
      have HHc := hidk hHeld
      go_simp
      refine hK.out _ _ ⟨heap_keep hHeld.1, hHeld.2.alloc hHeld.2.size _⟩ (fun hHeld => ?_)
      clear hK K
      try simp only [Act.put, List.setIfInBounds_toArray, List.set_cons_zero, List.set_cons_succ]
      refine wpAnyH_ready (rs := [7]) (by kernel_rfl) (by simp) ?_
      refine (AllReadyH.cons (o := { dst := some 27, op := Op.call { callee := Callee.value (Operand.func 46), args := #[Operand.tmp 26], argTypes := #[88] }, type := 81, pos := "entry.go:96", after := #[{ on := 6, ground := Ground.data }, { on := 2, ground := Ground.chain }], guard := none }) rfl (fun K hK => ?_) AllReadyH.nil)
      go_simp
      refine (LY2.out _).mono ?_
      rintro e w7 ⟨a7, c7, rfl, hrd, hb7⟩
      have HRD := hidk hrd
      have HBF := hidk (HBc.out.trans (hb7.mono HBc.out.size))
      go_wp2_with fail
      refine hK.out _ _ ⟨(hb7.block _ (heap_lt HHc.out.1)).trans HHc.out.1, HHc.out.2.trans (hb7.mono HHc.out.2.size)⟩ (fun hHeld => ?_)
      clear hK K
      try simp only [Act.put, List.setIfInBounds_toArray, List.set_cons_zero, List.set_cons_succ]
      refine wpAnyH_take (i := 8) (oi := { dst := some 28, op := Op.extract (Operand.tmp 27) 0, type := 61, pos := "entry.go:96", after := #[{ on := 7, ground := Ground.data }], guard := none }) (v := .slice a7 L.length c7) rfl (by kernel_rfl) (by kernel_rfl) (by kernel_rfl) (fun _ _ _ h => h) (Or.inl ⟨by rfl, by intro W hSw; go_simp⟩) hHeld ?_
      try simp only [Act.put, List.setIfInBounds_toArray, List.set_cons_zero, List.set_cons_succ]
      refine wpAnyH_take (i := 9) (oi := { dst := some 29, op := Op.extract (Operand.tmp 27) 1, type := 44, pos := "entry.go:96", after := #[{ on := 7, ground := Ground.data }], guard := none }) (v := .int .i64 0) rfl (by kernel_rfl) (by kernel_rfl) (by kernel_rfl) (fun _ _ _ h => h) (Or.inl ⟨by rfl, by intro W hSw; go_simp⟩) hHeld ?_
      try simp only [Act.put, List.setIfInBounds_toArray, List.set_cons_zero, List.set_cons_succ]
      refine wpAnyH_take (i := 10) (oi := { dst := some 2, op := Op.assign (Operand.tmp 28), type := 61, pos := "entry.go:96", after := #[{ on := 8, ground := Ground.data }, { on := 7, ground := Ground.chain }, { on := 0, ground := Ground.phase }, { on := 1, ground := Ground.phase }, { on := 2, ground := Ground.phase }, { on := 3, ground := Ground.phase }, { on := 4, ground := Ground.phase }, { on := 5, ground := Ground.phase }, { on := 6, ground := Ground.phase }, { on := 7, ground := Ground.phase }, { on := 8, ground := Ground.phase }, { on := 9, ground := Ground.phase }], guard := none }) (v := .slice a7 L.length c7) rfl (by kernel_rfl) (by kernel_rfl) (by kernel_rfl) (fun _ _ _ h => h) (Or.inl ⟨by rfl, by intro W hSw; go_simp⟩) hHeld ?_
      try simp only [Act.put, List.setIfInBounds_toArray, List.set_cons_zero, List.set_cons_succ]
      refine wpAnyH_take (i := 11) (oi := { dst := some 3, op := Op.assign (Operand.tmp 29), type := 44, pos := "entry.go:96", after := #[{ on := 9, ground := Ground.data }, { on := 10, ground := Ground.chain }, { on := 0, ground := Ground.phase }, { on := 1, ground := Ground.phase }, { on := 2, ground := Ground.phase }, { on := 3, ground := Ground.phase }, { on := 4, ground := Ground.phase }, { on := 5, ground := Ground.phase }, { on := 6, ground := Ground.phase }, { on := 7, ground := Ground.phase }, { on := 8, ground := Ground.phase }, { on := 9, ground := Ground.phase }, { on := 10, ground := Ground.phase }], guard := none }) (v := .int .i64 0) rfl (by kernel_rfl) (by kernel_rfl) (by kernel_rfl) (fun _ _ _ h => h) (Or.inl ⟨by rfl, by intro W hSw; go_simp⟩) hHeld ?_
      try simp only [Act.put, List.setIfInBounds_toArray, List.set_cons_zero, List.set_cons_succ]
      refine wpAnyH_done (by kernel_rfl) ?_ _
      go_wp2
      go_ret2
      exact ⟨⟨_, _, rfl, HRD.out⟩, HBF.out⟩
  · obtain ⟨rfl, rfl⟩ := HNO.out (.inr rfl)
    clear HNO HYES LY N1
    go_enter Try.func75, Try.ntmps75
    go_wp2_with (first
      | (show wpList _ _ _ ({ dst := some 8, op := _, type := _, pos := _, after := _, guard := _ } :: _) _ _; refine wpList_mid rfl 38 (.tmp 7) rfl w.heap.size 1 rfl Q _ (KQ.out _ HX0.out) Try.underlying38 rfl HSQ.out ?_; try simp only [Act.put, List.setIfInBounds_toArray, List.set_cons_zero, List.set_cons_succ])
      | fail)
    refine (P1.out _).mono ?_
    rintro e w1 ⟨⟨a1, c1, rfl, hr1⟩, hb1⟩
    have HB1 := hidk (HB.out.trans (hb1.mono HB.out.size))
    clear hb1 hr1
    go_wp2
    go_ret2
    exact ⟨eBytes_no _ _, HB1.out⟩
set_option maxHeartbeats 8000000 in
theorem eReadI_any (a : Option Addr) (len cap : Nat) (bs : List UInt8) (w : World) (hR : Reads w a len cap bs) (hl : len ≤ 1000000) (R : Array Value) (HR : Hid (R = (icells (getIO bs)).toArray)) :
    Calls Try.prog 110 #[.slice a len cap, .func (.func 111) #[] #[], .func (.func 75) #[] #[]] w fun e w' => e = .returned (.tuple #[.agg R, .int .i64 (getIE bs)]) ∧ Below w.heap.size w w' := by
  have hnot : ∀ (x : Bool) (w : World), (Op.unary .not (.bool x)).run Try.prog w = .ok (.bool (!x)) w := fun _ _ => rfl
  obtain ⟨Z, HZ, HA, HBZ, HNZ⟩ := noughtsI
  obtain ⟨fs, hfs⟩ : ∃ f, f = readF bs := ⟨_, rfl⟩
  have hfz : ∀ f ∈ fs, f.2.size ≤ 65536 := by rw [hfs]; exact readF_65 bs
  obtain ⟨x, hx⟩ : ∃ x, x = takeI fs := ⟨_, rfl⟩
  have hok : OkE x.e := by rw [hx]; exact takeI_ok fs
  have hin : InI x := by rw [hx]; exact takeI_in fs
  obtain ⟨X, HX, HSX, H1X, HNX⟩ := item_row x hok
  have HZX : Hid (Z.size = X.size) := by show _ = _; rw [HNZ.out, HNX.out]
  have HSZ : Hid ((Try.prog.info? 40).map (·.size) = some Z.size) := by show _ = _; rw [sizeI, HNZ.out]
  have H1Z : Hid (Z.all (·.oneCell') = true) := by show _ = _; rw [HZ.out]; exact one_cellsI _
  obtain ⟨L, hL⟩ : ∃ L, L = iB x := ⟨_, rfl⟩
  obtain ⟨E, hE⟩ : ∃ E, E = iE x := ⟨_, rfl⟩
  obtain ⟨q, hq⟩ : ∃ q : Bool, q = true ↔ L = bs := by
    by_cases h : L = bs
    · exact ⟨true, by simp [h]⟩
    · exact ⟨false, by simp [h]⟩
  obtain ⟨K, hK⟩ : ∃ K, K = getIE bs := ⟨_, rfl⟩
  have hE2 : E = 0 ∧ rightI x = true ∨ E = 60 ∧ rightI x = false := by rw [hE]; exact iE_two x
  have HT : Hid (E = 0 → q = true → R = X ∧ K = 0) := fun h0 hqt => by
    have hr : rightI x = true := by
      rcases hE2 with h | h
      · exact h.2
      · omega
    have hb : itemB x = bs := by
      have := hq.1 hqt
      rw [hL] at this
      unfold iB at this
      rw [if_pos hr] at this
      exact this
    have hh := getIO_yes (bs := bs) (by rw [← hfs, ← hx]; exact ⟨hr, hb⟩)
    rw [HR.out, HX.out, hK, hh.1, hh.2, ← hfs, ← hx]
    exact ⟨rfl, rfl⟩
  have HF : Hid (E = 60 ∨ q = false → R = Z ∧ K = 60) := fun h0 => by
    have hh := getIO_no (bs := bs) (by
      rw [← hfs, ← hx]
      rintro ⟨hr, hb⟩
      rcases h0 with h0 | h0
      · rcases hE2 with h | h
        · omega
        · rw [hr] at h; cases h.2
      · have : q = true := hq.2 (by rw [hL]; unfold iB; rw [if_pos hr]; exact hb)
        rw [h0] at this; cases this)
    rw [HR.out, HZ.out, hK, hh.1, hh.2]
    exact ⟨rfl, rfl⟩
  rw [← hK]
  have HRD : Hid (∀ W, Below w.heap.size w W → Reads W a len cap bs) := fun W hb => hR.below hb
  obtain ⟨ke, hke⟩ : ∃ k : Nat, k = readE bs := ⟨_, rfl⟩
  have R1 : Hid (∀ W, Below w.heap.size w W → Calls Try.prog 112 #[.slice a len cap] W fun e W' => ∃ a' c', e = .returned (.tuple #[.slice a' fs.length c', .int .i64 ke]) ∧ FReads W'.heap.size W' a' fs.length c' fs ∧ Below W.heap.size W W') := fun W hb => read_reads a len cap bs W (hR.below hb) hl hke.symm hfs.symm
  have T1 : Hid (∀ W a' c', FReads W.heap.size W a' fs.length c' fs → Calls Try.prog 111 #[.slice a' fs.length c'] W fun e w' => e = .returned (.agg X) ∧ Below W.heap.size W w') := fun W a' c' h => eTakeI_any W.heap.size a' fs.length c' fs W h (Nat.le_refl _) hfz X (by rw [← hx]; exact HX)
  have P1 : Hid (∀ W, Calls Try.prog 75 #[.agg X] W fun e w' => (∃ a' c', e = .returned (.tuple #[.slice a' L.length c', .int .i64 E]) ∧ Reads w' a' L.length c' L) ∧ Below W.heap.size W w') := fun W => by
    rw [hL, hE]
    exact ePutI_any x hin W X HX
  have Q1 : Hid (∀ W a' c', Reads W a' L.length c' L → Reads W a len cap bs → Calls Try.prog 113 #[.slice a' L.length c', .slice a len cap] W fun e w' => e = .returned (.bool q) ∧ w' = W) := fun W a' c' h1 h2 => eSame_any a' a L.length c' len cap L bs W h1 h2 q hq
  have hE3 : E = 0 ∨ E = 60 := by omega
  clear hR HR hfs hfz hx hok hin HX HZ HBZ HNZ HNX hL hE hq hK hE2 hke
  rcases hE3 with rfl | rfl
  all_goals
    cases q
    all_goals
      first
        | have HQ : Hid (R = Z ∧ K = 60) := HF.out (.inl rfl)
        | have HQ : Hid (R = Z ∧ K = 60) := HF.out (.inr rfl)
        | have HQ : Hid (R = X ∧ K = 0) := HT.out rfl rfl
      clear HF HT
      go_enter Try.func110, Try.ntmps110
      go_wp2_with (first
        | (show wpList _ _ _ ({ dst := some 6, op := _, type := _, pos := _, after := _, guard := _ } :: _) _ _; refine wpList_new_var rfl 40 rfl Z HA.out ?_; intro g6 w1 HM6; try simp only [Act.put, List.setIfInBounds_toArray, List.set_cons_zero, List.set_cons_succ])
        | (show wpList _ _ _ ({ dst := some 8, op := _, type := _, pos := _, after := _, guard := _ } :: _) _ _; refine wpList_new_var rfl 40 rfl Z HA.out ?_; intro g8 w2 HM8; try simp only [Act.put, List.setIfInBounds_toArray, List.set_cons_zero, List.set_cons_succ])
        | fail)
      have h6 : w.heap.size ≤ g6 := Nat.le_of_eq HM6.out.new.symm
      have h8 : g6 < g8 := by have e1 := HM8.out.new; have := heap_lt HM6.out.row; omega
      have HB2 : Hid (Below w.heap.size w w2) := HM6.out.below.trans (HM8.out.below.mono HM6.out.below.size)
      have HR6 := hidk ((HM8.out.below.block _ (heap_lt HM6.out.row)).trans HM6.out.row)
      have HR8 := hidk HM8.out.row
      clear HM6 HM8
      refine (R1.out w2 HB2.out).mono ?_
      rintro e w3 ⟨a3, c3, rfl, hf3, hb3⟩
      have HF3 := hidk hf3
      have HB3 := hidk (HB2.out.trans (hb3.mono HB2.out.size))
      replace HR6 := hidk ((hb3.block _ (heap_lt HR6.out)).trans HR6.out)
      replace HR8 := hidk ((hb3.block _ (heap_lt HR8.out)).trans HR8.out)
      clear hf3 hb3 HB2 R1
      go_wp2_with fail
      refine (T1.out w3 a3 c3 HF3.out).mono ?_
      rintro e w4 ⟨rfl, hb4⟩
      have HB4 := hidk (HB3.out.trans (hb4.mono HB3.out.size))
      replace HR6 := hidk ((hb4.block _ (heap_lt HR6.out)).trans HR6.out)
      replace HR8 := hidk ((hb4.block _ (heap_lt HR8.out)).trans HR8.out)
      clear hb4 HB3 HF3 T1
      go_wp2_with (first
        | (show wpList _ _ _ ({ dst := some 11, op := _, type := _, pos := _, after := _, guard := _ } :: _) _ _; refine wpList_new_var rfl 40 rfl Z HA.out ?_; intro g11 w5 HM11; try simp only [Act.put, List.setIfInBounds_toArray, List.set_cons_zero, List.set_cons_succ])
        | (refine wpList_set_var rfl 40 (.tmp 11) (.tmp 21) rfl g11 X rfl rfl 40 Z HM11.out.row HSX.out HZX.out H1X.out ?_; intro w6 HW11; try simp only [Act.put, List.setIfInBounds_toArray, List.set_cons_zero, List.set_cons_succ])
        | (show wpList _ _ _ ({ dst := some 24, op := _, type := _, pos := _, after := _, guard := _ } :: _) _ _; refine wpList_load_row rfl 40 (.tmp 11) rfl g11 rfl 40 X (0, 0) _ HW11.out.row Try.underlying40 rfl HSX.out ?_; try simp only [Act.put, List.setIfInBounds_toArray, List.set_cons_zero, List.set_cons_succ])
        | fail)
      have h11 : w4.heap.size ≤ g11 := Nat.le_of_eq HM11.out.new.symm
      have g68 := heap_lt HR8.out
      have HB6 := hidk (HW11.out.below _ _ (HB4.out.trans (HM11.out.below.mono HB4.out.size)) (Nat.le_trans HB4.out.size h11))
      replace HR6 := hidk ((HW11.out.other _ (by omega)).trans ((HM11.out.below.block _ (heap_lt HR6.out)).trans HR6.out))
      replace HR8 := hidk ((HW11.out.other _ (by omega)).trans ((HM11.out.below.block _ (heap_lt HR8.out)).trans HR8.out))
      have HR11 := hidk HW11.out.row
      clear HM11 HW11 HB4
      refine (P1.out w6).mono ?_
      rintro e w7 ⟨⟨a7, c7, rfl, hr7⟩, hb7⟩
      have HL7 := hidk hr7
      have HB7 := hidk (HB6.out.trans (hb7.mono HB6.out.size))
      replace HR6 := hidk ((hb7.block _ (heap_lt HR6.out)).trans HR6.out)
      replace HR8 := hidk ((hb7.block _ (heap_lt HR8.out)).trans HR8.out)
      replace HR11 := hidk ((hb7.block _ (heap_lt HR11.out)).trans HR11.out)
      have HRB := hidk (HRD.out w7 HB7.out)
      clear hr7 hb7 HB6 P1 HRD
      go_wp2_with (first
        | (show wpList _ _ _ ({ dst := some 36, op := _, type := _, pos := _, after := _, guard := _ } :: _) _ _; refine wpList_load_row rfl 40 (.tmp 8) rfl g8 rfl 40 Z (0, 0) _ HR8.out Try.underlying40 rfl HSZ.out ?_; try simp only [Act.put, List.setIfInBounds_toArray, List.set_cons_zero, List.set_cons_succ])
        | (refine wpList_set_var rfl 40 (.tmp 6) (.tmp 36) rfl g6 Z rfl rfl 40 Z HR6.out HSZ.out rfl H1Z.out ?_; intro wz HW6; try simp only [Act.put, List.setIfInBounds_toArray, List.set_cons_zero, List.set_cons_succ])
        | fail)
      first
        | (obtain ⟨rfl, rfl⟩ := HQ.out
           refine bodyPost_ret (v := .tuple #[.agg R, .int .i64 60]) ?_ rfl ⟨rfl, HW6.out.below _ _ HB7.out h6⟩
           exact results_row_tmp (p := 6) (q := 7) (ty := 40) rfl _ _ g6 40 R (0, 0) _ rfl HW6.out.row Try.underlying40 rfl HSZ.out)
        | (refine (Q1.out _ _ _ HL7.out HRB.out).mono ?_
           rintro e w8 ⟨rfl, rfl⟩
           go_wp2_with (first
             | (show wpList _ _ _ ({ dst := some 36, op := _, type := _, pos := _, after := _, guard := _ } :: _) _ _; refine wpList_load_row rfl 40 (.tmp 8) rfl g8 rfl 40 Z (0, 0) _ HR8.out Try.underlying40 rfl HSZ.out ?_; try simp only [Act.put, List.setIfInBounds_toArray, List.set_cons_zero, List.set_cons_succ])
             | (show wpList _ _ _ ({ dst := some 37, op := _, type := _, pos := _, after := _, guard := _ } :: _) _ _; refine wpList_load_row rfl 40 (.tmp 11) rfl g11 rfl 40 X (0, 0) _ HR11.out Try.underlying40 rfl HSX.out ?_; try simp only [Act.put, List.setIfInBounds_toArray, List.set_cons_zero, List.set_cons_succ])
             | (refine wpList_set_var rfl 40 (.tmp 6) (.tmp 36) rfl g6 Z rfl rfl 40 Z HR6.out HSZ.out rfl H1Z.out ?_; intro wz HW6; try simp only [Act.put, List.setIfInBounds_toArray, List.set_cons_zero, List.set_cons_succ])
             | (refine wpList_set_var rfl 40 (.tmp 6) (.tmp 37) rfl g6 X rfl rfl 40 Z HR6.out HSX.out HZX.out H1X.out ?_; intro wz HW6; try simp only [Act.put, List.setIfInBounds_toArray, List.set_cons_zero, List.set_cons_succ])
             | fail)
           first
             | (obtain ⟨rfl, rfl⟩ := HQ.out
                refine bodyPost_ret (v := .tuple #[.agg R, .int .i64 60]) ?_ rfl ⟨rfl, HW6.out.below _ _ HB7.out h6⟩
                exact results_row_tmp (p := 6) (q := 7) (ty := 40) rfl _ _ g6 40 R (0, 0) _ rfl HW6.out.row Try.underlying40 rfl HSZ.out)
             | (obtain ⟨rfl, rfl⟩ := HQ.out
                refine bodyPost_ret (v := .tuple #[.agg R, .int .i64 0]) ?_ rfl ⟨rfl, HW6.out.below _ _ HB7.out h6⟩
                exact results_row_tmp (p := 6) (q := 7) (ty := 40) rfl _ _ g6 40 R (0, 0) _ rfl HW6.out.row Try.underlying40 rfl HSX.out))
set_option maxHeartbeats 2000000 in
theorem eGetI_any (a : Option Addr) (len cap : Nat) (bs : List UInt8) (w : World) (hR : Reads w a len cap bs) (hl : len ≤ 1000000) (R : Array Value) (HR : Hid (R = (icells (getIO bs)).toArray)) :
    Calls Try.prog 94 #[.slice a len cap] w fun e w' => e = .returned (.tuple #[.agg R, .int .i64 (getIE bs)]) ∧ Below w.heap.size w w' := by
  obtain ⟨Z, HZ, HA, HBZ, HNZ⟩ := noughtsI
  obtain ⟨X, HX, HSX, H1X, HNX⟩ := item_row (getIO bs) ((getIO_in bs).e.ok)
  obtain rfl : X = R := by rw [HX.out, HR.out]
  have HZX : Hid (Z.size = X.size) := by show _ = _; rw [HNZ.out, HNX.out]
  obtain ⟨K, hK⟩ : ∃ K, K = getIE bs := ⟨_, rfl⟩
  have R1 : Hid (∀ W, Below w.heap.size w W → Calls Try.prog 110 #[.slice a len cap, .func (.func 111) #[] #[], .func (.func 75) #[] #[]] W fun e w' => e = .returned (.tuple #[.agg X, .int .i64 K]) ∧ Below W.heap.size W w') := fun W hb => by rw [hK]; exact eReadI_any a len cap bs W (hR.below hb) hl X HR
  rw [← hK]
  clear hR HR HX HZ HBZ HNZ HNX hK
  go_enter Try.func94, Try.ntmps94
  go_wp2_with (first
    | (show wpList _ _ _ ({ dst := some 2, op := _, type := _, pos := _, after := _, guard := _ } :: _) _ _; refine wpList_new_var rfl 40 rfl Z HA.out ?_; intro g2 w1 HM2; try simp only [Act.put, List.setIfInBounds_toArray, List.set_cons_zero, List.set_cons_succ])
    | fail)
  have h2 : w.heap.size ≤ g2 := Nat.le_of_eq HM2.out.new.symm
  refine (R1.out w1 HM2.out.below).mono ?_
  rintro e w2 ⟨rfl, hb2⟩
  have HB2 := hidk (HM2.out.below.trans (hb2.mono HM2.out.below.size))
  have HR2 := hidk ((hb2.block _ (heap_lt HM2.out.row)).trans HM2.out.row)
  clear hb2 HM2 R1
  go_wp2_with (first
    | (refine wpList_set_var rfl 40 (.tmp 2) (.tmp 6) rfl g2 X rfl rfl 40 Z HR2.out HSX.out HZX.out H1X.out ?_; intro wz HW2; try simp only [Act.put, List.setIfInBounds_toArray, List.set_cons_zero, List.set_cons_succ])
    | fail)
  refine bodyPost_ret (v := .tuple #[.agg X, .int .i64 K]) ?_ rfl ⟨rfl, HW2.out.below _ _ HB2.out h2⟩
  exact results_row_tmp (p := 2) (q := 3) (ty := 40) rfl _ _ g2 40 X (0, 0) _ rfl HW2.out.row Try.underlying40 rfl HSX.out
end Go.Proofs.Ytjpmmbmhkpgjcaa

/- What entry.Leaf answers. -/
namespace Go.Proofs.Ytjpmmbmhkpgjcaa
open Go.RowKit Sums Nums
set_option linter.unusedVariables false
set_option linter.unusedSimpArgs false
set_option maxRecDepth 100000

end Go.Proofs.Ytjpmmbmhkpgjcaa

/- What the calls of package entry answer, all together. -/
namespace Go.Proofs.Ytjpmmbmhkpgjcaa
open Go.RowKit Sums Nums
set_option maxRecDepth 100000
set_option linter.unusedVariables false
/-- What the calls of package entry answer. -/
theorem entryC : EntryC where
  checkC := fun c hc w C HC => eCheckC_any c w C HC
  putC := fun c hc w C HC => ePutC_any c hc.d w C HC
  getC := fun a len cap bs w hR hl R HR => eGetC_any a len cap bs w hR (by omega) R HR
  check := fun x hx w X HX => eCheck_any x hx.ok w X HX
  put := fun x hx w X HX => ePutE_any x hx w X HX
  get := fun a len cap bs w hR hl R HR => eGetE_any a len cap bs w hR (by omega) R HR
  putI := fun x hx w X HX => ePutI_any x hx w X HX
  getI := fun a len cap bs w hR hl R HR => eGetI_any a len cap bs w hR (by omega) R HR
end Go.Proofs.Ytjpmmbmhkpgjcaa
