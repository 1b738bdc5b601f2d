/- Texts of our own that the row of TopJournal leans on, part 44. -/
import Derived.Test.YtgclohgcehhfnabGreatDoorTopJournalJ39
import Derived.Test.YtgclohgcehhfnabGreatDoorTopJournalJ42
import Derived.Test.YtgclohgcehhfnabGreatDoorTopJournalJ43
/- The program's disk and the document's side by side; what the statements' large and call answer. -/
namespace Go.Proofs.YtgclohgcehhfnabGreatDoor
open Go.RowKit Nums
set_option linter.unusedVariables false
set_option linter.unusedSimpArgs false
set_option maxRecDepth 100000
variable {At : World → Nat → DkT → (Nat → Prop) → Prop}
theorem Kept9.sub {K K' : Nat → Prop} {w w' : World} (h : Kept9 K w w') (hk : ∀ b, K' b → K b) : Kept9 K' w w' := ⟨h.os, h.tape, h.output, h.size, fun b hb hn => h.block b hb fun h2 => hn fun h3 => h2 (hk b h3)⟩
theorem Kept9.row {K : Nat → Prop} {w w' : World} (h : Kept9 K w w') {g : Nat} (hg : K g) {o : Obj} (hr : w.heap[g]? = some o) : w'.heap[g]? = some o := (h.block g (heap_lt hr) (fun hn => hn hg)).trans hr
end Go.Proofs.YtgclohgcehhfnabGreatDoor
/- What the statements' call answers: the program's disk and the document's go on alike. -/
namespace Go.Proofs.YtgclohgcehhfnabGreatDoor
open Go.RowKit Nums
set_option linter.unusedVariables false
set_option linter.unusedSimpArgs false
set_option maxRecDepth 100000
variable {At : World → Nat → DkT → (Nat → Prop) → Prop}
structure Fill (g off len : Nat) (W : World) : Prop where
  cell : ∀ i, i < len → ∃ v, W.cell? ⟨g, off + i, none⟩ = some v
  free : ∀ i, i < len → W.frozen? ⟨g, off + i, none⟩ = false
theorem Fill.set {g off len : Nat} {W : World} (h : Fill g off len W) (i : Nat) (hi : i < len) (v : Value) : Fill g off len (W.setCell ⟨g, off + i, none⟩ v) := by
  refine ⟨fun j hj => ?_, fun j hj => ?_⟩
  · by_cases e : j = i
    · subst e
      obtain ⟨u, hu⟩ := h.cell j hj
      exact ⟨v, World.cell?_setCell_same _ _ _ hu⟩
    · obtain ⟨u, hu⟩ := h.cell j hj
      have hne : (⟨g, off + i, none⟩ : Addr) ≠ ⟨g, off + j, none⟩ := by intro h2; injection h2 with _ h3; omega
      exact ⟨u, (World.cell?_setCell_other (w := W) (v := v) (h := hne)).trans hu⟩
  · have := h.free j hj
    simpa using this
end Go.Proofs.YtgclohgcehhfnabGreatDoor
/- Where the statements on a disk begin: two new disks, calls on both. -/
namespace Go.Proofs.YtgclohgcehhfnabGreatDoor
open Go.RowKit Nums
set_option linter.unusedVariables false
set_option linter.unusedSimpArgs false
set_option maxRecDepth 100000
variable {At : World → Nat → DkT → (Nat → Prop) → Prop}
end Go.Proofs.YtgclohgcehhfnabGreatDoor
/- Parts of bytes that are read. -/
namespace Go.Proofs.YtgclohgcehhfnabGreatDoor
open Go.RowKit Nums
set_option linter.unusedVariables false
set_option linter.unusedSimpArgs false
set_option maxRecDepth 100000
variable {At : World → Nat → DkT → (Nat → Prop) → Prop}
def subA (a : Option Addr) (cap lo : Nat) : Option Addr := if cap = lo then a else a.map (·.add lo)
theorem slice_mid (W : World) (a : Option Addr) (len cap lo hi : Nat) (h : lo ≤ hi) (hc : hi ≤ cap) : (Instr.sliceAt 34 (.slice a len cap) (some (.int .i64 lo)) (some (.int .i64 hi)) none).run Tryz.prog W = .ok (.slice (subA a cap lo) (hi - lo) (cap - lo)) W := by
  have hz : ∀ w, (sizeOf 5).run Tryz.prog w = .ok 1 w := fun w => by
    have h : (Tryz.prog.info? 5).map (·.size) = some 1 := by kernel_rfl
    cases hq : Tryz.prog.info? 5 with
    | none => rw [hq] at h; cases h
    | some i =>
      rw [hq] at h
      simp only [Option.map_some, Option.some.injEq] at h
      simp [sizeOf, typeInfo, hq, h]
  simp [Instr.sliceAt, Instr.slice, Instr.sliceBounds, Instr.sliceBound, asIntOf, run_underlying Tryz.underlying34, hz, h, hc, subA]
theorem slice_front (W : World) (a : Option Addr) (len cap hi : Nat) (hc : hi ≤ cap) : (Instr.sliceAt 34 (.slice a len cap) none (some (.int .i64 hi)) none).run Tryz.prog W = .ok (.slice (subA a cap 0) hi cap) W := by
  have hz : ∀ w, (sizeOf 5).run Tryz.prog w = .ok 1 w := fun w => by
    have h : (Tryz.prog.info? 5).map (·.size) = some 1 := by kernel_rfl
    cases hq : Tryz.prog.info? 5 with
    | none => rw [hq] at h; cases h
    | some i =>
      rw [hq] at h
      simp only [Option.map_some, Option.some.injEq] at h
      simp [sizeOf, typeInfo, hq, h]
  simp [Instr.sliceAt, Instr.slice, Instr.sliceBounds, Instr.sliceBound, asIntOf, run_underlying Tryz.underlying34, hz, hc, subA]
theorem slice_back (W : World) (a : Option Addr) (len cap lo : Nat) (h : lo ≤ len) (hc : len ≤ cap) : (Instr.sliceAt 34 (.slice a len cap) (some (.int .i64 lo)) none none).run Tryz.prog W = .ok (.slice (subA a cap lo) (len - lo) (cap - lo)) W := by
  have hz : ∀ w, (sizeOf 5).run Tryz.prog w = .ok 1 w := fun w => by
    have h : (Tryz.prog.info? 5).map (·.size) = some 1 := by kernel_rfl
    cases hq : Tryz.prog.info? 5 with
    | none => rw [hq] at h; cases h
    | some i =>
      rw [hq] at h
      simp only [Option.map_some, Option.some.injEq] at h
      simp [sizeOf, typeInfo, hq, h]
  simp [Instr.sliceAt, Instr.slice, Instr.sliceBounds, Instr.sliceBound, asIntOf, run_underlying Tryz.underlying34, hz, h, hc, subA]
theorem Reads.part {W : World} {a : Option Addr} {len cap : Nat} {l : List UInt8} (h : Reads W a len cap l) (lo hi : Nat) (h1 : lo ≤ hi) (h2 : hi ≤ len) : Reads W (subA a cap lo) (hi - lo) (cap - lo) ((l.drop lo).take (hi - lo)) := by
  obtain ⟨e1, e2, e3, e4⟩ := h
  refine ⟨by rw [List.length_take, List.length_drop]; omega, by omega, by omega, ?_⟩
  unfold subA
  rcases e4 with ⟨rfl, h0⟩ | ⟨ad, rfl, h0⟩ | ⟨b, off, rfl, hlt, hc⟩
  · exact .inl ⟨by split <;> rfl, by omega⟩
  · refine .inr (.inl ?_)
    split
    · exact ⟨ad, rfl, by omega⟩
    · exact ⟨ad.add lo, rfl, by omega⟩
  · by_cases hcl : cap = lo
    · rw [if_pos hcl]; exact .inr (.inl ⟨_, rfl, by omega⟩)
    · rw [if_neg hcl]
      refine .inr (.inr ⟨b, off + lo, by show some (Addr.add ⟨b, off, none⟩ lo) = some _; rw [add_plain], hlt, fun i hi => ?_⟩)
      have hi' : lo + i < l.length := by rw [List.length_take, List.length_drop] at hi; omega
      have := hc (lo + i) hi'
      rw [← Nat.add_assoc] at this
      rw [this]
      simp
end Go.Proofs.YtgclohgcehhfnabGreatDoor
