/- What the tree tells is found, as the document says; the tree's calls, as lists. -/
import Derived.Test.YtehfoeedlchphaaDoorThree5
import Derived.Test.YtehfoeedlchphaaDoorIncl
import Derived.Test.YtehfoeedlchphaaDoorGoes
import Derived.Test.YtehfoeedlchphaaDoorOwns
namespace Go.Proofs.YtehfoeedlchphaaDoor
open Go.RowKit Sums
set_option linter.unusedVariables false
set_option linter.unusedSimpArgs false

def goesW (l : List (List UInt8)) (m : Nat) : List (List UInt8) := if m = 0 then [] else goes l m true
theorem goesW_digs (l : List (List UInt8)) (m : Nat) (h : Digs32 l) : Digs32 (goesW l m) := by
  unfold goesW
  by_cases h0 : m = 0
  · rw [if_pos h0]; intro d hd; cases hd
  · rw [if_neg h0]; exact goes_digs sumD_length _ l m true rfl h
theorem inc_finds (l : List (List UInt8)) (i : Nat) (hi : i < l.length) (hl : l.length ≤ 100000) : incE (root l) (l.length : Nat) i l[i] (incl l i) = 0 := by
  rw [incE_in (root l) l.length i l[i] (incl l i) (by omega) hl hi, mkR_incl l.length l i rfl hi]
  simp
theorem con_finds (l : List (List UInt8)) (i : Nat) (hi : i ≤ l.length) (hl : l.length ≤ 100000) : conE i (root (l.take i)) (l.length : Nat) (root l) (goesW l i) = 0 := by
  unfold goesW
  by_cases h0 : i = 0
  · subst h0
    rw [if_pos rfl]
    show conE 0 _ _ _ [] = 0
    rw [conE_none _ _ _ _ (by omega), if_pos rfl, if_pos]
    refine ⟨by rw [root_none _ (by simp)], fun e => ?_⟩
    rw [root_none l (by omega), root_none _ (by simp)]
  · rw [if_neg h0, conE_in i _ l.length _ _ (by omega) hi hl, bothR_goes l.length l i true _ rfl (by omega) hi (fun _ => rfl)]
    simp
theorem incl_call (a : Option Addr) (len cap : Nat) (l : List (List UInt8)) (i : Nat) (w : World) (hR : LReads w a len cap l) (hi : i < len) (hl : len ≤ 100000) (hK : Table 0 w) :
    Calls Tryd.prog 18 #[.slice a len cap, .int .i64 i] w fun e w' => ∃ x cx, e = .returned (.tuple #[.slice x (incl l i).length cx, .int .i64 0]) ∧ LReads w' x (incl l i).length cx (incl l i) ∧ Below w.heap.size w w' := by
  refine (inclusion_in a len cap l i w hR hi hl hK).mono ?_
  rintro e w' ⟨v, rfl, ho, hb⟩
  obtain ⟨x, cx, rfl, hx, _⟩ := LReads.own ho (incl_digs sumD_length _ l i rfl hR.2.1)
  exact ⟨x, cx, rfl, hx, hb⟩
theorem goes_call (a : Option Addr) (len cap : Nat) (l : List (List UInt8)) (m : Nat) (w : World) (hR : LReads w a len cap l) (hm : m ≤ len) (hl : len ≤ 100000) (hK : Table 0 w) :
    Calls Tryd.prog 19 #[.slice a len cap, .int .i64 m] w fun e w' => ∃ x cx, e = .returned (.tuple #[.slice x (goesW l m).length cx, .int .i64 0]) ∧ LReads w' x (goesW l m).length cx (goesW l m) ∧ Below w.heap.size w w' := by
  by_cases h0 : m = 0
  · subst h0
    refine (consistency_none a len cap w).mono ?_
    rintro e w' ⟨rfl, hb⟩
    exact ⟨none, 0, rfl, ⟨rfl, (fun d hd => by cases hd), Nat.le_refl _, Nat.zero_le _, .inl rfl⟩, hb⟩
  · have hg : goesW l m = goes l m true := by unfold goesW; rw [if_neg h0]
    rw [hg]
    refine (consistency_in a len cap l m w hR (by omega) hm hl hK).mono ?_
    rintro e w' ⟨v, rfl, ho, hb⟩
    obtain ⟨x, cx, rfl, hx, _⟩ := LReads.own ho (goes_digs sumD_length _ l m true rfl hR.2.1)
    exact ⟨x, cx, rfl, hx, hb⟩
/-- The first k of a list. -/
theorem slice_first {w : World} {a : Option Addr} {len cap : Nat} {l : List (List UInt8)} (hR : LReads w a len cap l) (k : Nat) (hk : k ≤ len) : ∃ a', (∀ W, (Instr.sliceAt 24 (.slice a len cap) none (some (.int .i64 k)) none).run Tryd.prog W = .ok (.slice a' k cap) W) ∧ ∀ W, LReads W a len cap l → LReads W a' k cap (l.take k) := by
  cases a with
  | none =>
    have h0 : len = 0 := by
      rcases hR.2.2.2.2 with h | ⟨g, o, e, _⟩
      · exact h
      · cases e
    subst h0
    obtain rfl : k = 0 := by omega
    refine ⟨none, fun W => ?_, fun W h => ?_⟩
    · simp [Instr.sliceAt, Instr.slice, Instr.sliceBounds, Instr.sliceBound, asIntOf, run_underlying Tryd.underlying24, sizeOfD]
    · have : l.take 0 = l := by rw [List.take_zero]; exact (List.eq_nil_of_length_eq_zero h.1).symm
      rw [this]; exact h
  | some p =>
    obtain ⟨g, o, sp⟩ := p
    by_cases h0 : len = 0
    · subst h0
      obtain rfl : k = 0 := by omega
      refine ⟨some ⟨g, o, sp⟩, fun W => ?_, fun W h => ?_⟩
      · simp [Instr.sliceAt, Instr.slice, Instr.sliceBounds, Instr.sliceBound, asIntOf, run_underlying Tryd.underlying24, sizeOfD, Addr.add]
      · have : l.take 0 = l := by rw [List.take_zero]; exact (List.eq_nil_of_length_eq_zero h.1).symm
        rw [this]; exact h
    · obtain ⟨g', o', e, _⟩ := hR.at (by omega)
      cases e
      exact ⟨some ⟨g, o, none⟩, fun W => slice_left W g o len cap k (by have := hR.2.2.1; omega), fun W h => h.take k hk⟩
end Go.Proofs.YtehfoeedlchphaaDoor
