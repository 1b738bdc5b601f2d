/- Texts of our own that the row of TopJournal leans on, part 14. -/
import Derived.Test.YtgclohgcehhfnabGreatDoorTopJournalJ8
import Derived.Test.YtgclohgcehhfnabGreatDoorTopJournalJ13
/- Slices of texts: read, and grown by appending. -/
namespace Go.Proofs.YtgclohgcehhfnabGreatDoor
open Go.RowKit Nums
set_option linter.unusedVariables false
set_option linter.unusedSimpArgs false
set_option maxRecDepth 100000
def strL (ss : List ByteArray) : List Value := ss.map Value.string
theorem strL_length (ss : List ByteArray) : (strL ss).length = ss.length := by unfold strL; rw [List.length_map]
theorem strL_append (a b : List ByteArray) : strL (a ++ b) = strL a ++ strL b := by unfold strL; rw [List.map_append]
theorem strL_one (ss : List ByteArray) : ∀ v ∈ strL ss, v.oneCell' = true := by
  intro v hv
  obtain ⟨s, _, rfl⟩ := List.mem_map.1 hv
  rfl
theorem strL_at (ss : List ByteArray) (j : Nat) (h : j < ss.length) : (strL ss)[j]? = some (.string ss[j]) := by
  unfold strL; rw [List.getElem?_map, List.getElem?_eq_getElem h]; rfl
def TBlock (a : Option Addr) (len : Nat) (b : Nat) : Prop := ∃ off, a = some ⟨b, off, none⟩ ∧ 0 < len
theorem Texts.blk_lt {w : World} {a : Option Addr} {len : Nat} {ss : List ByteArray} (h : Texts w a len ss) (b : Nat) (hb : TBlock a len b) : b < w.heap.size := by
  obtain ⟨off, e, h0⟩ := hb
  rcases h.2 with h1 | ⟨b', off', e', hlt, _⟩
  · omega
  · rw [e'] at e; cases e; exact hlt
theorem Texts.same {w w' : World} {a : Option Addr} {len : Nat} {ss : List ByteArray} (h : Texts w a len ss) (hs : w.heap.size ≤ w'.heap.size) (hb : ∀ b, TBlock a len b → w'.heap[b]? = w.heap[b]?) : Texts w' a len ss := by
  refine ⟨h.1, ?_⟩
  rcases h.2 with h0 | ⟨b, off, rfl, hlt, hc⟩
  · exact .inl h0
  · by_cases h0 : len = 0
    · exact .inl h0
    · exact .inr ⟨b, off, rfl, Nat.lt_of_lt_of_le hlt hs, fun i hi => (World.cell?_of_block (a := ⟨b, off + i, none⟩) (hb b ⟨off, rfl, by omega⟩)).trans (hc i hi)⟩
theorem Texts.away {S : Nat → Prop} {w w' : World} {a : Option Addr} {len : Nat} {ss : List ByteArray} (h : Texts w a len ss) (hw : Away S w w') (hS : ∀ b, TBlock a len b → ¬ S b) : Texts w' a len ss :=
  h.same hw.size fun b hb => hw.block b (h.blk_lt b hb) (hS b hb)
theorem Texts.cell {w : World} {a : Option Addr} {len : Nat} {ss : List ByteArray} (h : Texts w a len ss) (k : Nat) (hk : k < len) : ∃ b off s, a = some ⟨b, off, none⟩ ∧ w.cell? ⟨b, off + k, none⟩ = some (.string s) ∧ ss[k]? = some s := by
  have hl := h.1
  rcases h.2 with h0 | ⟨b, off, e, _, hc⟩
  · omega
  · exact ⟨b, off, ss[k]'(by omega), e, hc k (by omega), List.getElem?_eq_getElem _⟩
theorem info9T : (Tryz.prog.info? 9).map (fun i => (i.zero, i.size, i.bytes)) = some (some (.string ⟨#[]⟩), 1, 16) := by kernel_rfl
theorem run_append_texts {w : World} {a : Option Addr} {len cap : Nat} {l : List ByteArray} (h : Texts w a len l) (hc0 : a = none → cap = 0) (B n ty : Nat) (v : Value) (xs : List ByteArray)
    (hown : w.ownsRow B 9 1 v n (strL xs)) (hB : B ≤ w.heap.size) (hb : n + len ≤ 8796093022208) :
    ∃ v' w', (Builtin.append_ #[31, 31] ty #[v, .slice a len cap]).run Tryz.prog w = .ok v' w' ∧
      w'.ownsRow B 9 1 v' (n + len) (strL (xs ++ l)) ∧ w.grownBy w' v.ownBlock := by
  obtain ⟨i0, hi, hz0, hz1, hz2⟩ := info_parts info9T
  have h1 := h.1
  cases a with
  | none =>
    obtain rfl : cap = 0 := hc0 rfl
    have hl0 : len = 0 := by
      rcases h.2 with h0 | ⟨b, off, e, _⟩
      · exact h0
      · cases e
    subst hl0
    obtain rfl : l = [] := List.eq_nil_of_length_eq_zero h1
    refine ⟨v, w, run_append_owned_none (P := Tryz.prog) w B 31 ty 9 i0 1 Tryz.underlying31 hi _ n _ hown, ?_, World.grownBy.refl _ _⟩
    simpa using hown
  | some ad =>
    have hN : ∀ j u, (strL l)[j]? = some u → w.cell? (ad.add j) = some u := fun j u hj => by
      have hjl : j < l.length := by
        rcases Nat.lt_or_ge j l.length with h | h
        · exact h
        · rw [List.getElem?_eq_none (by rw [strL_length]; exact h)] at hj; cases hj
      rcases h.2 with h0 | ⟨b, off, e, _, hc⟩
      · omega
      · cases e
        rw [add_plain, hc j hjl]
        rw [strL_at l j hjl] at hj
        exact hj
    obtain ⟨v', w', hr, ho, hg, _⟩ := run_append_own (P := Tryz.prog) w B 31 ty 9 i0 (.string ⟨#[]⟩) 1 16 Tryz.underlying31 hi hz0 hz1 hz2 rfl (by decide) v n _ hown ad len cap (strL l) (by rw [strL_length, h1]; omega) hN (strL_one l) (by unfold maxLen; omega) (by omega) hB
    refine ⟨v', w', hr, ?_, hg⟩
    rw [strL_append]
    exact ho
theorem texts_ownT {w : World} {B n : Nat} {v : Value} {l : List ByteArray} (h : w.ownsRow B 9 1 v n (strL l)) : ∃ a cap, v = .slice a n cap ∧ Texts w a n l ∧ (a = none → cap = 0) ∧ n ≤ maxLen ∧ ∀ b, TBlock a n b → B ≤ b ∧ v.ownBlock = some b := by
  have hl : l.length = n := by have := h.1; rw [strL_length] at this; omega
  rcases h.2 with ⟨rfl, h0⟩ | ⟨g, cap, cur, rfl, hb, hg, hnc, hcm, hsz, ht⟩
  · subst h0
    exact ⟨none, 0, rfl, ⟨hl, .inl rfl⟩, fun _ => rfl, Nat.zero_le _, fun b ⟨off, e, _⟩ => by cases e⟩
  · refine ⟨some ⟨g, 0, none⟩, cap, rfl, ⟨hl, .inr ⟨g, 0, rfl, heap_lt hg, fun i hi => ?_⟩⟩, (fun e => by cases e), by omega, fun b ⟨off, e, _⟩ => by cases e; exact ⟨hb, rfl⟩⟩
    have := h.cells (g := g) rfl i _ (strL_at l i hi)
    rw [add_plain] at this
    exact this
end Go.Proofs.YtgclohgcehhfnabGreatDoor
