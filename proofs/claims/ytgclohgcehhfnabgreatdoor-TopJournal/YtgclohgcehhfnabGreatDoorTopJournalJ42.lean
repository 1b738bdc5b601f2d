/- Texts of our own that the row of TopJournal leans on, part 42. -/
import Derived.Test.YtgclohgcehhfnabGreatDoorTopJournalJ8
import Derived.Lib.SlBytesConst
/- A disk that lives behind a call; the statements' rows of the document (awake). -/
namespace Go.Proofs.YtgclohgcehhfnabGreatDoor
open Go.RowKit Nums
set_option linter.unusedVariables false
set_option linter.unusedSimpArgs false
set_option maxRecDepth 100000
structure Lv (At : World → Nat → DkT → (Nat → Prop) → Prop) (w W : World) (p : Nat) (D : DkT) (K : Nat → Prop) : Prop where
  below : Below w.heap.size w W
  live : ∃ S, At W p D S ∧ (∀ b, S b → w.heap.size ≤ b) ∧ ∀ b, K b → ¬ S b ∧ b < W.heap.size
def Kept9 (K : Nat → Prop) (w w' : World) : Prop := Away (fun k => ¬ K k) w w'
theorem Kept9.reads {K : Nat → Prop} {w w' : World} (h : Kept9 K w w') {a : Option Addr} {len cap : Nat} {l : List UInt8} (hr : Reads w a len cap l) (hK : ∀ b off, a = some ⟨b, off, none⟩ → 0 < len → K b) : Reads w' a len cap l :=
  hr.away h fun b off e h0 hn => hn (hK b off e h0)
variable {At : World → Nat → DkT → (Nat → Prop) → Prop}
theorem Lv.ok (dk : DiskC At) {w W : World} {p : Nat} {D : DkT} {K : Nat → Prop} (h : Lv At w W p D K) : OkD D := by obtain ⟨S, hA, _⟩ := h.live; exact dk.ok hA
theorem Lv.sub {w W : World} {p : Nat} {D : DkT} {K K' : Nat → Prop} (h : Lv At w W p D K) (hk : ∀ b, K' b → K b) : Lv At w W p D K' := by
  obtain ⟨S, hA, hS, hK⟩ := h.live
  exact ⟨h.below, S, hA, hS, fun b e => hK b (hk b e)⟩
theorem Lv.keep (dk : DiskC At) {w W W' : World} {p : Nat} {D : DkT} {K : Nat → Prop} (h : Lv At w W p D K) (hb : Below W.heap.size W W') : Lv At w W' p D (fun b => K b ∨ (W.heap.size ≤ b ∧ b < W'.heap.size)) := by
  obtain ⟨S, hA, hS, hK⟩ := h.live
  refine ⟨h.below.trans (hb.mono h.below.size), S, dk.keep hA hb.size fun b e => hb.block b (dk.lt hA b e), hS, fun b e => ?_⟩
  rcases e with e | e
  · exact ⟨(hK b e).1, Nat.lt_of_lt_of_le (hK b e).2 hb.size⟩
  · exact ⟨fun hs => by have := dk.lt hA b hs; omega, e.2⟩
theorem Lv.turn (dk : DiskC At) {w W W' : World} {p : Nat} {D D' : DkT} {K S : Nat → Prop} (h : Lv At w W p D K) (hS : ∀ b, S b → w.heap.size ≤ b) (hK : ∀ b, K b → ¬ S b ∧ b < W.heap.size) (ha : ∃ S', At W' p D' S' ∧ ∀ b, S' b → S b ∨ W.heap.size ≤ b) (hw : Away S W W') : Lv At w W' p D' K ∧ Kept9 K W W' := by
  obtain ⟨S', hA', hS'⟩ := ha
  refine ⟨⟨hw.below h.below h.below.size hS, S', hA', fun b hb => ?_, fun b hb => ⟨fun hs => ?_, Nat.lt_of_lt_of_le (hK b hb).2 hw.size⟩⟩, ⟨hw.os, hw.tape, hw.output, hw.size, fun k hk hn => hw.block k hk fun hs => hn fun hk => (hK k hk).1 hs⟩⟩
  · rcases hS' b hb with e | e
    · exact hS b e
    · exact Nat.le_trans h.below.size e
  · rcases hS' b hs with e | e
    · exact (hK b hb).1 e
    · have := (hK b hb).2; omega
theorem OutB.blk {base : Nat} {w : World} {a : Option Addr} {cap : Nat} {l : List UInt8} (h : OutB base w a cap l) : ∀ b off, a = some ⟨b, off, none⟩ → 0 < l.length → base ≤ b ∧ b < w.heap.size := by
  intro b off e h0
  rcases h.2 with e0 | ⟨g, o, e1, hg, _⟩
  · rw [e0] at h0; cases h0
  · rw [e1] at e
    cases e
    refine ⟨hg, ?_⟩
    rcases h.1.2.2.2 with ⟨e2, _⟩ | ⟨ad, e2, h2⟩ | ⟨b', off', e2, hlt, _⟩
    · rw [e1] at e2; cases e2
    · omega
    · rw [e1] at e2; cases e2; exact hlt
end Go.Proofs.YtgclohgcehhfnabGreatDoor
