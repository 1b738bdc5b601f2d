/- Texts of our own that the row of TopJournal leans on, part 43. -/
import Derived.Test.YtgclohgcehhfnabGreatDoorTopJournalJ8
import Derived.Test.YtgclohgcehhfnabGreatDoorTopJournalJ18
import Derived.Deep.Slices
/- What a slice of calls reads as, and one that came in. -/
namespace Go.Proofs.YtgclohgcehhfnabGreatDoor
open Go.RowKit Nums Go.ChangeShapes
set_option linter.unusedVariables false
set_option linter.unusedSimpArgs false
set_option maxRecDepth 100000
structure OpT where
  k : Int
  at_ : Int
  n : Int
  a : Option Addr
  len : Nat
  cap : Nat
  bs : List UInt8
structure InO (w : World) (o : OpT) : Prop where
  k : In64 o.k
  at_ : In64 o.at_
  n : In64 o.n
  rd : Reads w o.a o.len o.cap o.bs
theorem InO.below {w w' : World} {o : OpT} (h : InO w o) (hb : Below w.heap.size w w') : InO w' o := ⟨h.k, h.at_, h.n, h.rd.below hb⟩
def OReads (w : World) (a : Option Addr) (len cap : Nat) (l : List OpT) : Prop :=
  l.length = len ∧ len ≤ cap ∧ cap ≤ 9223372036854775807 ∧ (∀ o ∈ l, InO w o) ∧
    (l = [] ∨ ∃ b off, a = some ⟨b, off, none⟩ ∧ b < w.heap.size ∧ ∀ (i : Nat) (h : i < l.length), w.cell? ⟨b, off + i * 4, none⟩ = some (.int .i64 l[i].k) ∧ w.cell? ⟨b, off + i * 4 + 1, none⟩ = some (.int .i64 l[i].at_) ∧ w.cell? ⟨b, off + i * 4 + 2, none⟩ = some (.int .i64 l[i].n) ∧ w.cell? ⟨b, off + i * 4 + 3, none⟩ = some (.slice l[i].a l[i].len l[i].cap))
variable {H : Type} {enc : TypeId × Value → H} {W : World} {base : Nat} {held : Bool} {fuel : Nat} {x : DataW H × List MemPlace}
theorem OReads.at {w : World} {a : Option Addr} {len cap : Nat} {l : List OpT} (h : OReads w a len cap l) (i : Nat) (hi : i < len) :
    ∃ b off o, a = some ⟨b, off, none⟩ ∧ b < w.heap.size ∧ l[i]? = some o ∧ InO w o ∧ w.cell? ⟨b, off + i * 4, none⟩ = some (.int .i64 o.k) ∧ w.cell? ⟨b, off + i * 4 + 1, none⟩ = some (.int .i64 o.at_) ∧ w.cell? ⟨b, off + i * 4 + 2, none⟩ = some (.int .i64 o.n) ∧ w.cell? ⟨b, off + i * 4 + 3, none⟩ = some (.slice o.a o.len o.cap) := by
  have hl : i < l.length := by rw [h.1]; exact hi
  rcases h.2.2.2.2 with h0 | ⟨b, off, e, hb, hc⟩
  · rw [h0] at hl; cases hl
  · exact ⟨b, off, l[i], e, hb, List.getElem?_eq_getElem hl, h.2.2.2.1 _ (List.getElem_mem hl), hc i hl⟩
end Go.Proofs.YtgclohgcehhfnabGreatDoor
