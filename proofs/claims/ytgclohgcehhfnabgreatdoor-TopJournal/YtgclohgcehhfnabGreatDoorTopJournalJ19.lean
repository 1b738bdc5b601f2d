/- Texts of our own that the row of TopJournal leans on, part 19. -/
import Derived.Test.YtgclohgcehhfnabGreatDoorTopJournalJ14
import Derived.Test.YtgclohgcehhfnabGreatDoorTopJournalJ16
import Derived.Test.YtgclohgcehhfnabGreatDoorTopJournalJ18
import Derived.Deep.Slices
import Derived.SliceStrings
/- What a slice of calls with texts reads as, a list of lists of texts, and those that came in. -/
namespace Go.Proofs.YtgclohgcehhfnabGreatDoor
open Go.RowKit Nums Go.ChangeShapes
set_option linter.unusedVariables false
set_option linter.unusedSimpArgs false
set_option maxRecDepth 100000
structure TxT where
  a : Option Addr
  len : Nat
  cap : Nat
  l : List ByteArray
structure InT (w : World) (t : TxT) : Prop where
  rd : Texts w t.a t.len t.l
  len : t.len ≤ maxLen
  size : ∀ s ∈ t.l, s.size ≤ maxLen
  cap : t.a = none → t.cap = 0
theorem InT.below {w w' : World} {t : TxT} (h : InT w t) (hb : Below w.heap.size w w') : InT w' t := ⟨h.rd.keep hb, h.len, h.size, h.cap⟩
structure OwT where
  k : Int
  n : Int
  keep : Int
  t : TxT
structure InW (w : World) (o : OwT) : Prop where
  k : In64 o.k
  n : In64 o.n
  keep : In64 o.keep
  t : InT w o.t
theorem InW.below {w w' : World} {o : OwT} (h : InW w o) (hb : Below w.heap.size w w') : InW w' o := ⟨h.k, h.n, h.keep, h.t.below hb⟩
def WReads (w : World) (a : Option Addr) (len cap : Nat) (l : List OwT) : Prop :=
  l.length = len ∧ len ≤ cap ∧ cap ≤ 9223372036854775807 ∧ (∀ o ∈ l, InW w o) ∧
    (l = [] ∨ ∃ b off, a = some ⟨b, off, none⟩ ∧ b < w.heap.size ∧ ∀ (i : Nat) (h : i < l.length), w.cell? ⟨b, off + i * 4, none⟩ = some (.int .i64 l[i].k) ∧ w.cell? ⟨b, off + i * 4 + 1, none⟩ = some (.int .i64 l[i].n) ∧ w.cell? ⟨b, off + i * 4 + 2, none⟩ = some (.int .i64 l[i].keep) ∧ w.cell? ⟨b, off + i * 4 + 3, none⟩ = some (.slice l[i].t.a l[i].t.len l[i].t.cap))
def LLReads (w : World) (a : Option Addr) (len cap : Nat) (l : List TxT) : Prop :=
  l.length = len ∧ len ≤ cap ∧ cap ≤ 9223372036854775807 ∧ (∀ t ∈ l, InT w t) ∧
    (l = [] ∨ ∃ b off, a = some ⟨b, off, none⟩ ∧ b < w.heap.size ∧ ∀ (i : Nat) (h : i < l.length), w.cell? ⟨b, off + i, none⟩ = some (.slice l[i].a l[i].len l[i].cap))
variable {H : Type} {enc : TypeId × Value → H} {W : World} {base : Nat} {held : Bool} {fuel : Nat} {x : DataW H × List MemPlace}
theorem bounds_i64 {z : Int} (h : (Lit.int .i64 z).wf = true) : In64 z := by
  have e1 : IntKind.i64.min = -9223372036854775808 := rfl
  have e2 : IntKind.i64.max = 9223372036854775807 := rfl
  simp [Lit.wf, e1, e2] at h
  unfold In64
  omega
theorem WReads.at {w : World} {a : Option Addr} {len cap : Nat} {l : List OwT} (h : WReads w a len cap l) (i : Nat) (hi : i < len) :
    ∃ b off o, a = some ⟨b, off, none⟩ ∧ b < w.heap.size ∧ l[i]? = some o ∧ o ∈ l ∧ InW w o ∧ w.cell? ⟨b, off + i * 4, none⟩ = some (.int .i64 o.k) ∧ w.cell? ⟨b, off + i * 4 + 1, none⟩ = some (.int .i64 o.n) ∧ w.cell? ⟨b, off + i * 4 + 2, none⟩ = some (.int .i64 o.keep) ∧ w.cell? ⟨b, off + i * 4 + 3, none⟩ = some (.slice o.t.a o.t.len o.t.cap) := by
  have hl : i < l.length := by rw [h.1]; exact hi
  rcases h.2.2.2.2 with h0 | ⟨b, off, e, hb, hc⟩
  · rw [h0] at hl; cases hl
  · exact ⟨b, off, l[i], e, hb, List.getElem?_eq_getElem hl, List.getElem_mem hl, h.2.2.2.1 _ (List.getElem_mem hl), hc i hl⟩
theorem LLReads.at {w : World} {a : Option Addr} {len cap : Nat} {l : List TxT} (h : LLReads w a len cap l) (i : Nat) (hi : i < len) :
    ∃ b off t, a = some ⟨b, off, none⟩ ∧ b < w.heap.size ∧ l[i]? = some t ∧ t ∈ l ∧ InT w t ∧ w.cell? ⟨b, off + i, none⟩ = some (.slice t.a t.len t.cap) := by
  have hl : i < l.length := by rw [h.1]; exact hi
  rcases h.2.2.2.2 with h0 | ⟨b, off, e, hb, hc⟩
  · rw [h0] at hl; cases hl
  · exact ⟨b, off, l[i], e, hb, List.getElem?_eq_getElem hl, List.getElem_mem hl, h.2.2.2.1 _ (List.getElem_mem hl), hc i hl⟩
theorem WReads.below {w w' : World} {a : Option Addr} {len cap : Nat} {l : List OwT} (h : WReads w a len cap l) (hb : Below w.heap.size w w') : WReads w' a len cap l := by
  refine ⟨h.1, h.2.1, h.2.2.1, fun o ho => (h.2.2.2.1 o ho).below hb, ?_⟩
  rcases h.2.2.2.2 with h0 | ⟨b, off, e, hlt, hc⟩
  · exact .inl h0
  · exact .inr ⟨b, off, e, Nat.lt_of_lt_of_le hlt hb.size, fun i hi => ⟨(hb.cell (p := ⟨b, off + i * 4, none⟩) hlt).trans (hc i hi).1, (hb.cell (p := ⟨b, off + i * 4 + 1, none⟩) hlt).trans (hc i hi).2.1, (hb.cell (p := ⟨b, off + i * 4 + 2, none⟩) hlt).trans (hc i hi).2.2.1, (hb.cell (p := ⟨b, off + i * 4 + 3, none⟩) hlt).trans (hc i hi).2.2.2⟩⟩
theorem LLReads.below {w w' : World} {a : Option Addr} {len cap : Nat} {l : List TxT} (h : LLReads w a len cap l) (hb : Below w.heap.size w w') : LLReads w' a len cap l := by
  refine ⟨h.1, h.2.1, h.2.2.1, fun o ho => (h.2.2.2.1 o ho).below hb, ?_⟩
  rcases h.2.2.2.2 with h0 | ⟨b, off, e, hlt, hc⟩
  · exact .inl h0
  · exact .inr ⟨b, off, e, Nat.lt_of_lt_of_le hlt hb.size, fun i hi => (hb.cell (p := ⟨b, off + i, none⟩) hlt).trans (hc i hi)⟩
end Go.Proofs.YtgclohgcehhfnabGreatDoor
/- The statements' large. -/
namespace Go.Proofs.YtgclohgcehhfnabGreatDoor
open Go.RowKit Nums
set_option linter.unusedVariables false
set_option linter.unusedSimpArgs false
set_option maxRecDepth 100000
end Go.Proofs.YtgclohgcehhfnabGreatDoor
