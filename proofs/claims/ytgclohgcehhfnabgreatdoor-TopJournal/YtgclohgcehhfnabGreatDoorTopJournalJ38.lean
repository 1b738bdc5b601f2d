/- Texts of our own that the row of TopJournal leans on, part 38. -/
import Derived.Test.YtgclohgcehhfnabGreatDoorTopJournalJ29
import Derived.Test.YtgclohgcehhfnabGreatDoorTopJournalJ31
import Derived.Test.YtgclohgcehhfnabGreatDoorTopJournalJ37
/- HistoryHeads. -/
namespace Go.Proofs.YtgclohgcehhfnabGreatDoor
open Go.RowKit Nums Sums
set_option linter.unusedVariables false
set_option linter.unusedSimpArgs false
set_option maxRecDepth 100000
theorem inL_of {w : World} {a : Option Addr} {len cap : Nat} {l : List ItT} (h : IReads w a len cap l) (hc0 : a = none → cap = 0) (hm : ∀ x ∈ l, CmI x) (hb : bigL l = false) : InL w a len cap l := by
  obtain ⟨h1, h2⟩ := bigL_false hb
  exact ⟨h, hc0, fun x hx => (hm x hx).in (by have := h2 x hx; omega), by have := h.ln; omega⟩
end Go.Proofs.YtgclohgcehhfnabGreatDoor
