/-
  DERIVED. GIVEN WITH THE SEED: THE CARDS: each row of YtgclohgcehhfnabDoorRows.lean that lists a variable, with what it lists TIED to the program's text (the seventh form; the later family's looks); each row that meets fmt, with fmt's text TOLD by the authors' own Lean function (tested against real Go, not proved from fmt's source: count such statements apart). THE CARD IS WHAT COUNTS. Prove the row's statement (the work); the ties are given (YtgclohgcehhfnabDoorTie.lean); close each card by the builder's one call (the guide's Derived/Test/ToyasCard.lean, 'card_holds'). Laid BY PROGRAM, IN A SANDBOX (cutbox-door.mjs). By AI agents, Wed Nov 11 2026. No macro, syntax, notation, axiom, sorry.
-/
import Derived.Test.YtgclohgcehhfnabDoorRows
import GoSem.ClaimSeven
namespace Go.Proofs.YtgclohgcehhfnabDoor
namespace Rows

/-- THE TIED CARD OF 'estreatlaw11.HistoryFirst'. -/
def historyFirstCard : Claim7 := { stood := { row := historyFirstRow, standIns := [], harness := (true, "ad5035b739f994ad302a09f9357429e17536e9d813df2fa953262a11e9551f46"), looks := false }, kinds := [], alts := [], laidByText := true, laidKinds := [.data], laidTests := true, laidLooks := .later }
def HistoryFirstCardSaid : Prop := Claim7.holds Tryd.pinned (.plain (OpenSpec.ofChange historyFirstSpec)) historyFirstCard

/-- THE SECOND FORM's CARD OF 'estreatlaw11.HistoryFirst'. -/
def historyFirstUptoCard : Claim7 := { stood := { row := historyFirstUptoRow, standIns := [], harness := (true, "ad5035b739f994ad302a09f9357429e17536e9d813df2fa953262a11e9551f46"), looks := false }, kinds := [], alts := [], laidByText := true, laidKinds := [.data], laidTests := true, laidLooks := .later }
def HistoryFirstUptoCardSaid : Prop := Claim7.holds Tryd.pinned (.plain (OpenSpec.upto historyFirstSpec)) historyFirstUptoCard
end Rows
end Go.Proofs.YtgclohgcehhfnabDoor
