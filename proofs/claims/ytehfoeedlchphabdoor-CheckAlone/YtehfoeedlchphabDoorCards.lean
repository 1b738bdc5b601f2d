/-
  DERIVED. GIVEN WITH THE SEED: THE CARDS: each row of YtehfoeedlchphabDoorRows.lean that lists a variable, with what it lists TIED to the program's text (the seventh form; the later family's looks); each row that meets fmt, with fmt's text TOLD by the authors' own Lean function (tested against real Go, not proved from fmt's source: count such statements apart). THE CARD IS WHAT COUNTS. Prove the row's statement (the work); the ties are given (YtehfoeedlchphabDoorTie.lean); close each card by the builder's one call (the guide's Derived/Test/ToyasCard.lean, 'card_holds'). Laid BY PROGRAM, IN A SANDBOX (cutbox-door.mjs). By AI agents, Wed Nov 11 2026. No macro, syntax, notation, axiom, sorry.
-/
import Derived.Test.YtehfoeedlchphabDoorRows
import GoSem.ClaimSeven
namespace Go.Proofs.YtehfoeedlchphabDoor
namespace Rows

/-- THE TIED CARD OF 'estreatlaw05.CheckAlone'. -/
def checkAloneCard : Claim7 := { stood := { row := checkAloneRow, standIns := [], harness := (true, "8e05553bdf4f44fa12ee17a5d568cb844f3d4405d548c068319e3ea3130ae84a"), looks := false }, kinds := [], alts := [], laidByText := true, laidKinds := [.data], laidTests := true, laidLooks := .later }
def CheckAloneCardSaid : Prop := Claim7.holds Tryd.pinned (.plain (OpenSpec.ofChange checkAloneSpec)) checkAloneCard

/-- THE SECOND FORM's CARD OF 'estreatlaw05.CheckAlone'. -/
def checkAloneUptoCard : Claim7 := { stood := { row := checkAloneUptoRow, standIns := [], harness := (true, "8e05553bdf4f44fa12ee17a5d568cb844f3d4405d548c068319e3ea3130ae84a"), looks := false }, kinds := [], alts := [], laidByText := true, laidKinds := [.data], laidTests := true, laidLooks := .later }
def CheckAloneUptoCardSaid : Prop := Claim7.holds Tryd.pinned (.plain (OpenSpec.upto checkAloneSpec)) checkAloneUptoCard
end Rows
end Go.Proofs.YtehfoeedlchphabDoor
