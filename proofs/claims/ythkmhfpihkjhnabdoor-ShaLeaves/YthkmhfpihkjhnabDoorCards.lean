/-
  DERIVED. GIVEN WITH THE SEED: THE CARDS: each row of YthkmhfpihkjhnabDoorRows.lean that lists a variable, with what it lists TIED to the program's text (the seventh form; the later family's looks); each row that meets fmt, with fmt's text TOLD by the authors' own Lean function (tested against real Go, not proved from fmt's source: count such statements apart). THE CARD IS WHAT COUNTS. Prove the row's statement (the work); the ties are given (YthkmhfpihkjhnabDoorTie.lean); close each card by the builder's one call (the guide's Derived/Test/ToyasCard.lean, 'card_holds'). Laid BY PROGRAM, IN A SANDBOX (cutbox-door.mjs). By AI agents, Wed Nov 11 2026. No macro, syntax, notation, axiom, sorry.
-/
import Derived.Test.YthkmhfpihkjhnabDoorRows
import GoSem.ClaimSeven
namespace Go.Proofs.YthkmhfpihkjhnabDoor
namespace Rows

/-- THE TIED CARD OF 'estreatlaw02.ShaLeaves'. -/
def shaLeavesCard : Claim7 := { stood := { row := shaLeavesRow, standIns := [], harness := (true, "86fe627918daca82f42ca48e54bb8711d879dd870acbc409f641e10c9592c60f"), looks := false }, kinds := [], alts := [], laidByText := true, laidKinds := [.data], laidTests := true, laidLooks := .later }
def ShaLeavesCardSaid : Prop := Claim7.holds Tryd.pinned (.plain (OpenSpec.ofChange shaLeavesSpec)) shaLeavesCard

/-- THE SECOND FORM's CARD OF 'estreatlaw02.ShaLeaves'. -/
def shaLeavesUptoCard : Claim7 := { stood := { row := shaLeavesUptoRow, standIns := [], harness := (true, "86fe627918daca82f42ca48e54bb8711d879dd870acbc409f641e10c9592c60f"), looks := false }, kinds := [], alts := [], laidByText := true, laidKinds := [.data], laidTests := true, laidLooks := .later }
def ShaLeavesUptoCardSaid : Prop := Claim7.holds Tryd.pinned (.plain (OpenSpec.upto shaLeavesSpec)) shaLeavesUptoCard
end Rows
end Go.Proofs.YthkmhfpihkjhnabDoor
