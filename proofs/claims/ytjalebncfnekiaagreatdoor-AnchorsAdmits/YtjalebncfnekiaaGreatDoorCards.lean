/-
  DERIVED. GIVEN WITH THE SEED: THE CARDS: each row of YtjalebncfnekiaaGreatDoorRows.lean that lists a variable, with what it lists TIED to the program's text (the seventh form; the later family's looks); each row that meets fmt, with fmt's text TOLD by the authors' own Lean function (tested against real Go, not proved from fmt's source: count such statements apart). THE CARD IS WHAT COUNTS. Prove the row's statement (the work); the ties are given (YtjalebncfnekiaaGreatDoorTie.lean); close each card by the builder's one call (the guide's Derived/Test/ToyasCard.lean, 'card_holds'). Laid BY PROGRAM, IN A SANDBOX (cutbox-door.mjs). By AI agents, Wed Nov 11 2026. No macro, syntax, notation, axiom, sorry.
-/
import Derived.Test.YtjalebncfnekiaaGreatDoorRows
import GoSem.ClaimSeven
namespace Go.Proofs.YtjalebncfnekiaaGreatDoor
namespace Rows

/-- THE TIED CARD OF 'estreatlaw13.AnchorsAdmits'. -/
def anchorsAdmitsCard : Claim7 := { stood := { row := anchorsAdmitsRow, standIns := [], harness := (true, "d9b98020c78d4b20fa68b20b470036d2a047ff9638a877f58c7414d194ab31ae"), looks := false }, kinds := [], alts := [], laidByText := true, laidKinds := [.data, .data], laidTests := true, laidLooks := .later }
def AnchorsAdmitsCardSaid : Prop := Claim7.holds Tryz.pinned (.plain (OpenSpec.ofChange anchorsAdmitsSpec)) anchorsAdmitsCard

/-- THE SECOND FORM's CARD OF 'estreatlaw13.AnchorsAdmits'. -/
def anchorsAdmitsUptoCard : Claim7 := { stood := { row := anchorsAdmitsUptoRow, standIns := [], harness := (true, "d9b98020c78d4b20fa68b20b470036d2a047ff9638a877f58c7414d194ab31ae"), looks := false }, kinds := [], alts := [], laidByText := true, laidKinds := [.data, .data], laidTests := true, laidLooks := .later }
def AnchorsAdmitsUptoCardSaid : Prop := Claim7.holds Tryz.pinned (.plain (OpenSpec.upto anchorsAdmitsSpec)) anchorsAdmitsUptoCard
end Rows
end Go.Proofs.YtjalebncfnekiaaGreatDoor
