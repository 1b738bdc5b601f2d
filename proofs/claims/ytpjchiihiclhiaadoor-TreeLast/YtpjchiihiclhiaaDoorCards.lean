/-
  DERIVED. GIVEN WITH THE SEED: THE CARDS: each row of YtpjchiihiclhiaaDoorRows.lean that lists a variable, with what it lists TIED to the program's text (the seventh form; the later family's looks); each row that meets fmt, with fmt's text TOLD by the authors' own Lean function (tested against real Go, not proved from fmt's source: count such statements apart). THE CARD IS WHAT COUNTS. Prove the row's statement (the work); the ties are given (YtpjchiihiclhiaaDoorTie.lean); close each card by the builder's one call (the guide's Derived/Test/ToyasCard.lean, 'card_holds'). Laid BY PROGRAM, IN A SANDBOX (cutbox-door.mjs). By AI agents, Wed Nov 11 2026. No macro, syntax, notation, axiom, sorry.
-/
import Derived.Test.YtpjchiihiclhiaaDoorRows
import GoSem.ClaimSeven
namespace Go.Proofs.YtpjchiihiclhiaaDoor
namespace Rows

/-- THE TIED CARD OF 'estreatlaw03.TreeRoots'. -/
def treeRootsCard : Claim7 := { stood := { row := treeRootsRow, standIns := [], harness := (true, "3d18dbda31b1efadfd86d3fa20e42fccbde7d8a5dca998275fe51aca8c8c790f"), looks := false }, kinds := [], alts := [], laidByText := true, laidKinds := [.data, .data], laidTests := true, laidLooks := .later }
def TreeRootsCardSaid : Prop := Claim7.holds Tryd.pinned (.plain (OpenSpec.ofChange treeRootsSpec)) treeRootsCard

/-- THE TIED CARD OF 'estreatlaw03.TreeIncludes'. -/
def treeIncludesCard : Claim7 := { stood := { row := treeIncludesRow, standIns := [], harness := (true, "3d18dbda31b1efadfd86d3fa20e42fccbde7d8a5dca998275fe51aca8c8c790f"), looks := false }, kinds := [], alts := [], laidByText := true, laidKinds := [.data, .data], laidTests := true, laidLooks := .later }
def TreeIncludesCardSaid : Prop := Claim7.holds Tryd.pinned (.plain (OpenSpec.ofChange treeIncludesSpec)) treeIncludesCard

/-- THE TIED CARD OF 'estreatlaw03.TreeGoes'. -/
def treeGoesCard : Claim7 := { stood := { row := treeGoesRow, standIns := [], harness := (true, "3d18dbda31b1efadfd86d3fa20e42fccbde7d8a5dca998275fe51aca8c8c790f"), looks := false }, kinds := [], alts := [], laidByText := true, laidKinds := [.data, .data], laidTests := true, laidLooks := .later }
def TreeGoesCardSaid : Prop := Claim7.holds Tryd.pinned (.plain (OpenSpec.ofChange treeGoesSpec)) treeGoesCard

/-- THE TIED CARD OF 'estreatlaw03.TreeShort'. -/
def treeShortCard : Claim7 := { stood := { row := treeShortRow, standIns := [], harness := (true, "3d18dbda31b1efadfd86d3fa20e42fccbde7d8a5dca998275fe51aca8c8c790f"), looks := false }, kinds := [], alts := [], laidByText := true, laidKinds := [.data], laidTests := true, laidLooks := .later }
def TreeShortCardSaid : Prop := Claim7.holds Tryd.pinned (.plain (OpenSpec.ofChange treeShortSpec)) treeShortCard

/-- THE TIED CARD OF 'estreatlaw03.TreeLast'. -/
def treeLastCard : Claim7 := { stood := { row := treeLastRow, standIns := [], harness := (true, "3d18dbda31b1efadfd86d3fa20e42fccbde7d8a5dca998275fe51aca8c8c790f"), looks := false }, kinds := [], alts := [], laidByText := true, laidKinds := [.data], laidTests := true, laidLooks := .later }
def TreeLastCardSaid : Prop := Claim7.holds Tryd.pinned (.plain (OpenSpec.ofChange treeLastSpec)) treeLastCard

/-- THE TIED CARD OF 'estreatlaw03.TreeSplits'. -/
def treeSplitsCard : Claim7 := { stood := { row := treeSplitsRow, standIns := [], harness := (true, "3d18dbda31b1efadfd86d3fa20e42fccbde7d8a5dca998275fe51aca8c8c790f"), looks := false }, kinds := [], alts := [], laidByText := true, laidKinds := [.data], laidTests := true, laidLooks := .later }
def TreeSplitsCardSaid : Prop := Claim7.holds Tryd.pinned (.plain (OpenSpec.ofChange treeSplitsSpec)) treeSplitsCard

/-- THE SECOND FORM's CARD OF 'estreatlaw03.TreeRoots'. -/
def treeRootsUptoCard : Claim7 := { stood := { row := treeRootsUptoRow, standIns := [], harness := (true, "3d18dbda31b1efadfd86d3fa20e42fccbde7d8a5dca998275fe51aca8c8c790f"), looks := false }, kinds := [], alts := [], laidByText := true, laidKinds := [.data, .data], laidTests := true, laidLooks := .later }
def TreeRootsUptoCardSaid : Prop := Claim7.holds Tryd.pinned (.plain (OpenSpec.upto treeRootsSpec)) treeRootsUptoCard

/-- THE SECOND FORM's CARD OF 'estreatlaw03.TreeIncludes'. -/
def treeIncludesUptoCard : Claim7 := { stood := { row := treeIncludesUptoRow, standIns := [], harness := (true, "3d18dbda31b1efadfd86d3fa20e42fccbde7d8a5dca998275fe51aca8c8c790f"), looks := false }, kinds := [], alts := [], laidByText := true, laidKinds := [.data, .data], laidTests := true, laidLooks := .later }
def TreeIncludesUptoCardSaid : Prop := Claim7.holds Tryd.pinned (.plain (OpenSpec.upto treeIncludesSpec)) treeIncludesUptoCard

/-- THE SECOND FORM's CARD OF 'estreatlaw03.TreeGoes'. -/
def treeGoesUptoCard : Claim7 := { stood := { row := treeGoesUptoRow, standIns := [], harness := (true, "3d18dbda31b1efadfd86d3fa20e42fccbde7d8a5dca998275fe51aca8c8c790f"), looks := false }, kinds := [], alts := [], laidByText := true, laidKinds := [.data, .data], laidTests := true, laidLooks := .later }
def TreeGoesUptoCardSaid : Prop := Claim7.holds Tryd.pinned (.plain (OpenSpec.upto treeGoesSpec)) treeGoesUptoCard

/-- THE SECOND FORM's CARD OF 'estreatlaw03.TreeShort'. -/
def treeShortUptoCard : Claim7 := { stood := { row := treeShortUptoRow, standIns := [], harness := (true, "3d18dbda31b1efadfd86d3fa20e42fccbde7d8a5dca998275fe51aca8c8c790f"), looks := false }, kinds := [], alts := [], laidByText := true, laidKinds := [.data], laidTests := true, laidLooks := .later }
def TreeShortUptoCardSaid : Prop := Claim7.holds Tryd.pinned (.plain (OpenSpec.upto treeShortSpec)) treeShortUptoCard

/-- THE SECOND FORM's CARD OF 'estreatlaw03.TreeLast'. -/
def treeLastUptoCard : Claim7 := { stood := { row := treeLastUptoRow, standIns := [], harness := (true, "3d18dbda31b1efadfd86d3fa20e42fccbde7d8a5dca998275fe51aca8c8c790f"), looks := false }, kinds := [], alts := [], laidByText := true, laidKinds := [.data], laidTests := true, laidLooks := .later }
def TreeLastUptoCardSaid : Prop := Claim7.holds Tryd.pinned (.plain (OpenSpec.upto treeLastSpec)) treeLastUptoCard

/-- THE SECOND FORM's CARD OF 'estreatlaw03.TreeSplits'. -/
def treeSplitsUptoCard : Claim7 := { stood := { row := treeSplitsUptoRow, standIns := [], harness := (true, "3d18dbda31b1efadfd86d3fa20e42fccbde7d8a5dca998275fe51aca8c8c790f"), looks := false }, kinds := [], alts := [], laidByText := true, laidKinds := [.data], laidTests := true, laidLooks := .later }
def TreeSplitsUptoCardSaid : Prop := Claim7.holds Tryd.pinned (.plain (OpenSpec.upto treeSplitsSpec)) treeSplitsUptoCard
end Rows
end Go.Proofs.YtpjchiihiclhiaaDoor
