/-
  DERIVED. GIVEN WITH THE SEED: THE CARDS: each row of YtdnnhmihigdnkaaDoorRows.lean that lists a variable, with what it lists TIED to the program's text (the seventh form; the later family's looks); each row that meets fmt, with fmt's text TOLD by the authors' own Lean function (tested against real Go, not proved from fmt's source: count such statements apart). THE CARD IS WHAT COUNTS. Prove the row's statement (the work); the ties are given (YtdnnhmihigdnkaaDoorTie.lean); close each card by the builder's one call (the guide's Derived/Test/ToyasCard.lean, 'card_holds'). Laid BY PROGRAM, IN A SANDBOX (cutbox-door.mjs). By AI agents, Wed Nov 11 2026. No macro, syntax, notation, axiom, sorry.
-/
import Derived.Test.YtdnnhmihigdnkaaDoorRows
import GoSem.ClaimSeven
namespace Go.Proofs.YtdnnhmihigdnkaaDoor
namespace Rows

/-- THE TIED CARD OF 'estreatlaw10.WalRuns'. -/
def walRunsCard : Claim7 := { stood := { row := walRunsRow, standIns := [], harness := (true, "74faf92c11740309448626eeb6c14b1792ee05671cb58614125015886e169da2"), looks := true }, kinds := [], alts := [], laidByText := true, laidKinds := [.data, .data, .data], laidTests := true, laidLooks := .later }
def WalRunsCardSaid : Prop := Claim7.holds Tryd.pinned (.plain (OpenSpec.ofChange walRunsSpec)) walRunsCard

/-- THE TIED CARD OF 'estreatlaw10.WalBatches'. -/
def walBatchesCard : Claim7 := { stood := { row := walBatchesRow, standIns := [], harness := (true, "74faf92c11740309448626eeb6c14b1792ee05671cb58614125015886e169da2"), looks := true }, kinds := [], alts := [], laidByText := true, laidKinds := [.data, .data, .data], laidTests := true, laidLooks := .later }
def WalBatchesCardSaid : Prop := Claim7.holds Tryd.pinned (.plain (OpenSpec.ofChange walBatchesSpec)) walBatchesCard

/-- THE TIED CARD OF 'estreatlaw10.WalResets'. -/
def walResetsCard : Claim7 := { stood := { row := walResetsRow, standIns := [], harness := (true, "74faf92c11740309448626eeb6c14b1792ee05671cb58614125015886e169da2"), looks := true }, kinds := [], alts := [], laidByText := true, laidKinds := [.data, .data, .data], laidTests := true, laidLooks := .later }
def WalResetsCardSaid : Prop := Claim7.holds Tryd.pinned (.plain (OpenSpec.ofChange walResetsSpec)) walResetsCard

/-- THE TIED CARD OF 'estreatlaw10.WalTwo'. -/
def walTwoCard : Claim7 := { stood := { row := walTwoRow, standIns := [], harness := (true, "74faf92c11740309448626eeb6c14b1792ee05671cb58614125015886e169da2"), looks := true }, kinds := [], alts := [], laidByText := true, laidKinds := [.data, .data, .data], laidTests := true, laidLooks := .later }
def WalTwoCardSaid : Prop := Claim7.holds Tryd.pinned (.plain (OpenSpec.ofChange walTwoSpec)) walTwoCard

/-- THE TIED CARD OF 'estreatlaw10.WalNil'. -/
def walNilCard : Claim7 := { stood := { row := walNilRow, standIns := [], harness := (true, "74faf92c11740309448626eeb6c14b1792ee05671cb58614125015886e169da2"), looks := true }, kinds := [], alts := [], laidByText := true, laidKinds := [.data, .data, .data], laidTests := true, laidLooks := .later }
def WalNilCardSaid : Prop := Claim7.holds Tryd.pinned (.plain (OpenSpec.ofChange walNilSpec)) walNilCard

/-- THE TIED CARD OF 'estreatlaw10.WalOrder'. -/
def walOrderCard : Claim7 := { stood := { row := walOrderRow, standIns := [], harness := (true, "74faf92c11740309448626eeb6c14b1792ee05671cb58614125015886e169da2"), looks := true }, kinds := [], alts := [], laidByText := true, laidKinds := [.data, .data, .data], laidTests := true, laidLooks := .later }
def WalOrderCardSaid : Prop := Claim7.holds Tryd.pinned (.plain (OpenSpec.ofChange walOrderSpec)) walOrderCard

/-- THE SECOND FORM's CARD OF 'estreatlaw10.WalRuns'. -/
def walRunsUptoCard : Claim7 := { stood := { row := walRunsUptoRow, standIns := [], harness := (true, "74faf92c11740309448626eeb6c14b1792ee05671cb58614125015886e169da2"), looks := true }, kinds := [], alts := [], laidByText := true, laidKinds := [.data, .data, .data], laidTests := true, laidLooks := .later }
def WalRunsUptoCardSaid : Prop := Claim7.holds Tryd.pinned (.plain (OpenSpec.upto walRunsSpec)) walRunsUptoCard

/-- THE SECOND FORM's CARD OF 'estreatlaw10.WalBatches'. -/
def walBatchesUptoCard : Claim7 := { stood := { row := walBatchesUptoRow, standIns := [], harness := (true, "74faf92c11740309448626eeb6c14b1792ee05671cb58614125015886e169da2"), looks := true }, kinds := [], alts := [], laidByText := true, laidKinds := [.data, .data, .data], laidTests := true, laidLooks := .later }
def WalBatchesUptoCardSaid : Prop := Claim7.holds Tryd.pinned (.plain (OpenSpec.upto walBatchesSpec)) walBatchesUptoCard

/-- THE SECOND FORM's CARD OF 'estreatlaw10.WalResets'. -/
def walResetsUptoCard : Claim7 := { stood := { row := walResetsUptoRow, standIns := [], harness := (true, "74faf92c11740309448626eeb6c14b1792ee05671cb58614125015886e169da2"), looks := true }, kinds := [], alts := [], laidByText := true, laidKinds := [.data, .data, .data], laidTests := true, laidLooks := .later }
def WalResetsUptoCardSaid : Prop := Claim7.holds Tryd.pinned (.plain (OpenSpec.upto walResetsSpec)) walResetsUptoCard

/-- THE SECOND FORM's CARD OF 'estreatlaw10.WalTwo'. -/
def walTwoUptoCard : Claim7 := { stood := { row := walTwoUptoRow, standIns := [], harness := (true, "74faf92c11740309448626eeb6c14b1792ee05671cb58614125015886e169da2"), looks := true }, kinds := [], alts := [], laidByText := true, laidKinds := [.data, .data, .data], laidTests := true, laidLooks := .later }
def WalTwoUptoCardSaid : Prop := Claim7.holds Tryd.pinned (.plain (OpenSpec.upto walTwoSpec)) walTwoUptoCard

/-- THE SECOND FORM's CARD OF 'estreatlaw10.WalNil'. -/
def walNilUptoCard : Claim7 := { stood := { row := walNilUptoRow, standIns := [], harness := (true, "74faf92c11740309448626eeb6c14b1792ee05671cb58614125015886e169da2"), looks := true }, kinds := [], alts := [], laidByText := true, laidKinds := [.data, .data, .data], laidTests := true, laidLooks := .later }
def WalNilUptoCardSaid : Prop := Claim7.holds Tryd.pinned (.plain (OpenSpec.upto walNilSpec)) walNilUptoCard

/-- THE SECOND FORM's CARD OF 'estreatlaw10.WalOrder'. -/
def walOrderUptoCard : Claim7 := { stood := { row := walOrderUptoRow, standIns := [], harness := (true, "74faf92c11740309448626eeb6c14b1792ee05671cb58614125015886e169da2"), looks := true }, kinds := [], alts := [], laidByText := true, laidKinds := [.data, .data, .data], laidTests := true, laidLooks := .later }
def WalOrderUptoCardSaid : Prop := Claim7.holds Tryd.pinned (.plain (OpenSpec.upto walOrderSpec)) walOrderUptoCard
end Rows
end Go.Proofs.YtdnnhmihigdnkaaDoor
