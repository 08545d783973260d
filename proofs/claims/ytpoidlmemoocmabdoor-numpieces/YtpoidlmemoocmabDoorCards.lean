/-
  DERIVED. GIVEN WITH THE SEED: THE CARDS: each row of YtpoidlmemoocmabDoorRows.lean that lists a variable, with what it lists TIED to the program's text (the seventh form; the later family's looks); each row that meets fmt, with fmt's text TOLD by the authors' own Lean function (tested against real Go, not proved from fmt's source: count such statements apart). THE CARD IS WHAT COUNTS. Prove the row's statement (the work); the ties are given (YtpoidlmemoocmabDoorTie.lean); close each card by the builder's one call (the guide's Derived/Test/ToyasCard.lean, 'card_holds'). Laid BY PROGRAM, IN A SANDBOX (cutbox-door.mjs). By AI agents, Wed Nov 11 2026. No macro, syntax, notation, axiom, sorry.
-/
import Derived.Test.YtpoidlmemoocmabDoorRows
import GoSem.ClaimSeven
namespace Go.Proofs.YtpoidlmemoocmabDoor
namespace Rows

/-- THE TIED CARD OF 'butterylaw01.NumOrders'. -/
def numOrdersCard : Claim7 := { stood := { row := numOrdersRow, standIns := [], harness := (true, "47b3343f284ef9689c9b008721e09b3d277504647cb1534bd7b41ca0b28a8de9"), looks := true }, kinds := [], alts := [], laidByText := true, laidKinds := [.data, .data, .data, .sentinel, .sentinel], laidTests := true, laidLooks := .later }
def NumOrdersCardSaid : Prop := Claim7.holds Tryd.pinned (.plain (OpenSpec.ofChange numOrdersSpec)) numOrdersCard

/-- THE TIED CARD OF 'butterylaw01.NumPieces'. -/
def numPiecesCard : Claim7 := { stood := { row := numPiecesRow, standIns := [], harness := (true, "47b3343f284ef9689c9b008721e09b3d277504647cb1534bd7b41ca0b28a8de9"), looks := true }, kinds := [], alts := [], laidByText := true, laidKinds := [.data, .data, .data, .sentinel, .sentinel], laidTests := true, laidLooks := .later }
def NumPiecesCardSaid : Prop := Claim7.holds Tryd.pinned (.plain (OpenSpec.ofChange numPiecesSpec)) numPiecesCard

/-- THE SECOND FORM's CARD OF 'butterylaw01.NumOrders'. -/
def numOrdersUptoCard : Claim7 := { stood := { row := numOrdersUptoRow, standIns := [], harness := (true, "47b3343f284ef9689c9b008721e09b3d277504647cb1534bd7b41ca0b28a8de9"), looks := true }, kinds := [], alts := [], laidByText := true, laidKinds := [.data, .data, .data, .sentinel, .sentinel], laidTests := true, laidLooks := .later }
def NumOrdersUptoCardSaid : Prop := Claim7.holds Tryd.pinned (.plain (OpenSpec.upto numOrdersSpec)) numOrdersUptoCard

/-- THE SECOND FORM's CARD OF 'butterylaw01.NumPieces'. -/
def numPiecesUptoCard : Claim7 := { stood := { row := numPiecesUptoRow, standIns := [], harness := (true, "47b3343f284ef9689c9b008721e09b3d277504647cb1534bd7b41ca0b28a8de9"), looks := true }, kinds := [], alts := [], laidByText := true, laidKinds := [.data, .data, .data, .sentinel, .sentinel], laidTests := true, laidLooks := .later }
def NumPiecesUptoCardSaid : Prop := Claim7.holds Tryd.pinned (.plain (OpenSpec.upto numPiecesSpec)) numPiecesUptoCard
end Rows
end Go.Proofs.YtpoidlmemoocmabDoor
