/-
  DERIVED. GIVEN WITH THE SEED: THE CARDS: each row of YtkfeafmpaodagaaGreatDoorRows.lean that lists a variable, with what it lists TIED to the program's text (the seventh form; the later family's looks); each row that meets fmt, with fmt's text TOLD by the authors' own Lean function (tested against real Go, not proved from fmt's source: count such statements apart). THE CARD IS WHAT COUNTS. Prove the row's statement (the work); the ties are given (YtkfeafmpaodagaaGreatDoorTie.lean); close each card by the builder's one call (the guide's Derived/Test/ToyasCard.lean, 'card_holds'). Laid BY PROGRAM, IN A SANDBOX (cutbox-door.mjs). By AI agents, Wed Nov 11 2026. No macro, syntax, notation, axiom, sorry.
-/
import Derived.Test.YtkfeafmpaodagaaGreatDoorRows
import GoSem.ClaimSeven
namespace Go.Proofs.YtkfeafmpaodagaaGreatDoor
namespace Rows

/-- THE TIED CARD OF 'butterylaw12.ExecDoes'. -/
def execDoesCard : Claim7 := { stood := { row := execDoesRow, standIns := [], harness := (true, "07b7b8a3b30ee16295a3be2d2604960937a54179e6f1eeef176b39593c4101fe"), looks := true }, kinds := [], alts := [], laidByText := true, laidKinds := [.data, .data, .data, .sentinel, .sentinel], laidTests := true, laidLooks := .later }
def ExecDoesCardSaid : Prop := Claim7.holds Tryz.pinned (.plain (OpenSpec.ofChange execDoesSpec)) execDoesCard

/-- THE TIED CARD OF 'butterylaw12.ExecTells'. -/
def execTellsCard : Claim7 := { stood := { row := execTellsRow, standIns := [], harness := (true, "07b7b8a3b30ee16295a3be2d2604960937a54179e6f1eeef176b39593c4101fe"), looks := true }, kinds := [], alts := [], laidByText := true, laidKinds := [.data, .data, .data, .sentinel, .sentinel], laidTests := true, laidLooks := .later }
def ExecTellsCardSaid : Prop := Claim7.holds Tryz.pinned (.plain (OpenSpec.ofChange execTellsSpec)) execTellsCard

/-- THE SECOND FORM's CARD OF 'butterylaw12.ExecDoes'. -/
def execDoesUptoCard : Claim7 := { stood := { row := execDoesUptoRow, standIns := [], harness := (true, "07b7b8a3b30ee16295a3be2d2604960937a54179e6f1eeef176b39593c4101fe"), looks := true }, kinds := [], alts := [], laidByText := true, laidKinds := [.data, .data, .data, .sentinel, .sentinel], laidTests := true, laidLooks := .later }
def ExecDoesUptoCardSaid : Prop := Claim7.holds Tryz.pinned (.plain (OpenSpec.upto execDoesSpec)) execDoesUptoCard

/-- THE SECOND FORM's CARD OF 'butterylaw12.ExecTells'. -/
def execTellsUptoCard : Claim7 := { stood := { row := execTellsUptoRow, standIns := [], harness := (true, "07b7b8a3b30ee16295a3be2d2604960937a54179e6f1eeef176b39593c4101fe"), looks := true }, kinds := [], alts := [], laidByText := true, laidKinds := [.data, .data, .data, .sentinel, .sentinel], laidTests := true, laidLooks := .later }
def ExecTellsUptoCardSaid : Prop := Claim7.holds Tryz.pinned (.plain (OpenSpec.upto execTellsSpec)) execTellsUptoCard
end Rows
end Go.Proofs.YtkfeafmpaodagaaGreatDoor
