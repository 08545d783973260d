/-
  DERIVED. GIVEN WITH THE SEED: THE CARDS: each row of YthfkcbnabnmnjabGreatDoorRows.lean that lists a variable, with what it lists TIED to the program's text (the seventh form; the later family's looks); each row that meets fmt, with fmt's text TOLD by the authors' own Lean function (tested against real Go, not proved from fmt's source: count such statements apart). THE CARD IS WHAT COUNTS. Prove the row's statement (the work); the ties are given (YthfkcbnabnmnjabGreatDoorTie.lean); close each card by the builder's one call (the guide's Derived/Test/ToyasCard.lean, 'card_holds'). Laid BY PROGRAM, IN A SANDBOX (cutbox-door.mjs). By AI agents, Wed Nov 11 2026. No macro, syntax, notation, axiom, sorry.
-/
import Derived.Test.YthfkcbnabnmnjabGreatDoorRows
import GoSem.ClaimSeven
namespace Go.Proofs.YthfkcbnabnmnjabGreatDoor
namespace Rows

/-- THE TIED CARD OF 'butterylaw12.ExecDeletes'. -/
def execDeletesCard : Claim7 := { stood := { row := execDeletesRow, standIns := [], harness := (true, "4fa6f9847895f1e00fde5a97c4e49b566952eda17193574acf115ece8f5e6123"), looks := true }, kinds := [], alts := [], laidByText := true, laidKinds := [.data, .data, .data, .sentinel, .sentinel], laidTests := true, laidLooks := .later }
def ExecDeletesCardSaid : Prop := Claim7.holds Tryz.pinned (.plain (OpenSpec.ofChange execDeletesSpec)) execDeletesCard

/-- THE TIED CARD OF 'butterylaw12.ExecSwaps'. -/
def execSwapsCard : Claim7 := { stood := { row := execSwapsRow, standIns := [], harness := (true, "4fa6f9847895f1e00fde5a97c4e49b566952eda17193574acf115ece8f5e6123"), looks := true }, kinds := [], alts := [], laidByText := true, laidKinds := [.data, .data, .data, .sentinel, .sentinel], laidTests := true, laidLooks := .later }
def ExecSwapsCardSaid : Prop := Claim7.holds Tryz.pinned (.plain (OpenSpec.ofChange execSwapsSpec)) execSwapsCard

/-- THE TIED CARD OF 'butterylaw12.ExecTouches'. -/
def execTouchesCard : Claim7 := { stood := { row := execTouchesRow, standIns := [], harness := (true, "4fa6f9847895f1e00fde5a97c4e49b566952eda17193574acf115ece8f5e6123"), looks := true }, kinds := [], alts := [], laidByText := true, laidKinds := [.data, .data, .data, .sentinel, .sentinel], laidTests := true, laidLooks := .later }
def ExecTouchesCardSaid : Prop := Claim7.holds Tryz.pinned (.plain (OpenSpec.ofChange execTouchesSpec)) execTouchesCard

/-- THE SECOND FORM's CARD OF 'butterylaw12.ExecDeletes'. -/
def execDeletesUptoCard : Claim7 := { stood := { row := execDeletesUptoRow, standIns := [], harness := (true, "4fa6f9847895f1e00fde5a97c4e49b566952eda17193574acf115ece8f5e6123"), looks := true }, kinds := [], alts := [], laidByText := true, laidKinds := [.data, .data, .data, .sentinel, .sentinel], laidTests := true, laidLooks := .later }
def ExecDeletesUptoCardSaid : Prop := Claim7.holds Tryz.pinned (.plain (OpenSpec.upto execDeletesSpec)) execDeletesUptoCard

/-- THE SECOND FORM's CARD OF 'butterylaw12.ExecSwaps'. -/
def execSwapsUptoCard : Claim7 := { stood := { row := execSwapsUptoRow, standIns := [], harness := (true, "4fa6f9847895f1e00fde5a97c4e49b566952eda17193574acf115ece8f5e6123"), looks := true }, kinds := [], alts := [], laidByText := true, laidKinds := [.data, .data, .data, .sentinel, .sentinel], laidTests := true, laidLooks := .later }
def ExecSwapsUptoCardSaid : Prop := Claim7.holds Tryz.pinned (.plain (OpenSpec.upto execSwapsSpec)) execSwapsUptoCard

/-- THE SECOND FORM's CARD OF 'butterylaw12.ExecTouches'. -/
def execTouchesUptoCard : Claim7 := { stood := { row := execTouchesUptoRow, standIns := [], harness := (true, "4fa6f9847895f1e00fde5a97c4e49b566952eda17193574acf115ece8f5e6123"), looks := true }, kinds := [], alts := [], laidByText := true, laidKinds := [.data, .data, .data, .sentinel, .sentinel], laidTests := true, laidLooks := .later }
def ExecTouchesUptoCardSaid : Prop := Claim7.holds Tryz.pinned (.plain (OpenSpec.upto execTouchesSpec)) execTouchesUptoCard
end Rows
end Go.Proofs.YthfkcbnabnmnjabGreatDoor
