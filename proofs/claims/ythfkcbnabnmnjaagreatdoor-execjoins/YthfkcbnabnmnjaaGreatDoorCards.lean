/-
  DERIVED. GIVEN WITH THE SEED: THE CARDS: each row of YthfkcbnabnmnjaaGreatDoorRows.lean that lists a variable, with what it lists TIED to the program's text (the seventh form; the later family's looks); each row that meets fmt, with fmt's text TOLD by the authors' own Lean function (tested against real Go, not proved from fmt's source: count such statements apart). THE CARD IS WHAT COUNTS. Prove the row's statement (the work); the ties are given (YthfkcbnabnmnjaaGreatDoorTie.lean); close each card by the builder's one call (the guide's Derived/Test/ToyasCard.lean, 'card_holds'). Laid BY PROGRAM, IN A SANDBOX (cutbox-door.mjs). By AI agents, Wed Nov 11 2026. No macro, syntax, notation, axiom, sorry.
-/
import Derived.Test.YthfkcbnabnmnjaaGreatDoorRows
import GoSem.ClaimSeven
namespace Go.Proofs.YthfkcbnabnmnjaaGreatDoor
namespace Rows

/-- THE TIED CARD OF 'butterylaw12.ExecDoes'. -/
def execDoesCard : Claim7 := { stood := { row := execDoesRow, standIns := [], harness := (true, "e99a85083c6de86446a6ef443539a6ff328a20680ecc73576d238239ae8953f2"), looks := true }, kinds := [], alts := [], laidByText := true, laidKinds := [.data, .data, .data, .sentinel, .sentinel], laidTests := true, laidLooks := .later }
def ExecDoesCardSaid : Prop := Claim7.holds Tryz.pinned (.plain (OpenSpec.ofChange execDoesSpec)) execDoesCard

/-- THE TIED CARD OF 'butterylaw12.ExecTells'. -/
def execTellsCard : Claim7 := { stood := { row := execTellsRow, standIns := [], harness := (true, "e99a85083c6de86446a6ef443539a6ff328a20680ecc73576d238239ae8953f2"), looks := true }, kinds := [], alts := [], laidByText := true, laidKinds := [.data, .data, .data, .sentinel, .sentinel], laidTests := true, laidLooks := .later }
def ExecTellsCardSaid : Prop := Claim7.holds Tryz.pinned (.plain (OpenSpec.ofChange execTellsSpec)) execTellsCard

/-- THE TIED CARD OF 'butterylaw12.ExecAsks'. -/
def execAsksCard : Claim7 := { stood := { row := execAsksRow, standIns := [], harness := (true, "e99a85083c6de86446a6ef443539a6ff328a20680ecc73576d238239ae8953f2"), looks := true }, kinds := [], alts := [], laidByText := true, laidKinds := [.data, .data, .data, .sentinel, .sentinel], laidTests := true, laidLooks := .later }
def ExecAsksCardSaid : Prop := Claim7.holds Tryz.pinned (.plain (OpenSpec.ofChange execAsksSpec)) execAsksCard

/-- THE TIED CARD OF 'butterylaw12.ExecWins'. -/
def execWinsCard : Claim7 := { stood := { row := execWinsRow, standIns := [], harness := (true, "e99a85083c6de86446a6ef443539a6ff328a20680ecc73576d238239ae8953f2"), looks := true }, kinds := [], alts := [], laidByText := true, laidKinds := [.data, .data, .data, .sentinel, .sentinel], laidTests := true, laidLooks := .later }
def ExecWinsCardSaid : Prop := Claim7.holds Tryz.pinned (.plain (OpenSpec.ofChange execWinsSpec)) execWinsCard

/-- THE TIED CARD OF 'butterylaw12.ExecAdds'. -/
def execAddsCard : Claim7 := { stood := { row := execAddsRow, standIns := [], harness := (true, "e99a85083c6de86446a6ef443539a6ff328a20680ecc73576d238239ae8953f2"), looks := true }, kinds := [], alts := [], laidByText := true, laidKinds := [.data, .data, .data, .sentinel, .sentinel], laidTests := true, laidLooks := .later }
def ExecAddsCardSaid : Prop := Claim7.holds Tryz.pinned (.plain (OpenSpec.ofChange execAddsSpec)) execAddsCard

/-- THE TIED CARD OF 'butterylaw12.ExecJoins'. -/
def execJoinsCard : Claim7 := { stood := { row := execJoinsRow, standIns := [], harness := (true, "e99a85083c6de86446a6ef443539a6ff328a20680ecc73576d238239ae8953f2"), looks := true }, kinds := [], alts := [], laidByText := true, laidKinds := [.data, .data, .data, .sentinel, .sentinel], laidTests := true, laidLooks := .later }
def ExecJoinsCardSaid : Prop := Claim7.holds Tryz.pinned (.plain (OpenSpec.ofChange execJoinsSpec)) execJoinsCard

/-- THE SECOND FORM's CARD OF 'butterylaw12.ExecDoes'. -/
def execDoesUptoCard : Claim7 := { stood := { row := execDoesUptoRow, standIns := [], harness := (true, "e99a85083c6de86446a6ef443539a6ff328a20680ecc73576d238239ae8953f2"), looks := true }, kinds := [], alts := [], laidByText := true, laidKinds := [.data, .data, .data, .sentinel, .sentinel], laidTests := true, laidLooks := .later }
def ExecDoesUptoCardSaid : Prop := Claim7.holds Tryz.pinned (.plain (OpenSpec.upto execDoesSpec)) execDoesUptoCard

/-- THE SECOND FORM's CARD OF 'butterylaw12.ExecTells'. -/
def execTellsUptoCard : Claim7 := { stood := { row := execTellsUptoRow, standIns := [], harness := (true, "e99a85083c6de86446a6ef443539a6ff328a20680ecc73576d238239ae8953f2"), looks := true }, kinds := [], alts := [], laidByText := true, laidKinds := [.data, .data, .data, .sentinel, .sentinel], laidTests := true, laidLooks := .later }
def ExecTellsUptoCardSaid : Prop := Claim7.holds Tryz.pinned (.plain (OpenSpec.upto execTellsSpec)) execTellsUptoCard

/-- THE SECOND FORM's CARD OF 'butterylaw12.ExecAsks'. -/
def execAsksUptoCard : Claim7 := { stood := { row := execAsksUptoRow, standIns := [], harness := (true, "e99a85083c6de86446a6ef443539a6ff328a20680ecc73576d238239ae8953f2"), looks := true }, kinds := [], alts := [], laidByText := true, laidKinds := [.data, .data, .data, .sentinel, .sentinel], laidTests := true, laidLooks := .later }
def ExecAsksUptoCardSaid : Prop := Claim7.holds Tryz.pinned (.plain (OpenSpec.upto execAsksSpec)) execAsksUptoCard

/-- THE SECOND FORM's CARD OF 'butterylaw12.ExecWins'. -/
def execWinsUptoCard : Claim7 := { stood := { row := execWinsUptoRow, standIns := [], harness := (true, "e99a85083c6de86446a6ef443539a6ff328a20680ecc73576d238239ae8953f2"), looks := true }, kinds := [], alts := [], laidByText := true, laidKinds := [.data, .data, .data, .sentinel, .sentinel], laidTests := true, laidLooks := .later }
def ExecWinsUptoCardSaid : Prop := Claim7.holds Tryz.pinned (.plain (OpenSpec.upto execWinsSpec)) execWinsUptoCard

/-- THE SECOND FORM's CARD OF 'butterylaw12.ExecAdds'. -/
def execAddsUptoCard : Claim7 := { stood := { row := execAddsUptoRow, standIns := [], harness := (true, "e99a85083c6de86446a6ef443539a6ff328a20680ecc73576d238239ae8953f2"), looks := true }, kinds := [], alts := [], laidByText := true, laidKinds := [.data, .data, .data, .sentinel, .sentinel], laidTests := true, laidLooks := .later }
def ExecAddsUptoCardSaid : Prop := Claim7.holds Tryz.pinned (.plain (OpenSpec.upto execAddsSpec)) execAddsUptoCard

/-- THE SECOND FORM's CARD OF 'butterylaw12.ExecJoins'. -/
def execJoinsUptoCard : Claim7 := { stood := { row := execJoinsUptoRow, standIns := [], harness := (true, "e99a85083c6de86446a6ef443539a6ff328a20680ecc73576d238239ae8953f2"), looks := true }, kinds := [], alts := [], laidByText := true, laidKinds := [.data, .data, .data, .sentinel, .sentinel], laidTests := true, laidLooks := .later }
def ExecJoinsUptoCardSaid : Prop := Claim7.holds Tryz.pinned (.plain (OpenSpec.upto execJoinsSpec)) execJoinsUptoCard
end Rows
end Go.Proofs.YthfkcbnabnmnjaaGreatDoor
