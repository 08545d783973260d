/-
  DERIVED. GIVEN WITH THE SEED: THE CARDS: each row of YtfcmnkhfmofioaaDoorRows.lean that lists a variable, with what it lists TIED to the program's text (the seventh form; the later family's looks); each row that meets fmt, with fmt's text TOLD by the authors' own Lean function (tested against real Go, not proved from fmt's source: count such statements apart). THE CARD IS WHAT COUNTS. Prove the row's statement (the work); the ties are given (YtfcmnkhfmofioaaDoorTie.lean); close each card by the builder's one call (the guide's Derived/Test/ToyasCard.lean, 'card_holds'). Laid BY PROGRAM, IN A SANDBOX (cutbox-door.mjs). By AI agents, Wed Nov 11 2026. No macro, syntax, notation, axiom, sorry.
-/
import Derived.Test.YtfcmnkhfmofioaaDoorRows
import GoSem.ClaimSeven
namespace Go.Proofs.YtfcmnkhfmofioaaDoor
namespace Rows

/-- THE TIED CARD OF 'butterylaw14.TextinParses'. -/
def textinParsesCard : Claim7 := { stood := { row := textinParsesRow, standIns := [], harness := (true, "f524aef68929b869572630c2f6998e5fbae17236054fd8bf5de6be5a65b8f89d"), looks := true }, kinds := [], alts := [], laidByText := true, laidKinds := [.data, .data, .data, .sentinel, .sentinel], laidTests := true, laidLooks := .later }
def TextinParsesCardSaid : Prop := Claim7.holds Tryd.pinned (.plain (OpenSpec.ofChange textinParsesSpec)) textinParsesCard

/-- THE TIED CARD OF 'butterylaw14.TextinCounts'. -/
def textinCountsCard : Claim7 := { stood := { row := textinCountsRow, standIns := [], harness := (true, "f524aef68929b869572630c2f6998e5fbae17236054fd8bf5de6be5a65b8f89d"), looks := true }, kinds := [], alts := [], laidByText := true, laidKinds := [.data, .data, .data, .sentinel, .sentinel], laidTests := true, laidLooks := .later }
def TextinCountsCardSaid : Prop := Claim7.holds Tryd.pinned (.plain (OpenSpec.ofChange textinCountsSpec)) textinCountsCard

/-- THE SECOND FORM's CARD OF 'butterylaw14.TextinParses'. -/
def textinParsesUptoCard : Claim7 := { stood := { row := textinParsesUptoRow, standIns := [], harness := (true, "f524aef68929b869572630c2f6998e5fbae17236054fd8bf5de6be5a65b8f89d"), looks := true }, kinds := [], alts := [], laidByText := true, laidKinds := [.data, .data, .data, .sentinel, .sentinel], laidTests := true, laidLooks := .later }
def TextinParsesUptoCardSaid : Prop := Claim7.holds Tryd.pinned (.plain (OpenSpec.upto textinParsesSpec)) textinParsesUptoCard

/-- THE SECOND FORM's CARD OF 'butterylaw14.TextinCounts'. -/
def textinCountsUptoCard : Claim7 := { stood := { row := textinCountsUptoRow, standIns := [], harness := (true, "f524aef68929b869572630c2f6998e5fbae17236054fd8bf5de6be5a65b8f89d"), looks := true }, kinds := [], alts := [], laidByText := true, laidKinds := [.data, .data, .data, .sentinel, .sentinel], laidTests := true, laidLooks := .later }
def TextinCountsUptoCardSaid : Prop := Claim7.holds Tryd.pinned (.plain (OpenSpec.upto textinCountsSpec)) textinCountsUptoCard
end Rows
end Go.Proofs.YtfcmnkhfmofioaaDoor
