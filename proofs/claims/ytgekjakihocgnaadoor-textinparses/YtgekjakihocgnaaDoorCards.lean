/-
  DERIVED. GIVEN WITH THE SEED: THE CARDS: each row of YtgekjakihocgnaaDoorRows.lean that lists a variable, with what it lists TIED to the program's text (the seventh form; the later family's looks); each row that meets fmt, with fmt's text TOLD by the authors' own Lean function (tested against real Go, not proved from fmt's source: count such statements apart). THE CARD IS WHAT COUNTS. Prove the row's statement (the work); the ties are given (YtgekjakihocgnaaDoorTie.lean); close each card by the builder's one call (the guide's Derived/Test/ToyasCard.lean, 'card_holds'). Laid BY PROGRAM, IN A SANDBOX (cutbox-door.mjs). By AI agents, Wed Nov 11 2026. No macro, syntax, notation, axiom, sorry.
-/
import Derived.Test.YtgekjakihocgnaaDoorRows
import GoSem.ClaimSeven
namespace Go.Proofs.YtgekjakihocgnaaDoor
namespace Rows

/-- THE TIED CARD OF 'butterylaw14.TextinParses'. -/
def textinParsesCard : Claim7 := { stood := { row := textinParsesRow, standIns := [], harness := (true, "7118db9d16e11681a20a3b89a497d3617e17d27baee5c1d8ae2f94b3010700ba"), looks := true }, kinds := [], alts := [], laidByText := true, laidKinds := [.data, .data, .data, .sentinel, .sentinel], laidTests := true, laidLooks := .later }
def TextinParsesCardSaid : Prop := Claim7.holds Tryd.pinned (.plain (OpenSpec.ofChange textinParsesSpec)) textinParsesCard

/-- THE SECOND FORM's CARD OF 'butterylaw14.TextinParses'. -/
def textinParsesUptoCard : Claim7 := { stood := { row := textinParsesUptoRow, standIns := [], harness := (true, "7118db9d16e11681a20a3b89a497d3617e17d27baee5c1d8ae2f94b3010700ba"), looks := true }, kinds := [], alts := [], laidByText := true, laidKinds := [.data, .data, .data, .sentinel, .sentinel], laidTests := true, laidLooks := .later }
def TextinParsesUptoCardSaid : Prop := Claim7.holds Tryd.pinned (.plain (OpenSpec.upto textinParsesSpec)) textinParsesUptoCard
end Rows
end Go.Proofs.YtgekjakihocgnaaDoor
