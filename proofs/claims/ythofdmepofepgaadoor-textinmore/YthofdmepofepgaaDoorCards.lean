/-
  DERIVED. GIVEN WITH THE SEED: THE CARDS: each row of YthofdmepofepgaaDoorRows.lean that lists a variable, with what it lists TIED to the program's text (the seventh form; the later family's looks); each row that meets fmt, with fmt's text TOLD by the authors' own Lean function (tested against real Go, not proved from fmt's source: count such statements apart). THE CARD IS WHAT COUNTS. Prove the row's statement (the work); the ties are given (YthofdmepofepgaaDoorTie.lean); close each card by the builder's one call (the guide's Derived/Test/ToyasCard.lean, 'card_holds'). Laid BY PROGRAM, IN A SANDBOX (cutbox-door.mjs). By AI agents, Wed Nov 11 2026. No macro, syntax, notation, axiom, sorry.
-/
import Derived.Test.YthofdmepofepgaaDoorRows
import GoSem.ClaimSeven
namespace Go.Proofs.YthofdmepofepgaaDoor
namespace Rows

/-- THE TIED CARD OF 'butterylaw14.TextinSane'. -/
def textinSaneCard : Claim7 := { stood := { row := textinSaneRow, standIns := [], harness := (true, "f58f06995909cd919eee0a0e76983f8fab06caae27f12b91337b7e5153382a7a"), looks := true }, kinds := [], alts := [], laidByText := true, laidKinds := [.data, .data, .data, .sentinel, .sentinel], laidTests := true, laidLooks := .later }
def TextinSaneCardSaid : Prop := Claim7.holds Tryd.pinned (.plain (OpenSpec.ofChange textinSaneSpec)) textinSaneCard

/-- THE TIED CARD OF 'butterylaw14.TextinMore'. -/
def textinMoreCard : Claim7 := { stood := { row := textinMoreRow, standIns := [], harness := (true, "f58f06995909cd919eee0a0e76983f8fab06caae27f12b91337b7e5153382a7a"), looks := true }, kinds := [], alts := [], laidByText := true, laidKinds := [.data, .data, .data, .sentinel, .sentinel], laidTests := true, laidLooks := .later }
def TextinMoreCardSaid : Prop := Claim7.holds Tryd.pinned (.plain (OpenSpec.ofChange textinMoreSpec)) textinMoreCard

/-- THE TIED CARD OF 'butterylaw14.TextinQuiet'. -/
def textinQuietCard : Claim7 := { stood := { row := textinQuietRow, standIns := [], harness := (true, "f58f06995909cd919eee0a0e76983f8fab06caae27f12b91337b7e5153382a7a"), looks := true }, kinds := [], alts := [], laidByText := true, laidKinds := [.data, .data, .data, .sentinel, .sentinel], laidTests := true, laidLooks := .later }
def TextinQuietCardSaid : Prop := Claim7.holds Tryd.pinned (.plain (OpenSpec.ofChange textinQuietSpec)) textinQuietCard

/-- THE TIED CARD OF 'butterylaw14.TextinBlanks'. -/
def textinBlanksCard : Claim7 := { stood := { row := textinBlanksRow, standIns := [], harness := (true, "f58f06995909cd919eee0a0e76983f8fab06caae27f12b91337b7e5153382a7a"), looks := true }, kinds := [], alts := [], laidByText := true, laidKinds := [.data, .data, .data, .sentinel, .sentinel], laidTests := true, laidLooks := .later }
def TextinBlanksCardSaid : Prop := Claim7.holds Tryd.pinned (.plain (OpenSpec.ofChange textinBlanksSpec)) textinBlanksCard

/-- THE TIED CARD OF 'butterylaw14.TextinEnds'. -/
def textinEndsCard : Claim7 := { stood := { row := textinEndsRow, standIns := [], harness := (true, "f58f06995909cd919eee0a0e76983f8fab06caae27f12b91337b7e5153382a7a"), looks := true }, kinds := [], alts := [], laidByText := true, laidKinds := [.data, .data, .data, .sentinel, .sentinel], laidTests := true, laidLooks := .later }
def TextinEndsCardSaid : Prop := Claim7.holds Tryd.pinned (.plain (OpenSpec.ofChange textinEndsSpec)) textinEndsCard

/-- THE SECOND FORM's CARD OF 'butterylaw14.TextinSane'. -/
def textinSaneUptoCard : Claim7 := { stood := { row := textinSaneUptoRow, standIns := [], harness := (true, "f58f06995909cd919eee0a0e76983f8fab06caae27f12b91337b7e5153382a7a"), looks := true }, kinds := [], alts := [], laidByText := true, laidKinds := [.data, .data, .data, .sentinel, .sentinel], laidTests := true, laidLooks := .later }
def TextinSaneUptoCardSaid : Prop := Claim7.holds Tryd.pinned (.plain (OpenSpec.upto textinSaneSpec)) textinSaneUptoCard

/-- THE SECOND FORM's CARD OF 'butterylaw14.TextinMore'. -/
def textinMoreUptoCard : Claim7 := { stood := { row := textinMoreUptoRow, standIns := [], harness := (true, "f58f06995909cd919eee0a0e76983f8fab06caae27f12b91337b7e5153382a7a"), looks := true }, kinds := [], alts := [], laidByText := true, laidKinds := [.data, .data, .data, .sentinel, .sentinel], laidTests := true, laidLooks := .later }
def TextinMoreUptoCardSaid : Prop := Claim7.holds Tryd.pinned (.plain (OpenSpec.upto textinMoreSpec)) textinMoreUptoCard

/-- THE SECOND FORM's CARD OF 'butterylaw14.TextinQuiet'. -/
def textinQuietUptoCard : Claim7 := { stood := { row := textinQuietUptoRow, standIns := [], harness := (true, "f58f06995909cd919eee0a0e76983f8fab06caae27f12b91337b7e5153382a7a"), looks := true }, kinds := [], alts := [], laidByText := true, laidKinds := [.data, .data, .data, .sentinel, .sentinel], laidTests := true, laidLooks := .later }
def TextinQuietUptoCardSaid : Prop := Claim7.holds Tryd.pinned (.plain (OpenSpec.upto textinQuietSpec)) textinQuietUptoCard

/-- THE SECOND FORM's CARD OF 'butterylaw14.TextinBlanks'. -/
def textinBlanksUptoCard : Claim7 := { stood := { row := textinBlanksUptoRow, standIns := [], harness := (true, "f58f06995909cd919eee0a0e76983f8fab06caae27f12b91337b7e5153382a7a"), looks := true }, kinds := [], alts := [], laidByText := true, laidKinds := [.data, .data, .data, .sentinel, .sentinel], laidTests := true, laidLooks := .later }
def TextinBlanksUptoCardSaid : Prop := Claim7.holds Tryd.pinned (.plain (OpenSpec.upto textinBlanksSpec)) textinBlanksUptoCard

/-- THE SECOND FORM's CARD OF 'butterylaw14.TextinEnds'. -/
def textinEndsUptoCard : Claim7 := { stood := { row := textinEndsUptoRow, standIns := [], harness := (true, "f58f06995909cd919eee0a0e76983f8fab06caae27f12b91337b7e5153382a7a"), looks := true }, kinds := [], alts := [], laidByText := true, laidKinds := [.data, .data, .data, .sentinel, .sentinel], laidTests := true, laidLooks := .later }
def TextinEndsUptoCardSaid : Prop := Claim7.holds Tryd.pinned (.plain (OpenSpec.upto textinEndsSpec)) textinEndsUptoCard
end Rows
end Go.Proofs.YthofdmepofepgaaDoor
