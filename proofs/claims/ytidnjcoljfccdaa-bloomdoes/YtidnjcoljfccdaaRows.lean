/-
  No cell of these rows narrows 'for every input' (looked for: loops, veiled, ifaces, maps, wideKeys, modest, calm, conditions, laid).
  DERIVED. THE GIVEN ROWS OF THIS SEAT. 5 by the template 'for every input the law returns true; each argument reads behind the call as it read before'; 0 by the template 'total and deterministic' (their statements: YtidnjcoljfccdaaTotals.lean).
  GIVEN WITH THE SEED: the statements are not yours to turn. If you find one false, say at which input.
  Laid BY PROGRAM, IN A SANDBOX (cutbox-rows.mjs): the forced cells as the released guide's own fill.sh prints them over the translation 2d20773dfe4d3ccb… (all of the seat's roots in one cut). By AI agents, Wed Nov 11 2026. No macro, syntax, notation, axiom, sorry.
-/
import Derived.Test.YtidnjcoljfccdaaChecked
import GoSem.Claim
import GoSem.ClaimJoined
import GoSem.ClaimMapViews
import Derived.JoinedTies
import Derived.KernelRfl
namespace Go.Proofs.Ytidnjcoljfccdaa
/- THE CELL 'sum', in the pinned program and in every row, IS THE sha256 OF THE DUMP (.gsa) THAT YtidnjcoljfccdaaProg.lean LOADS. Nothing in Lean hashes anything: it is a label: what it is worth is what the hold of that sum in a sandbox is worth. -/
noncomputable def Try.pinned : Pinned := { name := "ytidnjcoljfccdaa", sum := "2d20773dfe4d3ccbfa660483b1146136ff1fbffa552359ede3117c4dc27f6421", checked := Try.checked }
namespace Rows
def none {H : Type} : Left H := { results := [], args := [] }

/-- 'butterylaw04.BloomDoes': WHATEVER THE INPUT: true; the input reads as it did. -/
def bloomDoesSpec : ChangeSpec := { name := "bloomDoes", fn := fun _ => fun
  | [d1, d2] => { results := [.lit (.bool true)], args := [d1, d2] }
  | _ => none }
def bloomDoesRow : OpenClaim := { program := "ytidnjcoljfccdaa", sum := "2d20773dfe4d3ccbfa660483b1146136ff1fbffa552359ede3117c4dc27f6421", func := "buttery/butterylaw04.BloomDoes", spec := "bloomDoes", unfollowed := true, recurses := true, apart := false }
def BloomDoesSaid : Prop := bloomDoesRow.holds Try.pinned (OpenSpec.ofChange bloomDoesSpec)

/-- ITS FALSE NEIGHBOUR: 'it returns false'. Refute it at one input. -/
def bloomDoesWrong : ChangeSpec := { name := "bloomDoes", fn := fun _ => fun
  | [d1, d2] => { results := [.lit (.bool false)], args := [d1, d2] }
  | _ => none }
def BloomDoesWrongFalsely : Prop := bloomDoesRow.holds Try.pinned (OpenSpec.ofChange bloomDoesWrong)

/-- 'butterylaw04.BloomKeeps': WHATEVER THE INPUT: true; the input reads as it did. -/
def bloomKeepsSpec : ChangeSpec := { name := "bloomKeeps", fn := fun _ => fun
  | [d1, d2, d3] => { results := [.lit (.bool true)], args := [d1, d2, d3] }
  | _ => none }
def bloomKeepsRow : OpenClaim := { program := "ytidnjcoljfccdaa", sum := "2d20773dfe4d3ccbfa660483b1146136ff1fbffa552359ede3117c4dc27f6421", func := "buttery/butterylaw04.BloomKeeps", spec := "bloomKeeps", unfollowed := true, recurses := true, apart := false }
def BloomKeepsSaid : Prop := bloomKeepsRow.holds Try.pinned (OpenSpec.ofChange bloomKeepsSpec)

/-- ITS FALSE NEIGHBOUR: 'it returns false'. Refute it at one input. -/
def bloomKeepsWrong : ChangeSpec := { name := "bloomKeeps", fn := fun _ => fun
  | [d1, d2, d3] => { results := [.lit (.bool false)], args := [d1, d2, d3] }
  | _ => none }
def BloomKeepsWrongFalsely : Prop := bloomKeepsRow.holds Try.pinned (OpenSpec.ofChange bloomKeepsWrong)

/-- 'butterylaw04.BloomOrder': WHATEVER THE INPUT: true; the input reads as it did. -/
def bloomOrderSpec : ChangeSpec := { name := "bloomOrder", fn := fun _ => fun
  | [d1, d2, d3, d4] => { results := [.lit (.bool true)], args := [d1, d2, d3, d4] }
  | _ => none }
def bloomOrderRow : OpenClaim := { program := "ytidnjcoljfccdaa", sum := "2d20773dfe4d3ccbfa660483b1146136ff1fbffa552359ede3117c4dc27f6421", func := "buttery/butterylaw04.BloomOrder", spec := "bloomOrder", unfollowed := true, recurses := true, apart := false }
def BloomOrderSaid : Prop := bloomOrderRow.holds Try.pinned (OpenSpec.ofChange bloomOrderSpec)

/-- ITS FALSE NEIGHBOUR: 'it returns false'. Refute it at one input. -/
def bloomOrderWrong : ChangeSpec := { name := "bloomOrder", fn := fun _ => fun
  | [d1, d2, d3, d4] => { results := [.lit (.bool false)], args := [d1, d2, d3, d4] }
  | _ => none }
def BloomOrderWrongFalsely : Prop := bloomOrderRow.holds Try.pinned (OpenSpec.ofChange bloomOrderWrong)

/-- 'butterylaw04.BloomApart': WHATEVER THE INPUT: true; the input reads as it did. -/
def bloomApartSpec : ChangeSpec := { name := "bloomApart", fn := fun _ => fun
  | [d1, d2, d3] => { results := [.lit (.bool true)], args := [d1, d2, d3] }
  | _ => none }
def bloomApartRow : OpenClaim := { program := "ytidnjcoljfccdaa", sum := "2d20773dfe4d3ccbfa660483b1146136ff1fbffa552359ede3117c4dc27f6421", func := "buttery/butterylaw04.BloomApart", spec := "bloomApart", unfollowed := true, recurses := true, apart := false }
def BloomApartSaid : Prop := bloomApartRow.holds Try.pinned (OpenSpec.ofChange bloomApartSpec)

/-- ITS FALSE NEIGHBOUR: 'it returns false'. Refute it at one input. -/
def bloomApartWrong : ChangeSpec := { name := "bloomApart", fn := fun _ => fun
  | [d1, d2, d3] => { results := [.lit (.bool false)], args := [d1, d2, d3] }
  | _ => none }
def BloomApartWrongFalsely : Prop := bloomApartRow.holds Try.pinned (OpenSpec.ofChange bloomApartWrong)

/-- 'butterylaw04.BloomGrows': WHATEVER THE INPUT: true; the input reads as it did. -/
def bloomGrowsSpec : ChangeSpec := { name := "bloomGrows", fn := fun _ => fun
  | [d1, d2] => { results := [.lit (.bool true)], args := [d1, d2] }
  | _ => none }
def bloomGrowsRow : OpenClaim := { program := "ytidnjcoljfccdaa", sum := "2d20773dfe4d3ccbfa660483b1146136ff1fbffa552359ede3117c4dc27f6421", func := "buttery/butterylaw04.BloomGrows", spec := "bloomGrows", unfollowed := true, recurses := true, apart := false }
def BloomGrowsSaid : Prop := bloomGrowsRow.holds Try.pinned (OpenSpec.ofChange bloomGrowsSpec)

/-- ITS FALSE NEIGHBOUR: 'it returns false'. Refute it at one input. -/
def bloomGrowsWrong : ChangeSpec := { name := "bloomGrows", fn := fun _ => fun
  | [d1, d2] => { results := [.lit (.bool false)], args := [d1, d2] }
  | _ => none }
def BloomGrowsWrongFalsely : Prop := bloomGrowsRow.holds Try.pinned (OpenSpec.ofChange bloomGrowsWrong)

/- THE SECOND FORM. 'bulk': how many values and letters a reading holds, each counted each time it is reached (what is shared counts as often as it is met; a slice's spare places count too). A statement '..UptoSaid' is the law's where the arguments, and the package variables that the reading takes, are together of bulk at most 1048576: NARROWER than '..Said'. Prove '..Said' where nothing that the law and all that it calls make is longer than what came in: it says more and counts as full. Else prove '..UptoSaid'. A law counts once. -/
mutual
def uptoBulk {H : Type} : DataW H → Nat
  | .lit (.string bytes) => bytes.length + 1
  | .lit _ => 1
  | .nil => 1
  | .ptr d => uptoBulk d + 1
  | .slice elems spare => uptoBulkAll elems + uptoBulkAll spare + 1
  | .agg parts => uptoBulkAll parts + 1
  | .iface _ d => uptoBulk d + 1
  | .map entries => uptoBulkEntries entries + 1
  | .held _ => 1
def uptoBulkAll {H : Type} : List (DataW H) → Nat
  | [] => 0
  | d :: r => uptoBulk d + uptoBulkAll r
def uptoBulkEntries {H : Type} : List (Lit × DataW H) → Nat
  | [] => 0
  | x :: r => uptoBulkEntry x + uptoBulkEntries r
def uptoBulkEntry {H : Type} : Lit × DataW H → Nat
  | (.string bytes, d) => bytes.length + uptoBulk d + 1
  | (_, d) => uptoBulk d + 1
 end
def uptoSmall : (H : Type) → List (DataW H) → Bool := fun _ ds => decide (uptoBulkAll ds ≤ 1048576)
def OpenSpec.upto (s : _root_.Go.ChangeSpec) : _root_.Go.OpenSpec := { _root_.Go.OpenSpec.ofChange s with cond := some uptoSmall }

/-- 'butterylaw04.BloomDoes', WHERE WHAT IT READS IS OF BULK AT MOST 1048576: true; the input reads as it did. -/
def bloomDoesUptoRow : OpenClaim := { program := "ytidnjcoljfccdaa", sum := "2d20773dfe4d3ccbfa660483b1146136ff1fbffa552359ede3117c4dc27f6421", func := "buttery/butterylaw04.BloomDoes", spec := "bloomDoes", unfollowed := true, recurses := true, apart := false, narrowed := true }
def BloomDoesUptoSaid : Prop := bloomDoesUptoRow.holds Try.pinned (OpenSpec.upto bloomDoesSpec)

/-- 'butterylaw04.BloomKeeps', WHERE WHAT IT READS IS OF BULK AT MOST 1048576: true; the input reads as it did. -/
def bloomKeepsUptoRow : OpenClaim := { program := "ytidnjcoljfccdaa", sum := "2d20773dfe4d3ccbfa660483b1146136ff1fbffa552359ede3117c4dc27f6421", func := "buttery/butterylaw04.BloomKeeps", spec := "bloomKeeps", unfollowed := true, recurses := true, apart := false, narrowed := true }
def BloomKeepsUptoSaid : Prop := bloomKeepsUptoRow.holds Try.pinned (OpenSpec.upto bloomKeepsSpec)

/-- 'butterylaw04.BloomOrder', WHERE WHAT IT READS IS OF BULK AT MOST 1048576: true; the input reads as it did. -/
def bloomOrderUptoRow : OpenClaim := { program := "ytidnjcoljfccdaa", sum := "2d20773dfe4d3ccbfa660483b1146136ff1fbffa552359ede3117c4dc27f6421", func := "buttery/butterylaw04.BloomOrder", spec := "bloomOrder", unfollowed := true, recurses := true, apart := false, narrowed := true }
def BloomOrderUptoSaid : Prop := bloomOrderUptoRow.holds Try.pinned (OpenSpec.upto bloomOrderSpec)

/-- 'butterylaw04.BloomApart', WHERE WHAT IT READS IS OF BULK AT MOST 1048576: true; the input reads as it did. -/
def bloomApartUptoRow : OpenClaim := { program := "ytidnjcoljfccdaa", sum := "2d20773dfe4d3ccbfa660483b1146136ff1fbffa552359ede3117c4dc27f6421", func := "buttery/butterylaw04.BloomApart", spec := "bloomApart", unfollowed := true, recurses := true, apart := false, narrowed := true }
def BloomApartUptoSaid : Prop := bloomApartUptoRow.holds Try.pinned (OpenSpec.upto bloomApartSpec)

/-- 'butterylaw04.BloomGrows', WHERE WHAT IT READS IS OF BULK AT MOST 1048576: true; the input reads as it did. -/
def bloomGrowsUptoRow : OpenClaim := { program := "ytidnjcoljfccdaa", sum := "2d20773dfe4d3ccbfa660483b1146136ff1fbffa552359ede3117c4dc27f6421", func := "buttery/butterylaw04.BloomGrows", spec := "bloomGrows", unfollowed := true, recurses := true, apart := false, narrowed := true }
def BloomGrowsUptoSaid : Prop := bloomGrowsUptoRow.holds Try.pinned (OpenSpec.upto bloomGrowsSpec)

end Rows
end Go.Proofs.Ytidnjcoljfccdaa
