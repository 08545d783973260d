/-
  No cell of these rows narrows 'for every input' (looked for: loops, veiled, ifaces, maps, wideKeys, modest, calm, conditions, laid).
  DERIVED. THE GIVEN ROWS OF THIS SEAT. 5 by the template 'for every input the law returns true; each argument reads behind the call as it read before'; 0 by the template 'total and deterministic' (their statements: YtaafkefgpgoepaaTotals.lean).
  GIVEN WITH THE SEED: the statements are not yours to turn. If you find one false, say at which input.
  Laid BY PROGRAM, IN A SANDBOX (cutbox-rows.mjs): the forced cells as the released guide's own fill.sh prints them over the translation cee03a677a27c1fd… (all of the seat's roots in one cut). By AI agents, Wed Nov 11 2026. No macro, syntax, notation, axiom, sorry.
-/
import Derived.Test.YtaafkefgpgoepaaChecked
import GoSem.Claim
import GoSem.ClaimJoined
import GoSem.ClaimMapViews
import Derived.JoinedTies
import Derived.KernelRfl
namespace Go.Proofs.Ytaafkefgpgoepaa
/- THE CELL 'sum', in the pinned program and in every row, IS THE sha256 OF THE DUMP (.gsa) THAT YtaafkefgpgoepaaProg.lean LOADS. Nothing in Lean hashes anything: it is a label: what it is worth is what the hold of that sum in a sandbox is worth. -/
noncomputable def Try.pinned : Pinned := { name := "ytaafkefgpgoepaa", sum := "cee03a677a27c1fda177d639e844a9e36ef27f01b6e4db384cc17e2d437623a4", checked := Try.checked }
namespace Rows
def none {H : Type} : Left H := { results := [], args := [] }

/-- 'butterylaw17.BinoutAnswers': WHATEVER THE INPUT: true; the input reads as it did. -/
def binoutAnswersSpec : ChangeSpec := { name := "binoutAnswers", fn := fun _ => fun
  | [d1, d2, d3] => { results := [.lit (.bool true)], args := [d1, d2, d3] }
  | _ => none }
def binoutAnswersRow : OpenClaim := { program := "ytaafkefgpgoepaa", sum := "cee03a677a27c1fda177d639e844a9e36ef27f01b6e4db384cc17e2d437623a4", func := "buttery/butterylaw17.BinoutAnswers", spec := "binoutAnswers", apart := false }
def BinoutAnswersSaid : Prop := binoutAnswersRow.holds Try.pinned (OpenSpec.ofChange binoutAnswersSpec)

/-- ITS FALSE NEIGHBOUR: 'it returns false'. Refute it at one input. -/
def binoutAnswersWrong : ChangeSpec := { name := "binoutAnswers", fn := fun _ => fun
  | [d1, d2, d3] => { results := [.lit (.bool false)], args := [d1, d2, d3] }
  | _ => none }
def BinoutAnswersWrongFalsely : Prop := binoutAnswersRow.holds Try.pinned (OpenSpec.ofChange binoutAnswersWrong)

/-- 'butterylaw17.BinoutReads': WHATEVER THE INPUT: true; the input reads as it did. -/
def binoutReadsSpec : ChangeSpec := { name := "binoutReads", fn := fun _ => fun
  | [d] => { results := [.lit (.bool true)], args := [d] }
  | _ => none }
def binoutReadsRow : OpenClaim := { program := "ytaafkefgpgoepaa", sum := "cee03a677a27c1fda177d639e844a9e36ef27f01b6e4db384cc17e2d437623a4", func := "buttery/butterylaw17.BinoutReads", spec := "binoutReads", apart := false }
def BinoutReadsSaid : Prop := binoutReadsRow.holds Try.pinned (OpenSpec.ofChange binoutReadsSpec)

/-- ITS FALSE NEIGHBOUR: 'it returns false'. Refute it at one input. -/
def binoutReadsWrong : ChangeSpec := { name := "binoutReads", fn := fun _ => fun
  | [d] => { results := [.lit (.bool false)], args := [d] }
  | _ => none }
def BinoutReadsWrongFalsely : Prop := binoutReadsRow.holds Try.pinned (OpenSpec.ofChange binoutReadsWrong)

/-- 'butterylaw17.BinoutBack': WHATEVER THE INPUT: true; the input reads as it did. -/
def binoutBackSpec : ChangeSpec := { name := "binoutBack", fn := fun _ => fun
  | [d1, d2, d3] => { results := [.lit (.bool true)], args := [d1, d2, d3] }
  | _ => none }
def binoutBackRow : OpenClaim := { program := "ytaafkefgpgoepaa", sum := "cee03a677a27c1fda177d639e844a9e36ef27f01b6e4db384cc17e2d437623a4", func := "buttery/butterylaw17.BinoutBack", spec := "binoutBack", apart := false }
def BinoutBackSaid : Prop := binoutBackRow.holds Try.pinned (OpenSpec.ofChange binoutBackSpec)

/-- ITS FALSE NEIGHBOUR: 'it returns false'. Refute it at one input. -/
def binoutBackWrong : ChangeSpec := { name := "binoutBack", fn := fun _ => fun
  | [d1, d2, d3] => { results := [.lit (.bool false)], args := [d1, d2, d3] }
  | _ => none }
def BinoutBackWrongFalsely : Prop := binoutBackRow.holds Try.pinned (OpenSpec.ofChange binoutBackWrong)

/-- 'butterylaw17.BinoutSilent': WHATEVER THE INPUT: true; the input reads as it did. -/
def binoutSilentSpec : ChangeSpec := { name := "binoutSilent", fn := fun _ => fun
  | [d1, d2] => { results := [.lit (.bool true)], args := [d1, d2] }
  | _ => none }
def binoutSilentRow : OpenClaim := { program := "ytaafkefgpgoepaa", sum := "cee03a677a27c1fda177d639e844a9e36ef27f01b6e4db384cc17e2d437623a4", func := "buttery/butterylaw17.BinoutSilent", spec := "binoutSilent", apart := false }
def BinoutSilentSaid : Prop := binoutSilentRow.holds Try.pinned (OpenSpec.ofChange binoutSilentSpec)

/-- ITS FALSE NEIGHBOUR: 'it returns false'. Refute it at one input. -/
def binoutSilentWrong : ChangeSpec := { name := "binoutSilent", fn := fun _ => fun
  | [d1, d2] => { results := [.lit (.bool false)], args := [d1, d2] }
  | _ => none }
def BinoutSilentWrongFalsely : Prop := binoutSilentRow.holds Try.pinned (OpenSpec.ofChange binoutSilentWrong)

/-- 'butterylaw17.BinoutLong': WHATEVER THE INPUT: true; the input reads as it did. -/
def binoutLongSpec : ChangeSpec := { name := "binoutLong", fn := fun _ => fun
  | [d1, d2, d3] => { results := [.lit (.bool true)], args := [d1, d2, d3] }
  | _ => none }
def binoutLongRow : OpenClaim := { program := "ytaafkefgpgoepaa", sum := "cee03a677a27c1fda177d639e844a9e36ef27f01b6e4db384cc17e2d437623a4", func := "buttery/butterylaw17.BinoutLong", spec := "binoutLong", apart := false }
def BinoutLongSaid : Prop := binoutLongRow.holds Try.pinned (OpenSpec.ofChange binoutLongSpec)

/-- ITS FALSE NEIGHBOUR: 'it returns false'. Refute it at one input. -/
def binoutLongWrong : ChangeSpec := { name := "binoutLong", fn := fun _ => fun
  | [d1, d2, d3] => { results := [.lit (.bool false)], args := [d1, d2, d3] }
  | _ => none }
def BinoutLongWrongFalsely : Prop := binoutLongRow.holds Try.pinned (OpenSpec.ofChange binoutLongWrong)

/- THE SECOND FORM. 'bulk': how many values and letters a reading holds, each counted each time it is reached (what is shared counts as often as it is met; a slice's spare places count too). A statement '..UptoSaid' is the law's where the arguments, and the package variables that the reading takes, are together of bulk at most 1048576: NARROWER than '..Said'. Prove '..Said' where nothing that the law and all that it calls make is longer than what came in: it says more and counts as full. Else prove '..UptoSaid'. A law counts once. -/
mutual
def uptoBulk {H : Type} : DataW H → Nat
  | .lit (.string bytes) => bytes.length + 1
  | .lit _ => 1
  | .nil => 1
  | .ptr d => uptoBulk d + 1
  | .slice elems spare => uptoBulkAll elems + uptoBulkAll spare + 1
  | .agg parts => uptoBulkAll parts + 1
  | .iface _ d => uptoBulk d + 1
  | .map entries => uptoBulkEntries entries + 1
  | .held _ => 1
def uptoBulkAll {H : Type} : List (DataW H) → Nat
  | [] => 0
  | d :: r => uptoBulk d + uptoBulkAll r
def uptoBulkEntries {H : Type} : List (Lit × DataW H) → Nat
  | [] => 0
  | x :: r => uptoBulkEntry x + uptoBulkEntries r
def uptoBulkEntry {H : Type} : Lit × DataW H → Nat
  | (.string bytes, d) => bytes.length + uptoBulk d + 1
  | (_, d) => uptoBulk d + 1
 end
def uptoSmall : (H : Type) → List (DataW H) → Bool := fun _ ds => decide (uptoBulkAll ds ≤ 1048576)
def OpenSpec.upto (s : _root_.Go.ChangeSpec) : _root_.Go.OpenSpec := { _root_.Go.OpenSpec.ofChange s with cond := some uptoSmall }

/-- 'butterylaw17.BinoutAnswers', WHERE WHAT IT READS IS OF BULK AT MOST 1048576: true; the input reads as it did. -/
def binoutAnswersUptoRow : OpenClaim := { program := "ytaafkefgpgoepaa", sum := "cee03a677a27c1fda177d639e844a9e36ef27f01b6e4db384cc17e2d437623a4", func := "buttery/butterylaw17.BinoutAnswers", spec := "binoutAnswers", apart := false, narrowed := true }
def BinoutAnswersUptoSaid : Prop := binoutAnswersUptoRow.holds Try.pinned (OpenSpec.upto binoutAnswersSpec)

/-- 'butterylaw17.BinoutReads', WHERE WHAT IT READS IS OF BULK AT MOST 1048576: true; the input reads as it did. -/
def binoutReadsUptoRow : OpenClaim := { program := "ytaafkefgpgoepaa", sum := "cee03a677a27c1fda177d639e844a9e36ef27f01b6e4db384cc17e2d437623a4", func := "buttery/butterylaw17.BinoutReads", spec := "binoutReads", apart := false, narrowed := true }
def BinoutReadsUptoSaid : Prop := binoutReadsUptoRow.holds Try.pinned (OpenSpec.upto binoutReadsSpec)

/-- 'butterylaw17.BinoutBack', WHERE WHAT IT READS IS OF BULK AT MOST 1048576: true; the input reads as it did. -/
def binoutBackUptoRow : OpenClaim := { program := "ytaafkefgpgoepaa", sum := "cee03a677a27c1fda177d639e844a9e36ef27f01b6e4db384cc17e2d437623a4", func := "buttery/butterylaw17.BinoutBack", spec := "binoutBack", apart := false, narrowed := true }
def BinoutBackUptoSaid : Prop := binoutBackUptoRow.holds Try.pinned (OpenSpec.upto binoutBackSpec)

/-- 'butterylaw17.BinoutSilent', WHERE WHAT IT READS IS OF BULK AT MOST 1048576: true; the input reads as it did. -/
def binoutSilentUptoRow : OpenClaim := { program := "ytaafkefgpgoepaa", sum := "cee03a677a27c1fda177d639e844a9e36ef27f01b6e4db384cc17e2d437623a4", func := "buttery/butterylaw17.BinoutSilent", spec := "binoutSilent", apart := false, narrowed := true }
def BinoutSilentUptoSaid : Prop := binoutSilentUptoRow.holds Try.pinned (OpenSpec.upto binoutSilentSpec)

/-- 'butterylaw17.BinoutLong', WHERE WHAT IT READS IS OF BULK AT MOST 1048576: true; the input reads as it did. -/
def binoutLongUptoRow : OpenClaim := { program := "ytaafkefgpgoepaa", sum := "cee03a677a27c1fda177d639e844a9e36ef27f01b6e4db384cc17e2d437623a4", func := "buttery/butterylaw17.BinoutLong", spec := "binoutLong", apart := false, narrowed := true }
def BinoutLongUptoSaid : Prop := binoutLongUptoRow.holds Try.pinned (OpenSpec.upto binoutLongSpec)

end Rows
end Go.Proofs.Ytaafkefgpgoepaa
