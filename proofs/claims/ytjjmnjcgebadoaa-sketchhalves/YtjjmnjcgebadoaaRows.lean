/-
  No cell of these rows narrows 'for every input' (looked for: loops, veiled, ifaces, maps, wideKeys, modest, calm, conditions, laid).
  DERIVED. THE GIVEN ROWS OF THIS SEAT. 5 by the template 'for every input the law returns true; each argument reads behind the call as it read before'; 0 by the template 'total and deterministic' (their statements: YtjjmnjcgebadoaaTotals.lean).
  GIVEN WITH THE SEED: the statements are not yours to turn. If you find one false, say at which input.
  Laid BY PROGRAM, IN A SANDBOX (cutbox-rows.mjs): the forced cells as the released guide's own fill.sh prints them over the translation 44d479e8a37881b3… (all of the seat's roots in one cut). By AI agents, Wed Nov 11 2026. No macro, syntax, notation, axiom, sorry.
-/
import Derived.Test.YtjjmnjcgebadoaaChecked
import GoSem.Claim
import GoSem.ClaimJoined
import GoSem.ClaimMapViews
import Derived.JoinedTies
import Derived.KernelRfl
namespace Go.Proofs.Ytjjmnjcgebadoaa
/- THE CELL 'sum', in the pinned program and in every row, IS THE sha256 OF THE DUMP (.gsa) THAT YtjjmnjcgebadoaaProg.lean LOADS. Nothing in Lean hashes anything: it is a label: what it is worth is what the hold of that sum in a sandbox is worth. -/
noncomputable def Try.pinned : Pinned := { name := "ytjjmnjcgebadoaa", sum := "44d479e8a37881b3e7ae11ff698af3e5524e64482f2fe4222fd30834a6d407fc", checked := Try.checked }
namespace Rows
def none {H : Type} : Left H := { results := [], args := [] }

/-- 'butterylaw05.SketchDoes': WHATEVER THE INPUT: true; the input reads as it did. -/
def sketchDoesSpec : ChangeSpec := { name := "sketchDoes", fn := fun _ => fun
  | [d1, d2] => { results := [.lit (.bool true)], args := [d1, d2] }
  | _ => none }
def sketchDoesRow : OpenClaim := { program := "ytjjmnjcgebadoaa", sum := "44d479e8a37881b3e7ae11ff698af3e5524e64482f2fe4222fd30834a6d407fc", func := "buttery/butterylaw05.SketchDoes", spec := "sketchDoes", unfollowed := true, recurses := true, apart := false }
def SketchDoesSaid : Prop := sketchDoesRow.holds Try.pinned (OpenSpec.ofChange sketchDoesSpec)

/-- ITS FALSE NEIGHBOUR: 'it returns false'. Refute it at one input. -/
def sketchDoesWrong : ChangeSpec := { name := "sketchDoes", fn := fun _ => fun
  | [d1, d2] => { results := [.lit (.bool false)], args := [d1, d2] }
  | _ => none }
def SketchDoesWrongFalsely : Prop := sketchDoesRow.holds Try.pinned (OpenSpec.ofChange sketchDoesWrong)

/-- 'butterylaw05.SketchLeast': WHATEVER THE INPUT: true; the input reads as it did. -/
def sketchLeastSpec : ChangeSpec := { name := "sketchLeast", fn := fun _ => fun
  | [d1, d2, d3] => { results := [.lit (.bool true)], args := [d1, d2, d3] }
  | _ => none }
def sketchLeastRow : OpenClaim := { program := "ytjjmnjcgebadoaa", sum := "44d479e8a37881b3e7ae11ff698af3e5524e64482f2fe4222fd30834a6d407fc", func := "buttery/butterylaw05.SketchLeast", spec := "sketchLeast", unfollowed := true, recurses := true, apart := false }
def SketchLeastSaid : Prop := sketchLeastRow.holds Try.pinned (OpenSpec.ofChange sketchLeastSpec)

/-- ITS FALSE NEIGHBOUR: 'it returns false'. Refute it at one input. -/
def sketchLeastWrong : ChangeSpec := { name := "sketchLeast", fn := fun _ => fun
  | [d1, d2, d3] => { results := [.lit (.bool false)], args := [d1, d2, d3] }
  | _ => none }
def SketchLeastWrongFalsely : Prop := sketchLeastRow.holds Try.pinned (OpenSpec.ofChange sketchLeastWrong)

/-- 'butterylaw05.SketchHalves': WHATEVER THE INPUT: true; the input reads as it did. -/
def sketchHalvesSpec : ChangeSpec := { name := "sketchHalves", fn := fun _ => fun
  | [d1, d2, d3] => { results := [.lit (.bool true)], args := [d1, d2, d3] }
  | _ => none }
def sketchHalvesRow : OpenClaim := { program := "ytjjmnjcgebadoaa", sum := "44d479e8a37881b3e7ae11ff698af3e5524e64482f2fe4222fd30834a6d407fc", func := "buttery/butterylaw05.SketchHalves", spec := "sketchHalves", unfollowed := true, recurses := true, apart := false }
def SketchHalvesSaid : Prop := sketchHalvesRow.holds Try.pinned (OpenSpec.ofChange sketchHalvesSpec)

/-- ITS FALSE NEIGHBOUR: 'it returns false'. Refute it at one input. -/
def sketchHalvesWrong : ChangeSpec := { name := "sketchHalves", fn := fun _ => fun
  | [d1, d2, d3] => { results := [.lit (.bool false)], args := [d1, d2, d3] }
  | _ => none }
def SketchHalvesWrongFalsely : Prop := sketchHalvesRow.holds Try.pinned (OpenSpec.ofChange sketchHalvesWrong)

/-- 'butterylaw05.SketchAll': WHATEVER THE INPUT: true; the input reads as it did. -/
def sketchAllSpec : ChangeSpec := { name := "sketchAll", fn := fun _ => fun
  | [d1, d2, d3] => { results := [.lit (.bool true)], args := [d1, d2, d3] }
  | _ => none }
def sketchAllRow : OpenClaim := { program := "ytjjmnjcgebadoaa", sum := "44d479e8a37881b3e7ae11ff698af3e5524e64482f2fe4222fd30834a6d407fc", func := "buttery/butterylaw05.SketchAll", spec := "sketchAll", unfollowed := true, recurses := true, apart := false }
def SketchAllSaid : Prop := sketchAllRow.holds Try.pinned (OpenSpec.ofChange sketchAllSpec)

/-- ITS FALSE NEIGHBOUR: 'it returns false'. Refute it at one input. -/
def sketchAllWrong : ChangeSpec := { name := "sketchAll", fn := fun _ => fun
  | [d1, d2, d3] => { results := [.lit (.bool false)], args := [d1, d2, d3] }
  | _ => none }
def SketchAllWrongFalsely : Prop := sketchAllRow.holds Try.pinned (OpenSpec.ofChange sketchAllWrong)

/-- 'butterylaw05.SketchApart': WHATEVER THE INPUT: true; the input reads as it did. -/
def sketchApartSpec : ChangeSpec := { name := "sketchApart", fn := fun _ => fun
  | [d1, d2, d3] => { results := [.lit (.bool true)], args := [d1, d2, d3] }
  | _ => none }
def sketchApartRow : OpenClaim := { program := "ytjjmnjcgebadoaa", sum := "44d479e8a37881b3e7ae11ff698af3e5524e64482f2fe4222fd30834a6d407fc", func := "buttery/butterylaw05.SketchApart", spec := "sketchApart", unfollowed := true, recurses := true, apart := false }
def SketchApartSaid : Prop := sketchApartRow.holds Try.pinned (OpenSpec.ofChange sketchApartSpec)

/-- ITS FALSE NEIGHBOUR: 'it returns false'. Refute it at one input. -/
def sketchApartWrong : ChangeSpec := { name := "sketchApart", fn := fun _ => fun
  | [d1, d2, d3] => { results := [.lit (.bool false)], args := [d1, d2, d3] }
  | _ => none }
def SketchApartWrongFalsely : Prop := sketchApartRow.holds Try.pinned (OpenSpec.ofChange sketchApartWrong)

/- THE SECOND FORM. 'bulk': how many values and letters a reading holds, each counted each time it is reached (what is shared counts as often as it is met; a slice's spare places count too). A statement '..UptoSaid' is the law's where the arguments, and the package variables that the reading takes, are together of bulk at most 1048576: NARROWER than '..Said'. Prove '..Said' where nothing that the law and all that it calls make is longer than what came in: it says more and counts as full. Else prove '..UptoSaid'. A law counts once. -/
mutual
def uptoBulk {H : Type} : DataW H → Nat
  | .lit (.string bytes) => bytes.length + 1
  | .lit _ => 1
  | .nil => 1
  | .ptr d => uptoBulk d + 1
  | .slice elems spare => uptoBulkAll elems + uptoBulkAll spare + 1
  | .agg parts => uptoBulkAll parts + 1
  | .iface _ d => uptoBulk d + 1
  | .map entries => uptoBulkEntries entries + 1
  | .held _ => 1
def uptoBulkAll {H : Type} : List (DataW H) → Nat
  | [] => 0
  | d :: r => uptoBulk d + uptoBulkAll r
def uptoBulkEntries {H : Type} : List (Lit × DataW H) → Nat
  | [] => 0
  | x :: r => uptoBulkEntry x + uptoBulkEntries r
def uptoBulkEntry {H : Type} : Lit × DataW H → Nat
  | (.string bytes, d) => bytes.length + uptoBulk d + 1
  | (_, d) => uptoBulk d + 1
 end
def uptoSmall : (H : Type) → List (DataW H) → Bool := fun _ ds => decide (uptoBulkAll ds ≤ 1048576)
def OpenSpec.upto (s : _root_.Go.ChangeSpec) : _root_.Go.OpenSpec := { _root_.Go.OpenSpec.ofChange s with cond := some uptoSmall }

/-- 'butterylaw05.SketchDoes', WHERE WHAT IT READS IS OF BULK AT MOST 1048576: true; the input reads as it did. -/
def sketchDoesUptoRow : OpenClaim := { program := "ytjjmnjcgebadoaa", sum := "44d479e8a37881b3e7ae11ff698af3e5524e64482f2fe4222fd30834a6d407fc", func := "buttery/butterylaw05.SketchDoes", spec := "sketchDoes", unfollowed := true, recurses := true, apart := false, narrowed := true }
def SketchDoesUptoSaid : Prop := sketchDoesUptoRow.holds Try.pinned (OpenSpec.upto sketchDoesSpec)

/-- 'butterylaw05.SketchLeast', WHERE WHAT IT READS IS OF BULK AT MOST 1048576: true; the input reads as it did. -/
def sketchLeastUptoRow : OpenClaim := { program := "ytjjmnjcgebadoaa", sum := "44d479e8a37881b3e7ae11ff698af3e5524e64482f2fe4222fd30834a6d407fc", func := "buttery/butterylaw05.SketchLeast", spec := "sketchLeast", unfollowed := true, recurses := true, apart := false, narrowed := true }
def SketchLeastUptoSaid : Prop := sketchLeastUptoRow.holds Try.pinned (OpenSpec.upto sketchLeastSpec)

/-- 'butterylaw05.SketchHalves', WHERE WHAT IT READS IS OF BULK AT MOST 1048576: true; the input reads as it did. -/
def sketchHalvesUptoRow : OpenClaim := { program := "ytjjmnjcgebadoaa", sum := "44d479e8a37881b3e7ae11ff698af3e5524e64482f2fe4222fd30834a6d407fc", func := "buttery/butterylaw05.SketchHalves", spec := "sketchHalves", unfollowed := true, recurses := true, apart := false, narrowed := true }
def SketchHalvesUptoSaid : Prop := sketchHalvesUptoRow.holds Try.pinned (OpenSpec.upto sketchHalvesSpec)

/-- 'butterylaw05.SketchAll', WHERE WHAT IT READS IS OF BULK AT MOST 1048576: true; the input reads as it did. -/
def sketchAllUptoRow : OpenClaim := { program := "ytjjmnjcgebadoaa", sum := "44d479e8a37881b3e7ae11ff698af3e5524e64482f2fe4222fd30834a6d407fc", func := "buttery/butterylaw05.SketchAll", spec := "sketchAll", unfollowed := true, recurses := true, apart := false, narrowed := true }
def SketchAllUptoSaid : Prop := sketchAllUptoRow.holds Try.pinned (OpenSpec.upto sketchAllSpec)

/-- 'butterylaw05.SketchApart', WHERE WHAT IT READS IS OF BULK AT MOST 1048576: true; the input reads as it did. -/
def sketchApartUptoRow : OpenClaim := { program := "ytjjmnjcgebadoaa", sum := "44d479e8a37881b3e7ae11ff698af3e5524e64482f2fe4222fd30834a6d407fc", func := "buttery/butterylaw05.SketchApart", spec := "sketchApart", unfollowed := true, recurses := true, apart := false, narrowed := true }
def SketchApartUptoSaid : Prop := sketchApartUptoRow.holds Try.pinned (OpenSpec.upto sketchApartSpec)

end Rows
end Go.Proofs.Ytjjmnjcgebadoaa
