/-
  No cell of these rows narrows 'for every input' (looked for: loops, veiled, ifaces, maps, wideKeys, modest, calm, conditions, laid).
  DERIVED. THE GIVEN ROWS OF THIS SEAT. 5 by the template 'for every input the law returns true; each argument reads behind the call as it read before'; 0 by the template 'total and deterministic' (their statements: YtpjmhiokhoplmaaTotals.lean).
  GIVEN WITH THE SEED: the statements are not yours to turn. If you find one false, say at which input.
  Laid BY PROGRAM, IN A SANDBOX (cutbox-rows.mjs): the forced cells as the released guide's own fill.sh prints them over the translation 22d4b08b00e0b863… (all of the seat's roots in one cut). By AI agents, Wed Nov 11 2026. No macro, syntax, notation, axiom, sorry.
-/
import Derived.Test.YtpjmhiokhoplmaaChecked
import GoSem.Claim
import GoSem.ClaimJoined
import GoSem.ClaimMapViews
import Derived.JoinedTies
import Derived.KernelRfl
namespace Go.Proofs.Ytpjmhiokhoplmaa
/- THE CELL 'sum', in the pinned program and in every row, IS THE sha256 OF THE DUMP (.gsa) THAT YtpjmhiokhoplmaaProg.lean LOADS. Nothing in Lean hashes anything: it is a label: what it is worth is what the hold of that sum in a sandbox is worth. -/
noncomputable def Try.pinned : Pinned := { name := "ytpjmhiokhoplmaa", sum := "22d4b08b00e0b8633dea36d775b32d202e775d3ae230e0643ec43ea550abdfa2", checked := Try.checked }
namespace Rows
def none {H : Type} : Left H := { results := [], args := [] }

/-- 'butterylaw06.TinyDoes': WHATEVER THE INPUT: true; the input reads as it did. -/
def tinyDoesSpec : ChangeSpec := { name := "tinyDoes", fn := fun _ => fun
  | [d1, d2, d3] => { results := [.lit (.bool true)], args := [d1, d2, d3] }
  | _ => none }
def tinyDoesRow : OpenClaim := { program := "ytpjmhiokhoplmaa", sum := "22d4b08b00e0b8633dea36d775b32d202e775d3ae230e0643ec43ea550abdfa2", func := "buttery/butterylaw06.TinyDoes", spec := "tinyDoes", unfollowed := true, recurses := true, apart := false }
def TinyDoesSaid : Prop := tinyDoesRow.holds Try.pinned (OpenSpec.ofChange tinyDoesSpec)

/-- ITS FALSE NEIGHBOUR: 'it returns false'. Refute it at one input. -/
def tinyDoesWrong : ChangeSpec := { name := "tinyDoes", fn := fun _ => fun
  | [d1, d2, d3] => { results := [.lit (.bool false)], args := [d1, d2, d3] }
  | _ => none }
def TinyDoesWrongFalsely : Prop := tinyDoesRow.holds Try.pinned (OpenSpec.ofChange tinyDoesWrong)

/-- 'butterylaw06.TinyOrders': WHATEVER THE INPUT: true; the input reads as it did. -/
def tinyOrdersSpec : ChangeSpec := { name := "tinyOrders", fn := fun _ => fun
  | [d1, d2, d3, d4, d5] => { results := [.lit (.bool true)], args := [d1, d2, d3, d4, d5] }
  | _ => none }
def tinyOrdersRow : OpenClaim := { program := "ytpjmhiokhoplmaa", sum := "22d4b08b00e0b8633dea36d775b32d202e775d3ae230e0643ec43ea550abdfa2", func := "buttery/butterylaw06.TinyOrders", spec := "tinyOrders", unfollowed := true, recurses := true, apart := false }
def TinyOrdersSaid : Prop := tinyOrdersRow.holds Try.pinned (OpenSpec.ofChange tinyOrdersSpec)

/-- ITS FALSE NEIGHBOUR: 'it returns false'. Refute it at one input. -/
def tinyOrdersWrong : ChangeSpec := { name := "tinyOrders", fn := fun _ => fun
  | [d1, d2, d3, d4, d5] => { results := [.lit (.bool false)], args := [d1, d2, d3, d4, d5] }
  | _ => none }
def TinyOrdersWrongFalsely : Prop := tinyOrdersRow.holds Try.pinned (OpenSpec.ofChange tinyOrdersWrong)

/-- 'butterylaw06.TinyUsed': WHATEVER THE INPUT: true; the input reads as it did. -/
def tinyUsedSpec : ChangeSpec := { name := "tinyUsed", fn := fun _ => fun
  | [d1, d2, d3] => { results := [.lit (.bool true)], args := [d1, d2, d3] }
  | _ => none }
def tinyUsedRow : OpenClaim := { program := "ytpjmhiokhoplmaa", sum := "22d4b08b00e0b8633dea36d775b32d202e775d3ae230e0643ec43ea550abdfa2", func := "buttery/butterylaw06.TinyUsed", spec := "tinyUsed", unfollowed := true, recurses := true, apart := false }
def TinyUsedSaid : Prop := tinyUsedRow.holds Try.pinned (OpenSpec.ofChange tinyUsedSpec)

/-- ITS FALSE NEIGHBOUR: 'it returns false'. Refute it at one input. -/
def tinyUsedWrong : ChangeSpec := { name := "tinyUsed", fn := fun _ => fun
  | [d1, d2, d3] => { results := [.lit (.bool false)], args := [d1, d2, d3] }
  | _ => none }
def TinyUsedWrongFalsely : Prop := tinyUsedRow.holds Try.pinned (OpenSpec.ofChange tinyUsedWrong)

/-- 'butterylaw06.TinyCounts': WHATEVER THE INPUT: true; the input reads as it did. -/
def tinyCountsSpec : ChangeSpec := { name := "tinyCounts", fn := fun _ => fun
  | [d1, d2, d3] => { results := [.lit (.bool true)], args := [d1, d2, d3] }
  | _ => none }
def tinyCountsRow : OpenClaim := { program := "ytpjmhiokhoplmaa", sum := "22d4b08b00e0b8633dea36d775b32d202e775d3ae230e0643ec43ea550abdfa2", func := "buttery/butterylaw06.TinyCounts", spec := "tinyCounts", unfollowed := true, recurses := true, apart := false }
def TinyCountsSaid : Prop := tinyCountsRow.holds Try.pinned (OpenSpec.ofChange tinyCountsSpec)

/-- ITS FALSE NEIGHBOUR: 'it returns false'. Refute it at one input. -/
def tinyCountsWrong : ChangeSpec := { name := "tinyCounts", fn := fun _ => fun
  | [d1, d2, d3] => { results := [.lit (.bool false)], args := [d1, d2, d3] }
  | _ => none }
def TinyCountsWrongFalsely : Prop := tinyCountsRow.holds Try.pinned (OpenSpec.ofChange tinyCountsWrong)

/-- 'butterylaw06.TinyApart': WHATEVER THE INPUT: true; the input reads as it did. -/
def tinyApartSpec : ChangeSpec := { name := "tinyApart", fn := fun _ => fun
  | [d1, d2, d3] => { results := [.lit (.bool true)], args := [d1, d2, d3] }
  | _ => none }
def tinyApartRow : OpenClaim := { program := "ytpjmhiokhoplmaa", sum := "22d4b08b00e0b8633dea36d775b32d202e775d3ae230e0643ec43ea550abdfa2", func := "buttery/butterylaw06.TinyApart", spec := "tinyApart", unfollowed := true, recurses := true, apart := false }
def TinyApartSaid : Prop := tinyApartRow.holds Try.pinned (OpenSpec.ofChange tinyApartSpec)

/-- ITS FALSE NEIGHBOUR: 'it returns false'. Refute it at one input. -/
def tinyApartWrong : ChangeSpec := { name := "tinyApart", fn := fun _ => fun
  | [d1, d2, d3] => { results := [.lit (.bool false)], args := [d1, d2, d3] }
  | _ => none }
def TinyApartWrongFalsely : Prop := tinyApartRow.holds Try.pinned (OpenSpec.ofChange tinyApartWrong)

/- THE SECOND FORM. 'bulk': how many values and letters a reading holds, each counted each time it is reached (what is shared counts as often as it is met; a slice's spare places count too). A statement '..UptoSaid' is the law's where the arguments, and the package variables that the reading takes, are together of bulk at most 1048576: NARROWER than '..Said'. Prove '..Said' where nothing that the law and all that it calls make is longer than what came in: it says more and counts as full. Else prove '..UptoSaid'. A law counts once. -/
mutual
def uptoBulk {H : Type} : DataW H → Nat
  | .lit (.string bytes) => bytes.length + 1
  | .lit _ => 1
  | .nil => 1
  | .ptr d => uptoBulk d + 1
  | .slice elems spare => uptoBulkAll elems + uptoBulkAll spare + 1
  | .agg parts => uptoBulkAll parts + 1
  | .iface _ d => uptoBulk d + 1
  | .map entries => uptoBulkEntries entries + 1
  | .held _ => 1
def uptoBulkAll {H : Type} : List (DataW H) → Nat
  | [] => 0
  | d :: r => uptoBulk d + uptoBulkAll r
def uptoBulkEntries {H : Type} : List (Lit × DataW H) → Nat
  | [] => 0
  | x :: r => uptoBulkEntry x + uptoBulkEntries r
def uptoBulkEntry {H : Type} : Lit × DataW H → Nat
  | (.string bytes, d) => bytes.length + uptoBulk d + 1
  | (_, d) => uptoBulk d + 1
 end
def uptoSmall : (H : Type) → List (DataW H) → Bool := fun _ ds => decide (uptoBulkAll ds ≤ 1048576)
def OpenSpec.upto (s : _root_.Go.ChangeSpec) : _root_.Go.OpenSpec := { _root_.Go.OpenSpec.ofChange s with cond := some uptoSmall }

/-- 'butterylaw06.TinyDoes', WHERE WHAT IT READS IS OF BULK AT MOST 1048576: true; the input reads as it did. -/
def tinyDoesUptoRow : OpenClaim := { program := "ytpjmhiokhoplmaa", sum := "22d4b08b00e0b8633dea36d775b32d202e775d3ae230e0643ec43ea550abdfa2", func := "buttery/butterylaw06.TinyDoes", spec := "tinyDoes", unfollowed := true, recurses := true, apart := false, narrowed := true }
def TinyDoesUptoSaid : Prop := tinyDoesUptoRow.holds Try.pinned (OpenSpec.upto tinyDoesSpec)

/-- 'butterylaw06.TinyOrders', WHERE WHAT IT READS IS OF BULK AT MOST 1048576: true; the input reads as it did. -/
def tinyOrdersUptoRow : OpenClaim := { program := "ytpjmhiokhoplmaa", sum := "22d4b08b00e0b8633dea36d775b32d202e775d3ae230e0643ec43ea550abdfa2", func := "buttery/butterylaw06.TinyOrders", spec := "tinyOrders", unfollowed := true, recurses := true, apart := false, narrowed := true }
def TinyOrdersUptoSaid : Prop := tinyOrdersUptoRow.holds Try.pinned (OpenSpec.upto tinyOrdersSpec)

/-- 'butterylaw06.TinyUsed', WHERE WHAT IT READS IS OF BULK AT MOST 1048576: true; the input reads as it did. -/
def tinyUsedUptoRow : OpenClaim := { program := "ytpjmhiokhoplmaa", sum := "22d4b08b00e0b8633dea36d775b32d202e775d3ae230e0643ec43ea550abdfa2", func := "buttery/butterylaw06.TinyUsed", spec := "tinyUsed", unfollowed := true, recurses := true, apart := false, narrowed := true }
def TinyUsedUptoSaid : Prop := tinyUsedUptoRow.holds Try.pinned (OpenSpec.upto tinyUsedSpec)

/-- 'butterylaw06.TinyCounts', WHERE WHAT IT READS IS OF BULK AT MOST 1048576: true; the input reads as it did. -/
def tinyCountsUptoRow : OpenClaim := { program := "ytpjmhiokhoplmaa", sum := "22d4b08b00e0b8633dea36d775b32d202e775d3ae230e0643ec43ea550abdfa2", func := "buttery/butterylaw06.TinyCounts", spec := "tinyCounts", unfollowed := true, recurses := true, apart := false, narrowed := true }
def TinyCountsUptoSaid : Prop := tinyCountsUptoRow.holds Try.pinned (OpenSpec.upto tinyCountsSpec)

/-- 'butterylaw06.TinyApart', WHERE WHAT IT READS IS OF BULK AT MOST 1048576: true; the input reads as it did. -/
def tinyApartUptoRow : OpenClaim := { program := "ytpjmhiokhoplmaa", sum := "22d4b08b00e0b8633dea36d775b32d202e775d3ae230e0643ec43ea550abdfa2", func := "buttery/butterylaw06.TinyApart", spec := "tinyApart", unfollowed := true, recurses := true, apart := false, narrowed := true }
def TinyApartUptoSaid : Prop := tinyApartUptoRow.holds Try.pinned (OpenSpec.upto tinyApartSpec)

end Rows
end Go.Proofs.Ytpjmhiokhoplmaa
