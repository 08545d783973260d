/- The document's own status of a head. Conditions: its numbers are some bytes long. -/
import Derived.Test.YtegaljpllcgaaaaBinOf
namespace Go.Proofs.Ytegaljpllcgaaaa
set_option linter.unusedVariables false
open Go.RowKit

/-- What the head's numbers may be. -/
structure HeadB (x k l : Int) : Prop where
  x0 : 0 ≤ x
  x1 : x ≤ 255
  k0 : 0 ≤ k
  k1 : k ≤ 65535
  l0 : 0 ≤ l
  l1 : l ≤ 2048
section
variable {w : World} {r : R5} {x k l : Int}
set_option maxRecDepth 100000 in
set_option maxHeartbeats 4000000 in
theorem status_no (h : r.op < 0) : Calls Try.prog 23 #[.agg (r5C r), .int .i64 x, .int .i64 k, .int .i64 l] w fun e w' => e = .returned (.int .i64 129) ∧ w.grownBy w' none := by
  have d : decide (r.op < 0) = true := decide_eq_true h
  simp only [r5C]
  clear h
  go_enter Try.func23, Try.ntmps23
  go_wp2
  go_ret
  exact ⟨rfl, World.grownBy_alloc _ _ none⟩
end
end Go.Proofs.Ytegaljpllcgaaaa
