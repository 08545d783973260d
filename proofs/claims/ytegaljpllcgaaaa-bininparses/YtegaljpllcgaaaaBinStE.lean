/- The document's own status of a head: any head. Conditions: its numbers are some bytes long. -/
import Derived.Test.YtegaljpllcgaaaaG31Joined
namespace Go.Proofs.Ytegaljpllcgaaaa
set_option linter.unusedVariables false
open Go.RowKit

section
variable {w : World} {r : R5} {x k l : Int}
theorem wrap_b {z : Int} (h0 : -1000000 ≤ z) (h1 : z ≤ 1000000) : wrap64 z = z := by unfold wrap64; omega
theorem status_any (hh : HeadB x k l) (he : 0 ≤ r.ext ∧ r.ext ≤ 20) : Calls Try.prog 23 #[.agg (r5C r), .int .i64 x, .int .i64 k, .int .i64 l] w fun e w' => e = .returned (.int .i64 (statusN r x k l)) ∧ w.grownBy w' none := by
  obtain ⟨x0, x1, k0, k1, l0, l1⟩ := hh
  by_cases h : r.op < 0
  · rw [show statusN r x k l = 129 by unfold statusN; rw [if_pos h]]
    exact status_no h
  · by_cases h13 : r.op = 13
    · by_cases hx : x = 0
      · subst hx
        exact st_f0 h h13 (wrap_b (by omega) (by omega)) (wrap_b (by omega) (by omega)) (wrap_b (by omega) (by omega))
      · by_cases hy : x = 4
        · subst hy
          exact st_f4 h h13 (wrap_b (by omega) (by omega)) (wrap_b (by omega) (by omega)) (wrap_b (by omega) (by omega))
        · exact st_fx h h13 hx hy (wrap_b (by omega) (by omega)) (wrap_b (by omega) (by omega)) (wrap_b (by omega) (by omega))
    · by_cases hx : x = r.ext
      · subst hx
        exact st_e h h13 (wrap_b (by omega) (by omega)) (wrap_b (by omega) (by omega)) (wrap_b (by omega) (by omega))
      · exact st_x h h13 hx (wrap_b (by omega) (by omega)) (wrap_b (by omega) (by omega)) (wrap_b (by omega) (by omega))
end
end Go.Proofs.Ytegaljpllcgaaaa
