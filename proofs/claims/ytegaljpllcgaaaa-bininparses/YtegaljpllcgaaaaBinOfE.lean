/- The document's own table of codes: all of them. Conditions: codes of a byte. -/
import Derived.Test.YtegaljpllcgaaaaG30Joined
namespace Go.Proofs.Ytegaljpllcgaaaa
set_option linter.unusedVariables false
open Go.RowKit

section
variable {w : World}
theorem rowB_other {c : Int} (h0 : 16 ≤ c) (h28 : c ≠ 28) (h29 : c ≠ 29) (q : Bool) : rowB c q = ⟨-1, 0, true, false, q⟩ := by
  unfold rowB opB extB keyB valB
  rw [if_neg (by omega), if_neg h28, if_neg h29, if_neg (by omega), if_neg (by omega), if_neg (by omega), decide_eq_false (show ¬ c = 7 by omega), decide_eq_false (show ¬ c = 8 by omega), decide_eq_false (show ¬ c = 10 by omega), decide_eq_false (show ¬ c = 11 by omega), decide_eq_false (show ¬ c = 14 by omega), decide_eq_false (show ¬ c = 15 by omega), decide_eq_false (show ¬ c ≤ 3 by omega)]
  simp
theorem of_any {code : Int} (h0 : 0 ≤ code) (h1 : code ≤ 255) : Calls Try.prog 16 #[.int .i64 code] w fun e w' => OfE (ofN code) w e w' := by
  have hl := fun W => loud_any code h0 h1 W
  have hb := loudN_bd h0 h1
  unfold ofN
  generalize (loudN code).2 = q at *
  generalize (loudN code).1 = c at *
  have hc : c = 0 ∨ c = 1 ∨ c = 2 ∨ c = 3 ∨ c = 4 ∨ c = 5 ∨ c = 6 ∨ c = 7 ∨ c = 8 ∨ c = 9 ∨ c = 10 ∨ c = 11 ∨ c = 12 ∨ c = 13 ∨ c = 14 ∨ c = 15 ∨ c = 28 ∨ c = 29 ∨ (16 ≤ c ∧ c ≠ 28 ∧ c ≠ 29) := by omega
  rcases hc with rfl | rfl | rfl | rfl | rfl | rfl | rfl | rfl | rfl | rfl | rfl | rfl | rfl | rfl | rfl | rfl | rfl | rfl | ⟨g0, g1, g2⟩
  · exact of_0 hl
  · exact of_1 hl
  · exact of_2 hl
  · exact of_3 hl
  · exact of_4 hl
  · exact of_5 hl
  · exact of_6 hl
  · exact of_7 hl
  · exact of_8 hl
  · exact of_9 hl
  · exact of_10 hl
  · exact of_11 hl
  · exact of_12 hl
  · exact of_13 hl
  · exact of_14 hl
  · exact of_15 hl
  · exact of_28 hl
  · exact of_29 hl
  · rw [rowB_other g0 g1 g2]
    exact of_other g0 g1 g2 hl
end
end Go.Proofs.Ytegaljpllcgaaaa
