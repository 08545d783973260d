/- Package binout's number of a status, and whether an answer is expected. Conditions: none. -/
import Derived.Test.YtaafkefgpgoepaaBoCode
namespace Go.Proofs.Ytaafkefgpgoepaa
set_option linter.unusedVariables false
open Go.RowKit

set_option maxRecDepth 100000 in
set_option maxHeartbeats 4000000 in
theorem pcode_any (s : Int) (w : World) : Calls Try.prog 12 #[.int .i64 s] w fun e w' => e = .returned (.int .u16 (codeN s)) ∧ w' = w := by
  have hs : s = 0 ∨ s = 1 ∨ s = 2 ∨ s = 3 ∨ s = 4 ∨ s = 5 ∨ s = 6 ∨ s = 7 ∨ s = 8 ∨ s = 9 ∨ s = 10 ∨ s = 11 ∨ (¬ s = 0 ∧ ¬ s = 1 ∧ ¬ s = 2 ∧ ¬ s = 3 ∧ ¬ s = 4 ∧ ¬ s = 5 ∧ ¬ s = 6 ∧ ¬ s = 7 ∧ ¬ s = 8 ∧ ¬ s = 9 ∧ ¬ s = 10 ∧ ¬ s = 11) := by omega
  rcases hs with rfl | rfl | rfl | rfl | rfl | rfl | rfl | rfl | rfl | rfl | rfl | rfl | ⟨h0, h1, h2, h3, h4, h5, h6, h7, h8, h9, h10, h11⟩
  rotate_right 1
  · have e : codeN s = 132 := by unfold codeN; rw [if_neg (by omega), if_neg h1, if_neg h4, if_neg h3, if_neg h8, if_neg h9]
    rw [e]
    have z0 := eq_false h0
    have z1 := eq_false h1
    have z2 := eq_false h2
    have z3 := eq_false h3
    have z4 := eq_false h4
    have z5 := eq_false h5
    have z6 := eq_false h6
    have z7 := eq_false h7
    have z8 := eq_false h8
    have z9 := eq_false h9
    have z10 := eq_false h10
    have z11 := eq_false h11
    clear e
    go_enter Try.func12, Try.ntmps12
    go_wp2
    go_ret
    exact ⟨rfl, rfl⟩
  all_goals
    go_enter Try.func12, Try.ntmps12
    go_wp2
    go_ret
    exact ⟨rfl, rfl⟩
/-- What a quiet request wants to hear nothing of. -/
def wontA (op s : Int) : Bool := if op = 0 ∨ op = 1 then decide (s = 1) else decide (codeN s = 0)
theorem int_eqb (a b : Int) : (a == b) = decide (a = b) := by by_cases h : a = b <;> simp [h]
set_option maxRecDepth 100000 in
set_option maxHeartbeats 4000000 in
theorem pexp_any (op s : Int) (w : World) : Calls Try.prog 16 #[.int .i64 op, .int .i64 s] w fun e w' => e = .returned (.bool (wontA op s)) ∧ w' = w := by
  have HC := hide (fun U => pcode_any s U)
  by_cases h0 : op = 0
  · subst h0
    have HW : Hid (wontA 0 s = (s == 1)) := by
      show _ = _
      unfold wontA
      rw [if_pos (.inl rfl), int_eqb]
    go_enter Try.func16, Try.ntmps16
    go_wp2
    go_ret
    exact ⟨by rw [HW.out]; rfl, rfl⟩
  · by_cases h1 : op = 1
    · subst h1
      have HW : Hid (wontA 1 s = (s == 1)) := by
        show _ = _
        unfold wontA
        rw [if_pos (.inr rfl), int_eqb]
      clear h0
      go_enter Try.func16, Try.ntmps16
      go_wp2
      go_ret
      exact ⟨by rw [HW.out]; rfl, rfl⟩
    · have HW : Hid (wontA op s = (codeN s == 0)) := by
        show _ = _
        unfold wontA
        rw [if_neg (by omega), int_eqb]
      have z0 := eq_false h0
      have z1 := eq_false h1
      clear h0 h1
      go_enter Try.func16, Try.ntmps16
      go_wp2_with (go_at_call 12; refine (HC.out _).mono ?_; rintro e w2 ⟨rfl, rfl⟩)
      go_ret
      exact ⟨by rw [HW.out]; rfl, rfl⟩
end Go.Proofs.Ytaafkefgpgoepaa
