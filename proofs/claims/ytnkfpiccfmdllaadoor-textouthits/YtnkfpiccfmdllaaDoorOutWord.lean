/- What the package and the document call a status. Conditions: none. -/
import Derived.Test.YtnkfpiccfmdllaaDoorTextoutM
namespace Go.Proofs.YtnkfpiccfmdllaaDoor
set_option linter.unusedVariables false
open Go.RowKit

theorem mkS_toList (l : List UInt8) : (mkS l).toList = l := by rw [Lib.toList_data, mkS_list]
theorem mkS_empty (l : List UInt8) : (mkS l).toList.isEmpty = l.isEmpty := by rw [Lib.toList_data, mkS_list]
theorem list_some {l : List UInt8} (h : l ≠ []) : (mkS l).toList.isEmpty = false := by rw [mkS_empty]; cases l <;> simp_all

set_option maxRecDepth 100000 in
set_option maxHeartbeats 2000000 in
theorem word_any (s : Int) (w : World) : Calls Tryd.prog 11 #[.int .i64 s] w fun e w' => e = .returned (.string (mkS (wordL s))) ∧ w' = w := by
  rcases status_ways s with h | h | h | h | h | h | h | h | h | h | h
  · have n1 : (s == 1) = false := by rw [beq_eq_false_iff_ne]; omega
    have n2 : (s == 2) = false := by rw [beq_eq_false_iff_ne]; omega
    have n3 : (s == 3) = false := by rw [beq_eq_false_iff_ne]; omega
    have n4 : (s == 4) = false := by rw [beq_eq_false_iff_ne]; omega
    have n5 : (s == 5) = false := by rw [beq_eq_false_iff_ne]; omega
    have n6 : (s == 6) = false := by rw [beq_eq_false_iff_ne]; omega
    have n8 : (s == 8) = false := by rw [beq_eq_false_iff_ne]; omega
    have n9 : (s == 9) = false := by rw [beq_eq_false_iff_ne]; omega
    have n10 : (s == 10) = false := by rw [beq_eq_false_iff_ne]; omega
    have n11 : (s == 11) = false := by rw [beq_eq_false_iff_ne]; omega
    rw [wordL_none h]
    clear h
    go_enter Tryd.func11, Tryd.ntmps11
    go_wp2
    go_ret
    exact ⟨rfl, rfl⟩
  all_goals
    subst h
    go_enter Tryd.func11, Tryd.ntmps11
    go_wp2
    go_ret
    exact ⟨rfl, rfl⟩
set_option maxRecDepth 100000 in
set_option maxHeartbeats 2000000 in
theorem rword_any (s : Int) (w : World) : Calls Tryd.prog 12 #[.int .i64 s] w fun e w' => e = .returned (.string (mkS (wordL s))) ∧ w' = w := by
  rcases status_ways s with h | h | h | h | h | h | h | h | h | h | h
  · have n1 : (s == 1) = false := by rw [beq_eq_false_iff_ne]; omega
    have n2 : (s == 2) = false := by rw [beq_eq_false_iff_ne]; omega
    have n3 : (s == 3) = false := by rw [beq_eq_false_iff_ne]; omega
    have n4 : (s == 4) = false := by rw [beq_eq_false_iff_ne]; omega
    have n5 : (s == 5) = false := by rw [beq_eq_false_iff_ne]; omega
    have n6 : (s == 6) = false := by rw [beq_eq_false_iff_ne]; omega
    have n8 : (s == 8) = false := by rw [beq_eq_false_iff_ne]; omega
    have n9 : (s == 9) = false := by rw [beq_eq_false_iff_ne]; omega
    have n10 : (s == 10) = false := by rw [beq_eq_false_iff_ne]; omega
    have n11 : (s == 11) = false := by rw [beq_eq_false_iff_ne]; omega
    rw [wordL_none h]
    clear h
    go_enter Tryd.func12, Tryd.ntmps12
    go_wp2
    go_ret
    exact ⟨rfl, rfl⟩
  all_goals
    subst h
    go_enter Tryd.func12, Tryd.ntmps12
    go_wp2
    go_ret
    exact ⟨rfl, rfl⟩
end Go.Proofs.YtnkfpiccfmdllaaDoor
