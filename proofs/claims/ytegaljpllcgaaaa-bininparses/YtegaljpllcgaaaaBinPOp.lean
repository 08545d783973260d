/- Package binin's table of codes. Conditions: codes of a byte. -/
import Derived.Test.YtegaljpllcgaaaaBinV
namespace Go.Proofs.Ytegaljpllcgaaaa
set_option linter.unusedVariables false
open Go.RowKit

/-- The kind of command of a code, and whether there is one. -/
def opP (c : Int) : Int × Bool := if 0 ≤ (ofN c).op then ((ofN c).op, true) else (0, false)
theorem opP_none {c : Int} (h : c ≠ 0 ∧ c ≠ 9 ∧ c ≠ 12 ∧ c ≠ 13 ∧ c ≠ 1 ∧ c ≠ 17 ∧ c ≠ 2 ∧ c ≠ 18 ∧ c ≠ 3 ∧ c ≠ 19 ∧ c ≠ 4 ∧ c ≠ 20 ∧ c ≠ 5 ∧ c ≠ 21 ∧ c ≠ 6 ∧ c ≠ 22 ∧ c ≠ 7 ∧ c ≠ 23 ∧ c ≠ 8 ∧ c ≠ 24 ∧ c ≠ 10 ∧ c ≠ 11 ∧ c ≠ 14 ∧ c ≠ 25 ∧ c ≠ 15 ∧ c ≠ 26 ∧ c ≠ 28 ∧ c ≠ 29 ∧ c ≠ 30) : opP c = (0, false) := by
  have e : ¬ 0 ≤ (ofN c).op := by
    unfold ofN rowB loudN opB
    simp only []
    by_cases h1 : c = 16
    · subst h1; decide
    by_cases h2 : c = 27
    · subst h2; decide
    by_cases h3 : c = 31
    · subst h3; decide
    repeat' split
    all_goals (simp only [] at *; omega)
  unfold opP
  rw [if_neg e]
theorem quiet_no {c : Int} (h : c ≠ 9 ∧ c ≠ 13 ∧ c ≠ 17 ∧ c ≠ 18 ∧ c ≠ 19 ∧ c ≠ 20 ∧ c ≠ 21 ∧ c ≠ 22 ∧ c ≠ 23 ∧ c ≠ 24 ∧ c ≠ 25 ∧ c ≠ 26 ∧ c ≠ 30) : (ofN c).quiet = false := by
  unfold ofN rowB loudN
  repeat' split
  all_goals first | rfl | (exfalso; omega)
set_option maxRecDepth 100000 in
set_option maxHeartbeats 8000000 in
theorem op_any (c : Int) (w : World) : Calls Try.prog 32 #[.int .u8 c] w fun e w' => e = .returned (.tuple #[.int .i64 (opP c).1, .bool (opP c).2]) ∧ w' = w := by
  by_cases n0 : c = 0
  · subst n0
    go_enter Try.func32, Try.ntmps32
    go_wp2
    go_ret2
    exact ⟨rfl, rfl⟩
  by_cases n9 : c = 9
  · subst n9
    go_enter Try.func32, Try.ntmps32
    go_wp2
    go_ret2
    exact ⟨rfl, rfl⟩
  by_cases n12 : c = 12
  · subst n12
    go_enter Try.func32, Try.ntmps32
    go_wp2
    go_ret2
    exact ⟨rfl, rfl⟩
  by_cases n13 : c = 13
  · subst n13
    go_enter Try.func32, Try.ntmps32
    go_wp2
    go_ret2
    exact ⟨rfl, rfl⟩
  by_cases n1 : c = 1
  · subst n1
    go_enter Try.func32, Try.ntmps32
    go_wp2
    go_ret2
    exact ⟨rfl, rfl⟩
  by_cases n17 : c = 17
  · subst n17
    go_enter Try.func32, Try.ntmps32
    go_wp2
    go_ret2
    exact ⟨rfl, rfl⟩
  by_cases n2 : c = 2
  · subst n2
    go_enter Try.func32, Try.ntmps32
    go_wp2
    go_ret2
    exact ⟨rfl, rfl⟩
  by_cases n18 : c = 18
  · subst n18
    go_enter Try.func32, Try.ntmps32
    go_wp2
    go_ret2
    exact ⟨rfl, rfl⟩
  by_cases n3 : c = 3
  · subst n3
    go_enter Try.func32, Try.ntmps32
    go_wp2
    go_ret2
    exact ⟨rfl, rfl⟩
  by_cases n19 : c = 19
  · subst n19
    go_enter Try.func32, Try.ntmps32
    go_wp2
    go_ret2
    exact ⟨rfl, rfl⟩
  by_cases n4 : c = 4
  · subst n4
    go_enter Try.func32, Try.ntmps32
    go_wp2
    go_ret2
    exact ⟨rfl, rfl⟩
  by_cases n20 : c = 20
  · subst n20
    go_enter Try.func32, Try.ntmps32
    go_wp2
    go_ret2
    exact ⟨rfl, rfl⟩
  by_cases n5 : c = 5
  · subst n5
    go_enter Try.func32, Try.ntmps32
    go_wp2
    go_ret2
    exact ⟨rfl, rfl⟩
  by_cases n21 : c = 21
  · subst n21
    go_enter Try.func32, Try.ntmps32
    go_wp2
    go_ret2
    exact ⟨rfl, rfl⟩
  by_cases n6 : c = 6
  · subst n6
    go_enter Try.func32, Try.ntmps32
    go_wp2
    go_ret2
    exact ⟨rfl, rfl⟩
  by_cases n22 : c = 22
  · subst n22
    go_enter Try.func32, Try.ntmps32
    go_wp2
    go_ret2
    exact ⟨rfl, rfl⟩
  by_cases n7 : c = 7
  · subst n7
    go_enter Try.func32, Try.ntmps32
    go_wp2
    go_ret2
    exact ⟨rfl, rfl⟩
  by_cases n23 : c = 23
  · subst n23
    go_enter Try.func32, Try.ntmps32
    go_wp2
    go_ret2
    exact ⟨rfl, rfl⟩
  by_cases n8 : c = 8
  · subst n8
    go_enter Try.func32, Try.ntmps32
    go_wp2
    go_ret2
    exact ⟨rfl, rfl⟩
  by_cases n24 : c = 24
  · subst n24
    go_enter Try.func32, Try.ntmps32
    go_wp2
    go_ret2
    exact ⟨rfl, rfl⟩
  by_cases n10 : c = 10
  · subst n10
    go_enter Try.func32, Try.ntmps32
    go_wp2
    go_ret2
    exact ⟨rfl, rfl⟩
  by_cases n11 : c = 11
  · subst n11
    go_enter Try.func32, Try.ntmps32
    go_wp2
    go_ret2
    exact ⟨rfl, rfl⟩
  by_cases n14 : c = 14
  · subst n14
    go_enter Try.func32, Try.ntmps32
    go_wp2
    go_ret2
    exact ⟨rfl, rfl⟩
  by_cases n25 : c = 25
  · subst n25
    go_enter Try.func32, Try.ntmps32
    go_wp2
    go_ret2
    exact ⟨rfl, rfl⟩
  by_cases n15 : c = 15
  · subst n15
    go_enter Try.func32, Try.ntmps32
    go_wp2
    go_ret2
    exact ⟨rfl, rfl⟩
  by_cases n26 : c = 26
  · subst n26
    go_enter Try.func32, Try.ntmps32
    go_wp2
    go_ret2
    exact ⟨rfl, rfl⟩
  by_cases n28 : c = 28
  · subst n28
    go_enter Try.func32, Try.ntmps32
    go_wp2
    go_ret2
    exact ⟨rfl, rfl⟩
  by_cases n29 : c = 29
  · subst n29
    go_enter Try.func32, Try.ntmps32
    go_wp2
    go_ret2
    exact ⟨rfl, rfl⟩
  by_cases n30 : c = 30
  · subst n30
    go_enter Try.func32, Try.ntmps32
    go_wp2
    go_ret2
    exact ⟨rfl, rfl⟩
  rw [opP_none ⟨n0, n9, n12, n13, n1, n17, n2, n18, n3, n19, n4, n20, n5, n21, n6, n22, n7, n23, n8, n24, n10, n11, n14, n25, n15, n26, n28, n29, n30⟩]
  have z0 : (c == 0) = false := by rw [beq_eq_false_iff_ne]; exact n0
  have z9 : (c == 9) = false := by rw [beq_eq_false_iff_ne]; exact n9
  have z12 : (c == 12) = false := by rw [beq_eq_false_iff_ne]; exact n12
  have z13 : (c == 13) = false := by rw [beq_eq_false_iff_ne]; exact n13
  have z1 : (c == 1) = false := by rw [beq_eq_false_iff_ne]; exact n1
  have z17 : (c == 17) = false := by rw [beq_eq_false_iff_ne]; exact n17
  have z2 : (c == 2) = false := by rw [beq_eq_false_iff_ne]; exact n2
  have z18 : (c == 18) = false := by rw [beq_eq_false_iff_ne]; exact n18
  have z3 : (c == 3) = false := by rw [beq_eq_false_iff_ne]; exact n3
  have z19 : (c == 19) = false := by rw [beq_eq_false_iff_ne]; exact n19
  have z4 : (c == 4) = false := by rw [beq_eq_false_iff_ne]; exact n4
  have z20 : (c == 20) = false := by rw [beq_eq_false_iff_ne]; exact n20
  have z5 : (c == 5) = false := by rw [beq_eq_false_iff_ne]; exact n5
  have z21 : (c == 21) = false := by rw [beq_eq_false_iff_ne]; exact n21
  have z6 : (c == 6) = false := by rw [beq_eq_false_iff_ne]; exact n6
  have z22 : (c == 22) = false := by rw [beq_eq_false_iff_ne]; exact n22
  have z7 : (c == 7) = false := by rw [beq_eq_false_iff_ne]; exact n7
  have z23 : (c == 23) = false := by rw [beq_eq_false_iff_ne]; exact n23
  have z8 : (c == 8) = false := by rw [beq_eq_false_iff_ne]; exact n8
  have z24 : (c == 24) = false := by rw [beq_eq_false_iff_ne]; exact n24
  have z10 : (c == 10) = false := by rw [beq_eq_false_iff_ne]; exact n10
  have z11 : (c == 11) = false := by rw [beq_eq_false_iff_ne]; exact n11
  have z14 : (c == 14) = false := by rw [beq_eq_false_iff_ne]; exact n14
  have z25 : (c == 25) = false := by rw [beq_eq_false_iff_ne]; exact n25
  have z15 : (c == 15) = false := by rw [beq_eq_false_iff_ne]; exact n15
  have z26 : (c == 26) = false := by rw [beq_eq_false_iff_ne]; exact n26
  have z28 : (c == 28) = false := by rw [beq_eq_false_iff_ne]; exact n28
  have z29 : (c == 29) = false := by rw [beq_eq_false_iff_ne]; exact n29
  have z30 : (c == 30) = false := by rw [beq_eq_false_iff_ne]; exact n30
  clear n0 n9 n12 n13 n1 n17 n2 n18 n3 n19 n4 n20 n5 n21 n6 n22 n7 n23 n8 n24 n10 n11 n14 n25 n15 n26 n28 n29 n30
  go_enter Try.func32, Try.ntmps32
  go_wp2
  go_ret2
  exact ⟨rfl, rfl⟩
set_option maxRecDepth 100000 in
set_option maxHeartbeats 8000000 in
theorem quiet_any (c : Int) (w : World) : Calls Try.prog 46 #[.int .u8 c] w fun e w' => e = .returned (.bool (ofN c).quiet) ∧ w' = w := by
  by_cases n9 : c = 9
  · subst n9
    go_enter Try.func46, Try.ntmps46
    go_wp2
    go_ret
    exact ⟨rfl, rfl⟩
  by_cases n13 : c = 13
  · subst n13
    go_enter Try.func46, Try.ntmps46
    go_wp2
    go_ret
    exact ⟨rfl, rfl⟩
  by_cases n17 : c = 17
  · subst n17
    go_enter Try.func46, Try.ntmps46
    go_wp2
    go_ret
    exact ⟨rfl, rfl⟩
  by_cases n18 : c = 18
  · subst n18
    go_enter Try.func46, Try.ntmps46
    go_wp2
    go_ret
    exact ⟨rfl, rfl⟩
  by_cases n19 : c = 19
  · subst n19
    go_enter Try.func46, Try.ntmps46
    go_wp2
    go_ret
    exact ⟨rfl, rfl⟩
  by_cases n20 : c = 20
  · subst n20
    go_enter Try.func46, Try.ntmps46
    go_wp2
    go_ret
    exact ⟨rfl, rfl⟩
  by_cases n21 : c = 21
  · subst n21
    go_enter Try.func46, Try.ntmps46
    go_wp2
    go_ret
    exact ⟨rfl, rfl⟩
  by_cases n22 : c = 22
  · subst n22
    go_enter Try.func46, Try.ntmps46
    go_wp2
    go_ret
    exact ⟨rfl, rfl⟩
  by_cases n23 : c = 23
  · subst n23
    go_enter Try.func46, Try.ntmps46
    go_wp2
    go_ret
    exact ⟨rfl, rfl⟩
  by_cases n24 : c = 24
  · subst n24
    go_enter Try.func46, Try.ntmps46
    go_wp2
    go_ret
    exact ⟨rfl, rfl⟩
  by_cases n25 : c = 25
  · subst n25
    go_enter Try.func46, Try.ntmps46
    go_wp2
    go_ret
    exact ⟨rfl, rfl⟩
  by_cases n26 : c = 26
  · subst n26
    go_enter Try.func46, Try.ntmps46
    go_wp2
    go_ret
    exact ⟨rfl, rfl⟩
  by_cases n30 : c = 30
  · subst n30
    go_enter Try.func46, Try.ntmps46
    go_wp2
    go_ret
    exact ⟨rfl, rfl⟩
  rw [quiet_no ⟨n9, n13, n17, n18, n19, n20, n21, n22, n23, n24, n25, n26, n30⟩]
  have z9 : (c == 9) = false := by rw [beq_eq_false_iff_ne]; exact n9
  have z13 : (c == 13) = false := by rw [beq_eq_false_iff_ne]; exact n13
  have z17 : (c == 17) = false := by rw [beq_eq_false_iff_ne]; exact n17
  have z18 : (c == 18) = false := by rw [beq_eq_false_iff_ne]; exact n18
  have z19 : (c == 19) = false := by rw [beq_eq_false_iff_ne]; exact n19
  have z20 : (c == 20) = false := by rw [beq_eq_false_iff_ne]; exact n20
  have z21 : (c == 21) = false := by rw [beq_eq_false_iff_ne]; exact n21
  have z22 : (c == 22) = false := by rw [beq_eq_false_iff_ne]; exact n22
  have z23 : (c == 23) = false := by rw [beq_eq_false_iff_ne]; exact n23
  have z24 : (c == 24) = false := by rw [beq_eq_false_iff_ne]; exact n24
  have z25 : (c == 25) = false := by rw [beq_eq_false_iff_ne]; exact n25
  have z26 : (c == 26) = false := by rw [beq_eq_false_iff_ne]; exact n26
  have z30 : (c == 30) = false := by rw [beq_eq_false_iff_ne]; exact n30
  clear n9 n13 n17 n18 n19 n20 n21 n22 n23 n24 n25 n26 n30
  go_enter Try.func46, Try.ntmps46
  go_wp2
  go_ret
  exact ⟨rfl, rfl⟩
end Go.Proofs.Ytegaljpllcgaaaa
