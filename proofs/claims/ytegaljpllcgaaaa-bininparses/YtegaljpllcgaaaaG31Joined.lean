/- The document's own status of a head: a flush without extras. Conditions: its numbers are some bytes long. The document's own status of a head: a flush with extras. Conditions: its numbers are some bytes long. The document's own status of a head: extras as the table says. Conditions: its numbers are some bytes long. The document's own status of a head: other extras. Conditions: its numbers are some bytes long. -/
import Derived.Test.YtegaljpllcgaaaaBinStat
namespace Go.Proofs.Ytegaljpllcgaaaa
set_option linter.unusedVariables false
open Go.RowKit

section
variable {w : World} {r : R5} {x k l : Int}
set_option maxRecDepth 100000 in
set_option maxHeartbeats 8000000 in
theorem st_f0 (h : ¬ r.op < 0) (h13 : r.op = 13) (hw1 : wrap64 (k) = k) (hw2 : wrap64 (l) = l) (hw3 : wrap64 (l - k) = l - k) : Calls Try.prog 23 #[.agg (r5C r), .int .i64 0, .int .i64 k, .int .i64 l] w fun e w' => e = .returned (.int .i64 (statusN r 0 k l)) ∧ w.grownBy w' none := by
  have d : decide (r.op < 0) = false := decide_eq_false h
  have hS : ∀ c : Int, statusN r 0 k l = c → statusN r 0 k l = c := fun _ h => h
  have z13 : (r.op == 13) = true := by rw [h13]; rfl
  simp only [r5C]
  by_cases p1 : l < k
  · have dp1 : decide (l < k) = true := decide_eq_true p1
    rw [hS 4 (by unfold statusN; grind)]
    clear hS h h13 p1
    go_enter Try.func23, Try.ntmps23
    go_wp2
    go_ret
    exact ⟨rfl, World.grownBy_alloc _ _ none⟩
  · have dp1 : decide (l < k) = false := decide_eq_false p1
    cases hv : r.val with
    | true =>
      cases hk : r.key with
      | true =>
        by_cases p4 : k < 1
        · have dp4 : decide (k < 1) = true := decide_eq_true p4
          rw [hS 4 (by unfold statusN; grind)]
          clear hS h h13 p1 p4
          go_enter Try.func23, Try.ntmps23
          go_wp2
          go_ret
          exact ⟨rfl, World.grownBy_alloc _ _ none⟩
        · have dp4 : decide (k < 1) = false := decide_eq_false p4
          by_cases p5 : 250 < k
          · have dp5 : decide (250 < k) = true := decide_eq_true p5
            rw [hS 4 (by unfold statusN; grind)]
            clear hS h h13 p1 p4 p5
            go_enter Try.func23, Try.ntmps23
            go_wp2
            go_ret
            exact ⟨rfl, World.grownBy_alloc _ _ none⟩
          · have dp5 : decide (250 < k) = false := decide_eq_false p5
            by_cases p6 : 1000 < l - k
            · have dp6 : decide (1000 < l - k) = true := decide_eq_true p6
              rw [hS 3 (by unfold statusN; grind)]
              clear hS h h13 p1 p4 p5 p6
              go_enter Try.func23, Try.ntmps23
              go_wp2
              go_ret
              exact ⟨rfl, World.grownBy_alloc _ _ none⟩
            · have dp6 : decide (1000 < l - k) = false := decide_eq_false p6
              rw [hS 0 (by unfold statusN; grind)]
              clear hS h h13 p1 p4 p5 p6
              go_enter Try.func23, Try.ntmps23
              go_wp2
              go_ret
              exact ⟨rfl, World.grownBy_alloc _ _ none⟩
      | false =>
        by_cases p3 : 0 < k
        · have dp3 : decide (0 < k) = true := decide_eq_true p3
          rw [hS 4 (by unfold statusN; grind)]
          clear hS h h13 p1 p3
          go_enter Try.func23, Try.ntmps23
          go_wp2
          go_ret
          exact ⟨rfl, World.grownBy_alloc _ _ none⟩
        · have dp3 : decide (0 < k) = false := decide_eq_false p3
          by_cases p6 : 1000 < l - k
          · have dp6 : decide (1000 < l - k) = true := decide_eq_true p6
            rw [hS 3 (by unfold statusN; grind)]
            clear hS h h13 p1 p3 p6
            go_enter Try.func23, Try.ntmps23
            go_wp2
            go_ret
            exact ⟨rfl, World.grownBy_alloc _ _ none⟩
          · have dp6 : decide (1000 < l - k) = false := decide_eq_false p6
            rw [hS 0 (by unfold statusN; grind)]
            clear hS h h13 p1 p3 p6
            go_enter Try.func23, Try.ntmps23
            go_wp2
            go_ret
            exact ⟨rfl, World.grownBy_alloc _ _ none⟩
    | false =>
      by_cases p2 : k < l
      · have dp2 : decide (k < l) = true := decide_eq_true p2
        rw [hS 4 (by unfold statusN; grind)]
        clear hS h h13 p1 p2
        go_enter Try.func23, Try.ntmps23
        go_wp2
        go_ret
        exact ⟨rfl, World.grownBy_alloc _ _ none⟩
      · have dp2 : decide (k < l) = false := decide_eq_false p2
        cases hk : r.key with
        | true =>
          by_cases p4 : k < 1
          · have dp4 : decide (k < 1) = true := decide_eq_true p4
            rw [hS 4 (by unfold statusN; grind)]
            clear hS h h13 p1 p2 p4
            go_enter Try.func23, Try.ntmps23
            go_wp2
            go_ret
            exact ⟨rfl, World.grownBy_alloc _ _ none⟩
          · have dp4 : decide (k < 1) = false := decide_eq_false p4
            by_cases p5 : 250 < k
            · have dp5 : decide (250 < k) = true := decide_eq_true p5
              rw [hS 4 (by unfold statusN; grind)]
              clear hS h h13 p1 p2 p4 p5
              go_enter Try.func23, Try.ntmps23
              go_wp2
              go_ret
              exact ⟨rfl, World.grownBy_alloc _ _ none⟩
            · have dp5 : decide (250 < k) = false := decide_eq_false p5
              by_cases p6 : 1000 < l - k
              · have dp6 : decide (1000 < l - k) = true := decide_eq_true p6
                rw [hS 3 (by unfold statusN; grind)]
                clear hS h h13 p1 p2 p4 p5 p6
                go_enter Try.func23, Try.ntmps23
                go_wp2
                go_ret
                exact ⟨rfl, World.grownBy_alloc _ _ none⟩
              · have dp6 : decide (1000 < l - k) = false := decide_eq_false p6
                rw [hS 0 (by unfold statusN; grind)]
                clear hS h h13 p1 p2 p4 p5 p6
                go_enter Try.func23, Try.ntmps23
                go_wp2
                go_ret
                exact ⟨rfl, World.grownBy_alloc _ _ none⟩
        | false =>
          by_cases p3 : 0 < k
          · have dp3 : decide (0 < k) = true := decide_eq_true p3
            rw [hS 4 (by unfold statusN; grind)]
            clear hS h h13 p1 p2 p3
            go_enter Try.func23, Try.ntmps23
            go_wp2
            go_ret
            exact ⟨rfl, World.grownBy_alloc _ _ none⟩
          · have dp3 : decide (0 < k) = false := decide_eq_false p3
            by_cases p6 : 1000 < l - k
            · have dp6 : decide (1000 < l - k) = true := decide_eq_true p6
              rw [hS 3 (by unfold statusN; grind)]
              clear hS h h13 p1 p2 p3 p6
              go_enter Try.func23, Try.ntmps23
              go_wp2
              go_ret
              exact ⟨rfl, World.grownBy_alloc _ _ none⟩
            · have dp6 : decide (1000 < l - k) = false := decide_eq_false p6
              rw [hS 0 (by unfold statusN; grind)]
              clear hS h h13 p1 p2 p3 p6
              go_enter Try.func23, Try.ntmps23
              go_wp2
              go_ret
              exact ⟨rfl, World.grownBy_alloc _ _ none⟩
end
end Go.Proofs.Ytegaljpllcgaaaa

namespace Go.Proofs.Ytegaljpllcgaaaa
set_option linter.unusedVariables false
open Go.RowKit

section
variable {w : World} {r : R5} {x k l : Int}
set_option maxRecDepth 100000 in
set_option maxHeartbeats 8000000 in
theorem st_f4 (h : ¬ r.op < 0) (h13 : r.op = 13) (hw1 : wrap64 (4 + k) = 4 + k) (hw2 : wrap64 (l - 4) = l - 4) (hw3 : wrap64 (l - 4 - k) = l - 4 - k) : Calls Try.prog 23 #[.agg (r5C r), .int .i64 4, .int .i64 k, .int .i64 l] w fun e w' => e = .returned (.int .i64 (statusN r 4 k l)) ∧ w.grownBy w' none := by
  have d : decide (r.op < 0) = false := decide_eq_false h
  have hS : ∀ c : Int, statusN r 4 k l = c → statusN r 4 k l = c := fun _ h => h
  have z13 : (r.op == 13) = true := by rw [h13]; rfl
  simp only [r5C]
  by_cases p1 : l < 4 + k
  · have dp1 : decide (l < 4 + k) = true := decide_eq_true p1
    rw [hS 4 (by unfold statusN; grind)]
    clear hS h h13 p1
    go_enter Try.func23, Try.ntmps23
    go_wp2
    go_ret
    exact ⟨rfl, World.grownBy_alloc _ _ none⟩
  · have dp1 : decide (l < 4 + k) = false := decide_eq_false p1
    cases hv : r.val with
    | true =>
      cases hk : r.key with
      | true =>
        by_cases p4 : k < 1
        · have dp4 : decide (k < 1) = true := decide_eq_true p4
          rw [hS 4 (by unfold statusN; grind)]
          clear hS h h13 p1 p4
          go_enter Try.func23, Try.ntmps23
          go_wp2
          go_ret
          exact ⟨rfl, World.grownBy_alloc _ _ none⟩
        · have dp4 : decide (k < 1) = false := decide_eq_false p4
          by_cases p5 : 250 < k
          · have dp5 : decide (250 < k) = true := decide_eq_true p5
            rw [hS 4 (by unfold statusN; grind)]
            clear hS h h13 p1 p4 p5
            go_enter Try.func23, Try.ntmps23
            go_wp2
            go_ret
            exact ⟨rfl, World.grownBy_alloc _ _ none⟩
          · have dp5 : decide (250 < k) = false := decide_eq_false p5
            by_cases p6 : 1000 < l - 4 - k
            · have dp6 : decide (1000 < l - 4 - k) = true := decide_eq_true p6
              rw [hS 3 (by unfold statusN; grind)]
              clear hS h h13 p1 p4 p5 p6
              go_enter Try.func23, Try.ntmps23
              go_wp2
              go_ret
              exact ⟨rfl, World.grownBy_alloc _ _ none⟩
            · have dp6 : decide (1000 < l - 4 - k) = false := decide_eq_false p6
              rw [hS 0 (by unfold statusN; grind)]
              clear hS h h13 p1 p4 p5 p6
              go_enter Try.func23, Try.ntmps23
              go_wp2
              go_ret
              exact ⟨rfl, World.grownBy_alloc _ _ none⟩
      | false =>
        by_cases p3 : 0 < k
        · have dp3 : decide (0 < k) = true := decide_eq_true p3
          rw [hS 4 (by unfold statusN; grind)]
          clear hS h h13 p1 p3
          go_enter Try.func23, Try.ntmps23
          go_wp2
          go_ret
          exact ⟨rfl, World.grownBy_alloc _ _ none⟩
        · have dp3 : decide (0 < k) = false := decide_eq_false p3
          by_cases p6 : 1000 < l - 4 - k
          · have dp6 : decide (1000 < l - 4 - k) = true := decide_eq_true p6
            rw [hS 3 (by unfold statusN; grind)]
            clear hS h h13 p1 p3 p6
            go_enter Try.func23, Try.ntmps23
            go_wp2
            go_ret
            exact ⟨rfl, World.grownBy_alloc _ _ none⟩
          · have dp6 : decide (1000 < l - 4 - k) = false := decide_eq_false p6
            rw [hS 0 (by unfold statusN; grind)]
            clear hS h h13 p1 p3 p6
            go_enter Try.func23, Try.ntmps23
            go_wp2
            go_ret
            exact ⟨rfl, World.grownBy_alloc _ _ none⟩
    | false =>
      by_cases p2 : 4 + k < l
      · have dp2 : decide (4 + k < l) = true := decide_eq_true p2
        rw [hS 4 (by unfold statusN; grind)]
        clear hS h h13 p1 p2
        go_enter Try.func23, Try.ntmps23
        go_wp2
        go_ret
        exact ⟨rfl, World.grownBy_alloc _ _ none⟩
      · have dp2 : decide (4 + k < l) = false := decide_eq_false p2
        cases hk : r.key with
        | true =>
          by_cases p4 : k < 1
          · have dp4 : decide (k < 1) = true := decide_eq_true p4
            rw [hS 4 (by unfold statusN; grind)]
            clear hS h h13 p1 p2 p4
            go_enter Try.func23, Try.ntmps23
            go_wp2
            go_ret
            exact ⟨rfl, World.grownBy_alloc _ _ none⟩
          · have dp4 : decide (k < 1) = false := decide_eq_false p4
            by_cases p5 : 250 < k
            · have dp5 : decide (250 < k) = true := decide_eq_true p5
              rw [hS 4 (by unfold statusN; grind)]
              clear hS h h13 p1 p2 p4 p5
              go_enter Try.func23, Try.ntmps23
              go_wp2
              go_ret
              exact ⟨rfl, World.grownBy_alloc _ _ none⟩
            · have dp5 : decide (250 < k) = false := decide_eq_false p5
              by_cases p6 : 1000 < l - 4 - k
              · have dp6 : decide (1000 < l - 4 - k) = true := decide_eq_true p6
                rw [hS 3 (by unfold statusN; grind)]
                clear hS h h13 p1 p2 p4 p5 p6
                go_enter Try.func23, Try.ntmps23
                go_wp2
                go_ret
                exact ⟨rfl, World.grownBy_alloc _ _ none⟩
              · have dp6 : decide (1000 < l - 4 - k) = false := decide_eq_false p6
                rw [hS 0 (by unfold statusN; grind)]
                clear hS h h13 p1 p2 p4 p5 p6
                go_enter Try.func23, Try.ntmps23
                go_wp2
                go_ret
                exact ⟨rfl, World.grownBy_alloc _ _ none⟩
        | false =>
          by_cases p3 : 0 < k
          · have dp3 : decide (0 < k) = true := decide_eq_true p3
            rw [hS 4 (by unfold statusN; grind)]
            clear hS h h13 p1 p2 p3
            go_enter Try.func23, Try.ntmps23
            go_wp2
            go_ret
            exact ⟨rfl, World.grownBy_alloc _ _ none⟩
          · have dp3 : decide (0 < k) = false := decide_eq_false p3
            by_cases p6 : 1000 < l - 4 - k
            · have dp6 : decide (1000 < l - 4 - k) = true := decide_eq_true p6
              rw [hS 3 (by unfold statusN; grind)]
              clear hS h h13 p1 p2 p3 p6
              go_enter Try.func23, Try.ntmps23
              go_wp2
              go_ret
              exact ⟨rfl, World.grownBy_alloc _ _ none⟩
            · have dp6 : decide (1000 < l - 4 - k) = false := decide_eq_false p6
              rw [hS 0 (by unfold statusN; grind)]
              clear hS h h13 p1 p2 p3 p6
              go_enter Try.func23, Try.ntmps23
              go_wp2
              go_ret
              exact ⟨rfl, World.grownBy_alloc _ _ none⟩
set_option maxRecDepth 100000 in
set_option maxHeartbeats 8000000 in
theorem st_fx (h : ¬ r.op < 0) (h13 : r.op = 13) (hx : x ≠ 0) (hy : x ≠ 4) (hw1 : wrap64 (x + k) = x + k) (hw2 : wrap64 (l - x) = l - x) (hw3 : wrap64 (l - x - k) = l - x - k) : Calls Try.prog 23 #[.agg (r5C r), .int .i64 x, .int .i64 k, .int .i64 l] w fun e w' => e = .returned (.int .i64 (statusN r x k l)) ∧ w.grownBy w' none := by
  have d : decide (r.op < 0) = false := decide_eq_false h
  have hS : ∀ c : Int, statusN r x k l = c → statusN r x k l = c := fun _ h => h
  have z13 : (r.op == 13) = true := by rw [h13]; rfl
  have zx0 : (x == 0) = false := by rw [beq_eq_false_iff_ne]; exact hx
  have zx4 : (x == 4) = false := by rw [beq_eq_false_iff_ne]; exact hy
  have zn0 : (x != 0) = true := by simpa using hx
  have zn4 : (x != 4) = true := by simpa using hy
  simp only [r5C]
  by_cases p1 : l < x + k
  · have dp1 : decide (l < x + k) = true := decide_eq_true p1
    rw [hS 4 (by unfold statusN; grind)]
    clear hS h h13 hx hy p1
    go_enter Try.func23, Try.ntmps23
    go_wp2
    go_ret
    exact ⟨rfl, World.grownBy_alloc _ _ none⟩
  · have dp1 : decide (l < x + k) = false := decide_eq_false p1
    rw [hS 4 (by unfold statusN; grind)]
    clear hS h h13 hx hy p1
    go_enter Try.func23, Try.ntmps23
    go_wp2
    go_ret
    exact ⟨rfl, World.grownBy_alloc _ _ none⟩
end
end Go.Proofs.Ytegaljpllcgaaaa

namespace Go.Proofs.Ytegaljpllcgaaaa
set_option linter.unusedVariables false
open Go.RowKit

section
variable {w : World} {r : R5} {x k l : Int}
set_option maxRecDepth 100000 in
set_option maxHeartbeats 8000000 in
theorem st_e (h : ¬ r.op < 0) (h13 : r.op ≠ 13) (hw1 : wrap64 (r.ext + k) = r.ext + k) (hw2 : wrap64 (l - r.ext) = l - r.ext) (hw3 : wrap64 (l - r.ext - k) = l - r.ext - k) : Calls Try.prog 23 #[.agg (r5C r), .int .i64 (r.ext), .int .i64 k, .int .i64 l] w fun e w' => e = .returned (.int .i64 (statusN r (r.ext) k l)) ∧ w.grownBy w' none := by
  have d : decide (r.op < 0) = false := decide_eq_false h
  have hS : ∀ c : Int, statusN r (r.ext) k l = c → statusN r (r.ext) k l = c := fun _ h => h
  have z13 : (r.op == 13) = false := by rw [beq_eq_false_iff_ne]; exact h13
  simp only [r5C]
  by_cases p1 : l < r.ext + k
  · have dp1 : decide (l < r.ext + k) = true := decide_eq_true p1
    rw [hS 4 (by unfold statusN; grind)]
    clear hS h h13 p1
    go_enter Try.func23, Try.ntmps23
    go_wp2
    go_ret
    exact ⟨rfl, World.grownBy_alloc _ _ none⟩
  · have dp1 : decide (l < r.ext + k) = false := decide_eq_false p1
    cases hv : r.val with
    | true =>
      cases hk : r.key with
      | true =>
        by_cases p4 : k < 1
        · have dp4 : decide (k < 1) = true := decide_eq_true p4
          rw [hS 4 (by unfold statusN; grind)]
          clear hS h h13 p1 p4
          go_enter Try.func23, Try.ntmps23
          go_wp2
          go_ret
          exact ⟨rfl, World.grownBy_alloc _ _ none⟩
        · have dp4 : decide (k < 1) = false := decide_eq_false p4
          by_cases p5 : 250 < k
          · have dp5 : decide (250 < k) = true := decide_eq_true p5
            rw [hS 4 (by unfold statusN; grind)]
            clear hS h h13 p1 p4 p5
            go_enter Try.func23, Try.ntmps23
            go_wp2
            go_ret
            exact ⟨rfl, World.grownBy_alloc _ _ none⟩
          · have dp5 : decide (250 < k) = false := decide_eq_false p5
            by_cases p6 : 1000 < l - r.ext - k
            · have dp6 : decide (1000 < l - r.ext - k) = true := decide_eq_true p6
              rw [hS 3 (by unfold statusN; grind)]
              clear hS h h13 p1 p4 p5 p6
              go_enter Try.func23, Try.ntmps23
              go_wp2
              go_ret
              exact ⟨rfl, World.grownBy_alloc _ _ none⟩
            · have dp6 : decide (1000 < l - r.ext - k) = false := decide_eq_false p6
              rw [hS 0 (by unfold statusN; grind)]
              clear hS h h13 p1 p4 p5 p6
              go_enter Try.func23, Try.ntmps23
              go_wp2
              go_ret
              exact ⟨rfl, World.grownBy_alloc _ _ none⟩
      | false =>
        by_cases p3 : 0 < k
        · have dp3 : decide (0 < k) = true := decide_eq_true p3
          rw [hS 4 (by unfold statusN; grind)]
          clear hS h h13 p1 p3
          go_enter Try.func23, Try.ntmps23
          go_wp2
          go_ret
          exact ⟨rfl, World.grownBy_alloc _ _ none⟩
        · have dp3 : decide (0 < k) = false := decide_eq_false p3
          by_cases p6 : 1000 < l - r.ext - k
          · have dp6 : decide (1000 < l - r.ext - k) = true := decide_eq_true p6
            rw [hS 3 (by unfold statusN; grind)]
            clear hS h h13 p1 p3 p6
            go_enter Try.func23, Try.ntmps23
            go_wp2
            go_ret
            exact ⟨rfl, World.grownBy_alloc _ _ none⟩
          · have dp6 : decide (1000 < l - r.ext - k) = false := decide_eq_false p6
            rw [hS 0 (by unfold statusN; grind)]
            clear hS h h13 p1 p3 p6
            go_enter Try.func23, Try.ntmps23
            go_wp2
            go_ret
            exact ⟨rfl, World.grownBy_alloc _ _ none⟩
    | false =>
      by_cases p2 : r.ext + k < l
      · have dp2 : decide (r.ext + k < l) = true := decide_eq_true p2
        rw [hS 4 (by unfold statusN; grind)]
        clear hS h h13 p1 p2
        go_enter Try.func23, Try.ntmps23
        go_wp2
        go_ret
        exact ⟨rfl, World.grownBy_alloc _ _ none⟩
      · have dp2 : decide (r.ext + k < l) = false := decide_eq_false p2
        cases hk : r.key with
        | true =>
          by_cases p4 : k < 1
          · have dp4 : decide (k < 1) = true := decide_eq_true p4
            rw [hS 4 (by unfold statusN; grind)]
            clear hS h h13 p1 p2 p4
            go_enter Try.func23, Try.ntmps23
            go_wp2
            go_ret
            exact ⟨rfl, World.grownBy_alloc _ _ none⟩
          · have dp4 : decide (k < 1) = false := decide_eq_false p4
            by_cases p5 : 250 < k
            · have dp5 : decide (250 < k) = true := decide_eq_true p5
              rw [hS 4 (by unfold statusN; grind)]
              clear hS h h13 p1 p2 p4 p5
              go_enter Try.func23, Try.ntmps23
              go_wp2
              go_ret
              exact ⟨rfl, World.grownBy_alloc _ _ none⟩
            · have dp5 : decide (250 < k) = false := decide_eq_false p5
              by_cases p6 : 1000 < l - r.ext - k
              · have dp6 : decide (1000 < l - r.ext - k) = true := decide_eq_true p6
                rw [hS 3 (by unfold statusN; grind)]
                clear hS h h13 p1 p2 p4 p5 p6
                go_enter Try.func23, Try.ntmps23
                go_wp2
                go_ret
                exact ⟨rfl, World.grownBy_alloc _ _ none⟩
              · have dp6 : decide (1000 < l - r.ext - k) = false := decide_eq_false p6
                rw [hS 0 (by unfold statusN; grind)]
                clear hS h h13 p1 p2 p4 p5 p6
                go_enter Try.func23, Try.ntmps23
                go_wp2
                go_ret
                exact ⟨rfl, World.grownBy_alloc _ _ none⟩
        | false =>
          by_cases p3 : 0 < k
          · have dp3 : decide (0 < k) = true := decide_eq_true p3
            rw [hS 4 (by unfold statusN; grind)]
            clear hS h h13 p1 p2 p3
            go_enter Try.func23, Try.ntmps23
            go_wp2
            go_ret
            exact ⟨rfl, World.grownBy_alloc _ _ none⟩
          · have dp3 : decide (0 < k) = false := decide_eq_false p3
            by_cases p6 : 1000 < l - r.ext - k
            · have dp6 : decide (1000 < l - r.ext - k) = true := decide_eq_true p6
              rw [hS 3 (by unfold statusN; grind)]
              clear hS h h13 p1 p2 p3 p6
              go_enter Try.func23, Try.ntmps23
              go_wp2
              go_ret
              exact ⟨rfl, World.grownBy_alloc _ _ none⟩
            · have dp6 : decide (1000 < l - r.ext - k) = false := decide_eq_false p6
              rw [hS 0 (by unfold statusN; grind)]
              clear hS h h13 p1 p2 p3 p6
              go_enter Try.func23, Try.ntmps23
              go_wp2
              go_ret
              exact ⟨rfl, World.grownBy_alloc _ _ none⟩
end
end Go.Proofs.Ytegaljpllcgaaaa

namespace Go.Proofs.Ytegaljpllcgaaaa
set_option linter.unusedVariables false
open Go.RowKit

section
variable {w : World} {r : R5} {x k l : Int}
set_option maxRecDepth 100000 in
set_option maxHeartbeats 8000000 in
theorem st_x (h : ¬ r.op < 0) (h13 : r.op ≠ 13) (hx : x ≠ r.ext) (hw1 : wrap64 (x + k) = x + k) (hw2 : wrap64 (l - x) = l - x) (hw3 : wrap64 (l - x - k) = l - x - k) : Calls Try.prog 23 #[.agg (r5C r), .int .i64 x, .int .i64 k, .int .i64 l] w fun e w' => e = .returned (.int .i64 (statusN r x k l)) ∧ w.grownBy w' none := by
  have d : decide (r.op < 0) = false := decide_eq_false h
  have hS : ∀ c : Int, statusN r x k l = c → statusN r x k l = c := fun _ h => h
  have z13 : (r.op == 13) = false := by rw [beq_eq_false_iff_ne]; exact h13
  have zxe : (x == r.ext) = false := by rw [beq_eq_false_iff_ne]; exact hx
  have zne : (x != r.ext) = true := by simpa using hx
  simp only [r5C]
  by_cases p1 : l < x + k
  · have dp1 : decide (l < x + k) = true := decide_eq_true p1
    rw [hS 4 (by unfold statusN; grind)]
    clear hS h h13 hx p1
    go_enter Try.func23, Try.ntmps23
    go_wp2
    go_ret
    exact ⟨rfl, World.grownBy_alloc _ _ none⟩
  · have dp1 : decide (l < x + k) = false := decide_eq_false p1
    rw [hS 4 (by unfold statusN; grind)]
    clear hS h h13 hx p1
    go_enter Try.func23, Try.ntmps23
    go_wp2
    go_ret
    exact ⟨rfl, World.grownBy_alloc _ _ none⟩
end
end Go.Proofs.Ytegaljpllcgaaaa
