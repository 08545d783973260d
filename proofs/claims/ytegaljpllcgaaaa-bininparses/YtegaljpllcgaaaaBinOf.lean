/- The document's own table of codes. Conditions: codes of a byte. -/
import Derived.Test.YtegaljpllcgaaaaBinM
namespace Go.Proofs.Ytegaljpllcgaaaa
set_option linter.unusedVariables false
open Go.RowKit

section
variable {w : World} {c : Int}
set_option maxRecDepth 100000 in
set_option maxHeartbeats 2000000 in
theorem loud_any (c : Int) (h0 : 0 ≤ c) (h1 : c ≤ 255) (w : World) : Calls Try.prog 28 #[.int .i64 c] w fun e w' => e = .returned (.tuple #[.int .i64 (loudN c).1, .bool (loudN c).2]) ∧ w' = w := by
  by_cases a : c = 9
  · subst a
    go_enter Try.func28, Try.ntmps28
    go_wp2
    go_ret2
    exact ⟨rfl, rfl⟩
  by_cases b : c = 13
  · subst b
    go_enter Try.func28, Try.ntmps28
    go_wp2
    go_ret2
    exact ⟨rfl, rfl⟩
  have z9 : (c == 9) = false := by rw [beq_eq_false_iff_ne]; exact a
  have z13 : (c == 13) = false := by rw [beq_eq_false_iff_ne]; exact b
  by_cases d : 17 ≤ c ∧ c ≤ 24
  · obtain ⟨d1, d2⟩ := d
    have e : loudN c = (c - 16, true) := by unfold loudN; rw [if_neg a, if_neg b, if_pos ⟨d1, d2⟩]
    have e1 : wrap64 (c - 16) = c - 16 := by unfold wrap64; omega
    rw [e]
    clear e a b h0 h1
    go_enter Try.func28, Try.ntmps28
    go_wp2
    go_ret2
    exact ⟨by first | rfl | (simp only [e1]; done), rfl⟩
  have nd : (c < 17) ∨ (17 ≤ c ∧ 24 < c) := by omega
  by_cases f : c = 25
  · subst f
    go_enter Try.func28, Try.ntmps28
    go_wp2
    go_ret2
    exact ⟨rfl, rfl⟩
  by_cases g : c = 26
  · subst g
    go_enter Try.func28, Try.ntmps28
    go_wp2
    go_ret2
    exact ⟨rfl, rfl⟩
  by_cases h : c = 30
  · subst h
    go_enter Try.func28, Try.ntmps28
    go_wp2
    go_ret2
    exact ⟨rfl, rfl⟩
  have e : loudN c = (c, false) := by unfold loudN; rw [if_neg a, if_neg b, if_neg d, if_neg (by omega), if_neg h]
  have z25 : (c == 25) = false := by rw [beq_eq_false_iff_ne]; exact f
  have z26 : (c == 26) = false := by rw [beq_eq_false_iff_ne]; exact g
  have z30 : (c == 30) = false := by rw [beq_eq_false_iff_ne]; exact h
  rw [e]
  clear e a b d f g h h0 h1
  rcases nd with d1 | ⟨d1, d2⟩
  · have i1 : decide (17 ≤ c) = false := decide_eq_false (by omega)
    clear d1
    go_enter Try.func28, Try.ntmps28
    go_wp2
    go_ret2
    exact ⟨rfl, rfl⟩
  · have i1 : decide (17 ≤ c) = true := decide_eq_true (by omega)
    have i2 : decide (c ≤ 24) = false := decide_eq_false (by omega)
    clear d1 d2
    go_enter Try.func28, Try.ntmps28
    go_wp2
    go_ret2
    exact ⟨rfl, rfl⟩
theorem r5_size (r : R5) : (Try.prog.info? 47).map (·.size) = some (r5C r).size := by
  have h : (Try.prog.info? 47).map (·.size) = some 5 := by kernel_rfl
  exact h
theorem two_new (w : World) (o p r : Obj) : (((w.alloc o).alloc p).alloc r).heap[w.heap.size]? = some o := by
  have h1 := World.alloc_heap_new w o
  have g := gr_trans (World.grownBy_alloc (w.alloc o) p none) (World.grownBy_alloc ((w.alloc o).alloc p) r none)
  exact (g.block w.heap.size (by rw [World.size_alloc]; omega) (by simp)).trans h1
/-- What is answered of a code. -/
def OfE (r : R5) (w : World) (e : Ending) (w' : World) : Prop := e = .returned (.agg (r5C r)) ∧ w.grownBy w' none
end
end Go.Proofs.Ytegaljpllcgaaaa
