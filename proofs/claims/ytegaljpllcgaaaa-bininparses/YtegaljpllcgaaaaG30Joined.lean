/- The document's own table of codes: its first codes. Conditions: codes of a byte. The document's own table of codes: its next codes. Conditions: codes of a byte. The document's own table of codes: its next codes. Conditions: codes of a byte. The document's own table of codes: its last codes. Conditions: codes of a byte. -/
import Derived.Test.YtegaljpllcgaaaaBinOf
namespace Go.Proofs.Ytegaljpllcgaaaa
set_option linter.unusedVariables false
open Go.RowKit

section
variable {w : World}
set_option maxRecDepth 100000 in
set_option maxHeartbeats 4000000 in
theorem of_0 {code : Int} {q : Bool} (hl : ∀ W, Calls Try.prog 28 #[.int .i64 code] W fun e w' => e = .returned (.tuple #[.int .i64 0, .bool q]) ∧ w' = W) : Calls Try.prog 16 #[.int .i64 code] w fun e w' => OfE (rowB 0 q) w e w' := by
  have HL := hide hl
  clear hl
  go_enter Try.func16, Try.ntmps16
  go_wp2_with (go_at_call 28; refine (HL.out _).mono ?_; rintro e w1 ⟨rfl, rfl⟩)
  refine bodyPost_ret (results_cell_row rfl _ _ w.heap.size 47 (r5C (rowB 0 q)) (0, 0) _ rfl ?_ Try.underlying47 rfl (r5_size _)) rfl ?_
  · exact two_new _ _ _ _
  · exact ⟨rfl, gr_trans (World.grownBy_alloc _ _ none) (gr_trans (World.grownBy_alloc _ _ none) (World.grownBy_alloc _ _ none))⟩
set_option maxRecDepth 100000 in
set_option maxHeartbeats 4000000 in
theorem of_1 {code : Int} {q : Bool} (hl : ∀ W, Calls Try.prog 28 #[.int .i64 code] W fun e w' => e = .returned (.tuple #[.int .i64 1, .bool q]) ∧ w' = W) : Calls Try.prog 16 #[.int .i64 code] w fun e w' => OfE (rowB 1 q) w e w' := by
  have HL := hide hl
  clear hl
  go_enter Try.func16, Try.ntmps16
  go_wp2_with (go_at_call 28; refine (HL.out _).mono ?_; rintro e w1 ⟨rfl, rfl⟩)
  refine bodyPost_ret (results_cell_row rfl _ _ w.heap.size 47 (r5C (rowB 1 q)) (0, 0) _ rfl ?_ Try.underlying47 rfl (r5_size _)) rfl ?_
  · exact two_new _ _ _ _
  · exact ⟨rfl, gr_trans (World.grownBy_alloc _ _ none) (gr_trans (World.grownBy_alloc _ _ none) (World.grownBy_alloc _ _ none))⟩
set_option maxRecDepth 100000 in
set_option maxHeartbeats 4000000 in
theorem of_2 {code : Int} {q : Bool} (hl : ∀ W, Calls Try.prog 28 #[.int .i64 code] W fun e w' => e = .returned (.tuple #[.int .i64 2, .bool q]) ∧ w' = W) : Calls Try.prog 16 #[.int .i64 code] w fun e w' => OfE (rowB 2 q) w e w' := by
  have HL := hide hl
  clear hl
  go_enter Try.func16, Try.ntmps16
  go_wp2_with (go_at_call 28; refine (HL.out _).mono ?_; rintro e w1 ⟨rfl, rfl⟩)
  refine bodyPost_ret (results_cell_row rfl _ _ w.heap.size 47 (r5C (rowB 2 q)) (0, 0) _ rfl ?_ Try.underlying47 rfl (r5_size _)) rfl ?_
  · exact two_new _ _ _ _
  · exact ⟨rfl, gr_trans (World.grownBy_alloc _ _ none) (gr_trans (World.grownBy_alloc _ _ none) (World.grownBy_alloc _ _ none))⟩
set_option maxRecDepth 100000 in
set_option maxHeartbeats 4000000 in
theorem of_3 {code : Int} {q : Bool} (hl : ∀ W, Calls Try.prog 28 #[.int .i64 code] W fun e w' => e = .returned (.tuple #[.int .i64 3, .bool q]) ∧ w' = W) : Calls Try.prog 16 #[.int .i64 code] w fun e w' => OfE (rowB 3 q) w e w' := by
  have HL := hide hl
  clear hl
  go_enter Try.func16, Try.ntmps16
  go_wp2_with (go_at_call 28; refine (HL.out _).mono ?_; rintro e w1 ⟨rfl, rfl⟩)
  refine bodyPost_ret (results_cell_row rfl _ _ w.heap.size 47 (r5C (rowB 3 q)) (0, 0) _ rfl ?_ Try.underlying47 rfl (r5_size _)) rfl ?_
  · exact two_new _ _ _ _
  · exact ⟨rfl, gr_trans (World.grownBy_alloc _ _ none) (gr_trans (World.grownBy_alloc _ _ none) (World.grownBy_alloc _ _ none))⟩
set_option maxRecDepth 100000 in
set_option maxHeartbeats 4000000 in
theorem of_4 {code : Int} {q : Bool} (hl : ∀ W, Calls Try.prog 28 #[.int .i64 code] W fun e w' => e = .returned (.tuple #[.int .i64 4, .bool q]) ∧ w' = W) : Calls Try.prog 16 #[.int .i64 code] w fun e w' => OfE (rowB 4 q) w e w' := by
  have HL := hide hl
  clear hl
  go_enter Try.func16, Try.ntmps16
  go_wp2_with (go_at_call 28; refine (HL.out _).mono ?_; rintro e w1 ⟨rfl, rfl⟩)
  refine bodyPost_ret (results_cell_row rfl _ _ w.heap.size 47 (r5C (rowB 4 q)) (0, 0) _ rfl ?_ Try.underlying47 rfl (r5_size _)) rfl ?_
  · exact two_new _ _ _ _
  · exact ⟨rfl, gr_trans (World.grownBy_alloc _ _ none) (gr_trans (World.grownBy_alloc _ _ none) (World.grownBy_alloc _ _ none))⟩
set_option maxRecDepth 100000 in
set_option maxHeartbeats 4000000 in
theorem of_5 {code : Int} {q : Bool} (hl : ∀ W, Calls Try.prog 28 #[.int .i64 code] W fun e w' => e = .returned (.tuple #[.int .i64 5, .bool q]) ∧ w' = W) : Calls Try.prog 16 #[.int .i64 code] w fun e w' => OfE (rowB 5 q) w e w' := by
  have HL := hide hl
  clear hl
  go_enter Try.func16, Try.ntmps16
  go_wp2_with (go_at_call 28; refine (HL.out _).mono ?_; rintro e w1 ⟨rfl, rfl⟩)
  refine bodyPost_ret (results_cell_row rfl _ _ w.heap.size 47 (r5C (rowB 5 q)) (0, 0) _ rfl ?_ Try.underlying47 rfl (r5_size _)) rfl ?_
  · exact two_new _ _ _ _
  · exact ⟨rfl, gr_trans (World.grownBy_alloc _ _ none) (gr_trans (World.grownBy_alloc _ _ none) (World.grownBy_alloc _ _ none))⟩
end
end Go.Proofs.Ytegaljpllcgaaaa

namespace Go.Proofs.Ytegaljpllcgaaaa
set_option linter.unusedVariables false
open Go.RowKit

section
variable {w : World}
set_option maxRecDepth 100000 in
set_option maxHeartbeats 4000000 in
theorem of_6 {code : Int} {q : Bool} (hl : ∀ W, Calls Try.prog 28 #[.int .i64 code] W fun e w' => e = .returned (.tuple #[.int .i64 6, .bool q]) ∧ w' = W) : Calls Try.prog 16 #[.int .i64 code] w fun e w' => OfE (rowB 6 q) w e w' := by
  have HL := hide hl
  clear hl
  go_enter Try.func16, Try.ntmps16
  go_wp2_with (go_at_call 28; refine (HL.out _).mono ?_; rintro e w1 ⟨rfl, rfl⟩)
  refine bodyPost_ret (results_cell_row rfl _ _ w.heap.size 47 (r5C (rowB 6 q)) (0, 0) _ rfl ?_ Try.underlying47 rfl (r5_size _)) rfl ?_
  · exact two_new _ _ _ _
  · exact ⟨rfl, gr_trans (World.grownBy_alloc _ _ none) (gr_trans (World.grownBy_alloc _ _ none) (World.grownBy_alloc _ _ none))⟩
set_option maxRecDepth 100000 in
set_option maxHeartbeats 4000000 in
theorem of_7 {code : Int} {q : Bool} (hl : ∀ W, Calls Try.prog 28 #[.int .i64 code] W fun e w' => e = .returned (.tuple #[.int .i64 7, .bool q]) ∧ w' = W) : Calls Try.prog 16 #[.int .i64 code] w fun e w' => OfE (rowB 7 q) w e w' := by
  have HL := hide hl
  clear hl
  go_enter Try.func16, Try.ntmps16
  go_wp2_with (go_at_call 28; refine (HL.out _).mono ?_; rintro e w1 ⟨rfl, rfl⟩)
  refine bodyPost_ret (results_cell_row rfl _ _ w.heap.size 47 (r5C (rowB 7 q)) (0, 0) _ rfl ?_ Try.underlying47 rfl (r5_size _)) rfl ?_
  · exact two_new _ _ _ _
  · exact ⟨rfl, gr_trans (World.grownBy_alloc _ _ none) (gr_trans (World.grownBy_alloc _ _ none) (World.grownBy_alloc _ _ none))⟩
set_option maxRecDepth 100000 in
set_option maxHeartbeats 4000000 in
theorem of_8 {code : Int} {q : Bool} (hl : ∀ W, Calls Try.prog 28 #[.int .i64 code] W fun e w' => e = .returned (.tuple #[.int .i64 8, .bool q]) ∧ w' = W) : Calls Try.prog 16 #[.int .i64 code] w fun e w' => OfE (rowB 8 q) w e w' := by
  have HL := hide hl
  clear hl
  go_enter Try.func16, Try.ntmps16
  go_wp2_with (go_at_call 28; refine (HL.out _).mono ?_; rintro e w1 ⟨rfl, rfl⟩)
  refine bodyPost_ret (results_cell_row rfl _ _ w.heap.size 47 (r5C (rowB 8 q)) (0, 0) _ rfl ?_ Try.underlying47 rfl (r5_size _)) rfl ?_
  · exact two_new _ _ _ _
  · exact ⟨rfl, gr_trans (World.grownBy_alloc _ _ none) (gr_trans (World.grownBy_alloc _ _ none) (World.grownBy_alloc _ _ none))⟩
set_option maxRecDepth 100000 in
set_option maxHeartbeats 4000000 in
theorem of_9 {code : Int} {q : Bool} (hl : ∀ W, Calls Try.prog 28 #[.int .i64 code] W fun e w' => e = .returned (.tuple #[.int .i64 9, .bool q]) ∧ w' = W) : Calls Try.prog 16 #[.int .i64 code] w fun e w' => OfE (rowB 9 q) w e w' := by
  have HL := hide hl
  clear hl
  go_enter Try.func16, Try.ntmps16
  go_wp2_with (go_at_call 28; refine (HL.out _).mono ?_; rintro e w1 ⟨rfl, rfl⟩)
  refine bodyPost_ret (results_cell_row rfl _ _ w.heap.size 47 (r5C (rowB 9 q)) (0, 0) _ rfl ?_ Try.underlying47 rfl (r5_size _)) rfl ?_
  · exact two_new _ _ _ _
  · exact ⟨rfl, gr_trans (World.grownBy_alloc _ _ none) (gr_trans (World.grownBy_alloc _ _ none) (World.grownBy_alloc _ _ none))⟩
set_option maxRecDepth 100000 in
set_option maxHeartbeats 4000000 in
theorem of_10 {code : Int} {q : Bool} (hl : ∀ W, Calls Try.prog 28 #[.int .i64 code] W fun e w' => e = .returned (.tuple #[.int .i64 10, .bool q]) ∧ w' = W) : Calls Try.prog 16 #[.int .i64 code] w fun e w' => OfE (rowB 10 q) w e w' := by
  have HL := hide hl
  clear hl
  go_enter Try.func16, Try.ntmps16
  go_wp2_with (go_at_call 28; refine (HL.out _).mono ?_; rintro e w1 ⟨rfl, rfl⟩)
  refine bodyPost_ret (results_cell_row rfl _ _ w.heap.size 47 (r5C (rowB 10 q)) (0, 0) _ rfl ?_ Try.underlying47 rfl (r5_size _)) rfl ?_
  · exact two_new _ _ _ _
  · exact ⟨rfl, gr_trans (World.grownBy_alloc _ _ none) (gr_trans (World.grownBy_alloc _ _ none) (World.grownBy_alloc _ _ none))⟩
end
end Go.Proofs.Ytegaljpllcgaaaa

namespace Go.Proofs.Ytegaljpllcgaaaa
set_option linter.unusedVariables false
open Go.RowKit

section
variable {w : World}
set_option maxRecDepth 100000 in
set_option maxHeartbeats 4000000 in
theorem of_11 {code : Int} {q : Bool} (hl : ∀ W, Calls Try.prog 28 #[.int .i64 code] W fun e w' => e = .returned (.tuple #[.int .i64 11, .bool q]) ∧ w' = W) : Calls Try.prog 16 #[.int .i64 code] w fun e w' => OfE (rowB 11 q) w e w' := by
  have HL := hide hl
  clear hl
  go_enter Try.func16, Try.ntmps16
  go_wp2_with (go_at_call 28; refine (HL.out _).mono ?_; rintro e w1 ⟨rfl, rfl⟩)
  refine bodyPost_ret (results_cell_row rfl _ _ w.heap.size 47 (r5C (rowB 11 q)) (0, 0) _ rfl ?_ Try.underlying47 rfl (r5_size _)) rfl ?_
  · exact two_new _ _ _ _
  · exact ⟨rfl, gr_trans (World.grownBy_alloc _ _ none) (gr_trans (World.grownBy_alloc _ _ none) (World.grownBy_alloc _ _ none))⟩
set_option maxRecDepth 100000 in
set_option maxHeartbeats 4000000 in
theorem of_12 {code : Int} {q : Bool} (hl : ∀ W, Calls Try.prog 28 #[.int .i64 code] W fun e w' => e = .returned (.tuple #[.int .i64 12, .bool q]) ∧ w' = W) : Calls Try.prog 16 #[.int .i64 code] w fun e w' => OfE (rowB 12 q) w e w' := by
  have HL := hide hl
  clear hl
  go_enter Try.func16, Try.ntmps16
  go_wp2_with (go_at_call 28; refine (HL.out _).mono ?_; rintro e w1 ⟨rfl, rfl⟩)
  refine bodyPost_ret (results_cell_row rfl _ _ w.heap.size 47 (r5C (rowB 12 q)) (0, 0) _ rfl ?_ Try.underlying47 rfl (r5_size _)) rfl ?_
  · exact two_new _ _ _ _
  · exact ⟨rfl, gr_trans (World.grownBy_alloc _ _ none) (gr_trans (World.grownBy_alloc _ _ none) (World.grownBy_alloc _ _ none))⟩
set_option maxRecDepth 100000 in
set_option maxHeartbeats 4000000 in
theorem of_13 {code : Int} {q : Bool} (hl : ∀ W, Calls Try.prog 28 #[.int .i64 code] W fun e w' => e = .returned (.tuple #[.int .i64 13, .bool q]) ∧ w' = W) : Calls Try.prog 16 #[.int .i64 code] w fun e w' => OfE (rowB 13 q) w e w' := by
  have HL := hide hl
  clear hl
  go_enter Try.func16, Try.ntmps16
  go_wp2_with (go_at_call 28; refine (HL.out _).mono ?_; rintro e w1 ⟨rfl, rfl⟩)
  refine bodyPost_ret (results_cell_row rfl _ _ w.heap.size 47 (r5C (rowB 13 q)) (0, 0) _ rfl ?_ Try.underlying47 rfl (r5_size _)) rfl ?_
  · exact two_new _ _ _ _
  · exact ⟨rfl, gr_trans (World.grownBy_alloc _ _ none) (gr_trans (World.grownBy_alloc _ _ none) (World.grownBy_alloc _ _ none))⟩
set_option maxRecDepth 100000 in
set_option maxHeartbeats 4000000 in
theorem of_14 {code : Int} {q : Bool} (hl : ∀ W, Calls Try.prog 28 #[.int .i64 code] W fun e w' => e = .returned (.tuple #[.int .i64 14, .bool q]) ∧ w' = W) : Calls Try.prog 16 #[.int .i64 code] w fun e w' => OfE (rowB 14 q) w e w' := by
  have HL := hide hl
  clear hl
  go_enter Try.func16, Try.ntmps16
  go_wp2_with (go_at_call 28; refine (HL.out _).mono ?_; rintro e w1 ⟨rfl, rfl⟩)
  refine bodyPost_ret (results_cell_row rfl _ _ w.heap.size 47 (r5C (rowB 14 q)) (0, 0) _ rfl ?_ Try.underlying47 rfl (r5_size _)) rfl ?_
  · exact two_new _ _ _ _
  · exact ⟨rfl, gr_trans (World.grownBy_alloc _ _ none) (gr_trans (World.grownBy_alloc _ _ none) (World.grownBy_alloc _ _ none))⟩
set_option maxRecDepth 100000 in
set_option maxHeartbeats 4000000 in
theorem of_15 {code : Int} {q : Bool} (hl : ∀ W, Calls Try.prog 28 #[.int .i64 code] W fun e w' => e = .returned (.tuple #[.int .i64 15, .bool q]) ∧ w' = W) : Calls Try.prog 16 #[.int .i64 code] w fun e w' => OfE (rowB 15 q) w e w' := by
  have HL := hide hl
  clear hl
  go_enter Try.func16, Try.ntmps16
  go_wp2_with (go_at_call 28; refine (HL.out _).mono ?_; rintro e w1 ⟨rfl, rfl⟩)
  refine bodyPost_ret (results_cell_row rfl _ _ w.heap.size 47 (r5C (rowB 15 q)) (0, 0) _ rfl ?_ Try.underlying47 rfl (r5_size _)) rfl ?_
  · exact two_new _ _ _ _
  · exact ⟨rfl, gr_trans (World.grownBy_alloc _ _ none) (gr_trans (World.grownBy_alloc _ _ none) (World.grownBy_alloc _ _ none))⟩
end
end Go.Proofs.Ytegaljpllcgaaaa

namespace Go.Proofs.Ytegaljpllcgaaaa
set_option linter.unusedVariables false
open Go.RowKit

section
variable {w : World}
set_option maxRecDepth 100000 in
set_option maxHeartbeats 4000000 in
theorem of_28 {code : Int} {q : Bool} (hl : ∀ W, Calls Try.prog 28 #[.int .i64 code] W fun e w' => e = .returned (.tuple #[.int .i64 28, .bool q]) ∧ w' = W) : Calls Try.prog 16 #[.int .i64 code] w fun e w' => OfE (rowB 28 q) w e w' := by
  have HL := hide hl
  clear hl
  go_enter Try.func16, Try.ntmps16
  go_wp2_with (go_at_call 28; refine (HL.out _).mono ?_; rintro e w1 ⟨rfl, rfl⟩)
  refine bodyPost_ret (results_cell_row rfl _ _ w.heap.size 47 (r5C (rowB 28 q)) (0, 0) _ rfl ?_ Try.underlying47 rfl (r5_size _)) rfl ?_
  · exact two_new _ _ _ _
  · exact ⟨rfl, gr_trans (World.grownBy_alloc _ _ none) (gr_trans (World.grownBy_alloc _ _ none) (World.grownBy_alloc _ _ none))⟩
set_option maxRecDepth 100000 in
set_option maxHeartbeats 4000000 in
theorem of_29 {code : Int} {q : Bool} (hl : ∀ W, Calls Try.prog 28 #[.int .i64 code] W fun e w' => e = .returned (.tuple #[.int .i64 29, .bool q]) ∧ w' = W) : Calls Try.prog 16 #[.int .i64 code] w fun e w' => OfE (rowB 29 q) w e w' := by
  have HL := hide hl
  clear hl
  go_enter Try.func16, Try.ntmps16
  go_wp2_with (go_at_call 28; refine (HL.out _).mono ?_; rintro e w1 ⟨rfl, rfl⟩)
  refine bodyPost_ret (results_cell_row rfl _ _ w.heap.size 47 (r5C (rowB 29 q)) (0, 0) _ rfl ?_ Try.underlying47 rfl (r5_size _)) rfl ?_
  · exact two_new _ _ _ _
  · exact ⟨rfl, gr_trans (World.grownBy_alloc _ _ none) (gr_trans (World.grownBy_alloc _ _ none) (World.grownBy_alloc _ _ none))⟩
set_option maxRecDepth 100000 in
set_option maxHeartbeats 4000000 in
theorem of_other {code : Int} {q : Bool} {c : Int} (h0 : 16 ≤ c) (h28 : c ≠ 28) (h29 : c ≠ 29) (hl : ∀ W, Calls Try.prog 28 #[.int .i64 code] W fun e w' => e = .returned (.tuple #[.int .i64 c, .bool q]) ∧ w' = W) : Calls Try.prog 16 #[.int .i64 code] w fun e w' => OfE (⟨-1, 0, true, false, q⟩) w e w' := by
  have d16 : decide (c < 16) = false := decide_eq_false (by omega)
  have d1 : decide (1 ≤ c) = true := decide_eq_true (by omega)
  have d3 : decide (c ≤ 3) = false := decide_eq_false (by omega)
  have z28 : (c == 28) = false := by rw [beq_eq_false_iff_ne]; omega
  have z29 : (c == 29) = false := by rw [beq_eq_false_iff_ne]; omega
  have z7 : (c == 7) = false := by rw [beq_eq_false_iff_ne]; omega
  have z8 : (c == 8) = false := by rw [beq_eq_false_iff_ne]; omega
  have z10 : (c == 10) = false := by rw [beq_eq_false_iff_ne]; omega
  have z11 : (c == 11) = false := by rw [beq_eq_false_iff_ne]; omega
  have z14 : (c == 14) = false := by rw [beq_eq_false_iff_ne]; omega
  have z15 : (c == 15) = false := by rw [beq_eq_false_iff_ne]; omega
  have z5 : (c == 5) = false := by rw [beq_eq_false_iff_ne]; omega
  have z6 : (c == 6) = false := by rw [beq_eq_false_iff_ne]; omega
  clear h0 h28 h29
  have HL := hide hl
  clear hl
  go_enter Try.func16, Try.ntmps16
  go_wp2_with (go_at_call 28; refine (HL.out _).mono ?_; rintro e w1 ⟨rfl, rfl⟩)
  refine bodyPost_ret (results_cell_row rfl _ _ w.heap.size 47 (r5C (⟨-1, 0, true, false, q⟩)) (0, 0) _ rfl ?_ Try.underlying47 rfl (r5_size _)) rfl ?_
  · exact two_new _ _ _ _
  · exact ⟨rfl, gr_trans (World.grownBy_alloc _ _ none) (gr_trans (World.grownBy_alloc _ _ none) (World.grownBy_alloc _ _ none))⟩
end
end Go.Proofs.Ytegaljpllcgaaaa
