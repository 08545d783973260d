/- HashBelow returns true for every two numbers, and leaves the world as it is. Conditions: none. -/
import Derived.Test.YtemhndjdfkkkhaaHashAwake
namespace Go.Proofs.Ytemhndjdfkkkhaa
open Go.RowKit

set_option maxHeartbeats 1000000 in
theorem hashBelow_walk (a0 : Int) (w0 : (Lit.int .u64 a0).wf = true) (n : Int) (w1 : (Lit.int .i64 n).wf = true) (W : World) :
    Calls Try.prog 7 #[.int .u64 a0, .int .i64 n] W fun e W' => e = .returned (.bool true) ∧ Below W.heap.size W W' := by
  obtain ⟨p0, p1⟩ := u64_wf w0
  obtain ⟨q0, q1⟩ := i64_wf w1
  have HB := hide (fun w => below_i a0 p0 p1 n q0 q1 w)
  by_cases hn : n < 1
  · have hr0 : belowN a0.toNat n = 0 := if_pos hn
    go_enter Try.func7, Try.ntmps7
    go_wp2_with (first
      | (go_at_call 9; refine (awake_any _).mono ?_; rintro e w1 ⟨rfl, rfl⟩)
      | (go_at_call 14; refine (HB.out _).mono ?_; rintro e w1 ⟨r, rfl, hr, rfl⟩; obtain rfl : r = 0 := hr.trans hr0; clear hr))
    go_ret
    exact ⟨rfl, Below.refl _ _⟩
  · have hr0 : belowN a0.toNat n = (a0.toNat : Int) % n := if_neg hn
    have g0 : 0 ≤ (a0.toNat : Int) % n := Int.emod_nonneg _ (by omega)
    have g1 : (a0.toNat : Int) % n < n := Int.emod_lt_of_pos _ (by omega)
    rw [← hr0] at g0 g1
    have hn1 : 1 ≤ n := by omega
    go_enter Try.func7, Try.ntmps7
    go_wp2_with (first
      | (go_at_call 9; refine (awake_any _).mono ?_; rintro e w1 ⟨rfl, rfl⟩)
      | (go_at_call 14; refine (HB.out _).mono ?_; rintro e w1 ⟨r, rfl, hr, rfl⟩; rw [← hr] at g0 g1; clear hr))
    go_ret
    exact ⟨rfl, Below.refl _ _⟩
end Go.Proofs.Ytemhndjdfkkkhaa
