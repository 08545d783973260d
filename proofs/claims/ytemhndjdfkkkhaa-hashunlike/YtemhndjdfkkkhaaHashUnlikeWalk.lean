/- HashUnlike returns true for every two numbers, and leaves the world as it is. Conditions: none. -/
import Derived.Test.YtemhndjdfkkkhaaHashAwake
namespace Go.Proofs.Ytemhndjdfkkkhaa
open Go.RowKit

theorem mix_beq (a b : Nat) (ha : a < 18446744073709551616) (hb : b < 18446744073709551616) : (((mixN a : Nat) : Int) == ((mixN b : Nat) : Int)) = ((a : Int) == (b : Int)) := by
  by_cases h : a = b
  · subst h
    simp
  · have h1 : ¬ mixN a = mixN b := fun e => h (mix_inj ha hb e)
    rw [beq_eq_false_iff_ne.2 (by omega), beq_eq_false_iff_ne.2 (by omega)]
set_option maxHeartbeats 1000000 in
theorem hashUnlike_walk (a0 : Int) (w0 : (Lit.int .u64 a0).wf = true) (a1 : Int) (w1 : (Lit.int .u64 a1).wf = true) (W : World) :
    Calls Try.prog 5 #[.int .u64 a0, .int .u64 a1] W fun e W' => e = .returned (.bool true) ∧ Below W.heap.size W W' := by
  obtain ⟨p0, p1⟩ := u64_wf w0
  obtain ⟨q0, q1⟩ := u64_wf w1
  obtain ⟨a, rfl⟩ := Int.eq_ofNat_of_zero_le p0
  obtain ⟨b, rfl⟩ := Int.eq_ofNat_of_zero_le q0
  have ha : a < 18446744073709551616 := by omega
  have hb : b < 18446744073709551616 := by omega
  have HB := hide (mix_beq a b ha hb)
  clear w0 w1
  go_enter Try.func5, Try.ntmps5
  go_wp2_with (first
    | (go_at_call 9; refine (awake_any _).mono ?_; rintro e w1 ⟨rfl, rfl⟩)
    | (go_at_call 10; refine (mix_any _ (by assumption) _).mono ?_; rintro e w1 ⟨rfl, rfl⟩))
  go_ret
  exact ⟨ret_bool (by rw [HB.out]; simp), Below.refl _ _⟩
end Go.Proofs.Ytemhndjdfkkkhaa
