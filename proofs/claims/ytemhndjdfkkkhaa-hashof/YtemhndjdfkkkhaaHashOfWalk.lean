/- HashOf returns true for every seed, every text and every number, and leaves the world as it is. Conditions: none. -/
import Derived.Test.YtemhndjdfkkkhaaHashAwake
import Derived.Test.YtemhndjdfkkkhaaHashRef
namespace Go.Proofs.Ytemhndjdfkkkhaa
open Go.RowKit

set_option maxHeartbeats 2000000 in
theorem hashOf_in (a : Nat) (ha : a < 18446744073709551616) (s : ByteArray) (hs : s.size ≤ 5000) (n : Int) (q0 : -9223372036854775808 ≤ n) (q1 : n < 9223372036854775808) (W : World) :
    Calls Try.prog 3 #[.int .u64 a, .string s, .int .i64 n] W fun e W' => e = .returned (.bool true) ∧ Below W.heap.size W W' := by
  have hsi : (s.size : Int) ≤ 5000 := by omega
  have hs2 : s.size ≤ 140737488351232 := by omega
  go_enter Try.func3, Try.ntmps3
  go_wp2_with (first
    | (go_at_call 9; refine (awake_any _).mono ?_; rintro e w1 ⟨rfl, rfl⟩)
    | (go_at_call 10; refine (mix_any _ (by assumption) _).mono ?_; rintro e w1 ⟨rfl, rfl⟩)
    | (go_at_call 11; refine (rmix_any _ (by assumption) _).mono ?_; rintro e w1 ⟨rfl, rfl⟩)
    | (go_at_call 12; refine (of_any _ (by assumption) _ (by assumption) _).mono ?_; rintro e w1 ⟨rfl, rfl⟩)
    | (go_at_call 13; refine (rof_any _ (by assumption) _ (by assumption) _).mono ?_; rintro e w1 ⟨rfl, rfl⟩)
    | (go_at_call 14; refine (below_any _ (by assumption) _ (by assumption) (by assumption) _).mono ?_; rintro e w1 ⟨rfl, rfl⟩)
    | (go_at_call 15; refine (rbelow_any _ (by assumption) _ (by assumption) (by assumption) _).mono ?_; rintro e w1 ⟨rfl, rfl⟩))
  go_ret
  exact ⟨rfl, Below.refl _ _⟩
set_option maxHeartbeats 1000000 in
theorem hashOf_out (a : Int) (s : ByteArray) (hs : 5000 < s.size) (n : Int) (W : World) :
    Calls Try.prog 3 #[.int .u64 a, .string s, .int .i64 n] W fun e W' => e = .returned (.bool true) ∧ Below W.heap.size W W' := by
  have hsi : (5000 : Int) < (s.size : Int) := by omega
  go_enter Try.func3, Try.ntmps3
  go_wp2_with (go_at_call 9; refine (awake_any _).mono ?_; rintro e w1 ⟨rfl, rfl⟩)
  go_ret
  exact ⟨rfl, Below.refl _ _⟩
theorem hashOf_walk (a0 : Int) (w0 : (Lit.int .u64 a0).wf = true) (s1 : ByteArray) (_w1 : s1.size ≤ 140737488351232) (n : Int) (w2 : (Lit.int .i64 n).wf = true) (W : World) :
    Calls Try.prog 3 #[.int .u64 a0, .string s1, .int .i64 n] W fun e W' => e = .returned (.bool true) ∧ Below W.heap.size W W' := by
  obtain ⟨p0, p1⟩ := u64_wf w0
  obtain ⟨q0, q1⟩ := i64_wf w2
  by_cases h : s1.size ≤ 5000
  · obtain ⟨a, rfl⟩ := Int.eq_ofNat_of_zero_le p0
    exact hashOf_in a (by omega) s1 h n q0 q1 W
  · exact hashOf_out a0 s1 (by omega) n W
end Go.Proofs.Ytemhndjdfkkkhaa
