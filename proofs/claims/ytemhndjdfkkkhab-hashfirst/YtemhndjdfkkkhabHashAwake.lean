/- The chapter's examples, as every statement of the layer asks them first: the call returns true and leaves the world as it is. Conditions: none. -/
import Derived.Test.YtemhndjdfkkkhabHashF
namespace Go.Proofs.Ytemhndjdfkkkhab
open Go.RowKit

theorem mix_i (a : Int) (h0 : 0 ≤ a) (h1 : a < 18446744073709551616) (w : World) : Calls Try.prog 7 #[.int .u64 a] w fun e w' => ∃ r : Int, e = .returned (.int .u64 r) ∧ r = ((mixN a.toNat : Nat) : Int) ∧ w = w' := by
  obtain ⟨n, rfl⟩ := Int.eq_ofNat_of_zero_le h0
  exact (mix_any n (by omega) w).mono fun e w' ⟨he, hw⟩ => ⟨_, he, rfl, hw⟩
theorem of_i (a : Int) (h0 : 0 ≤ a) (h1 : a < 18446744073709551616) (s : ByteArray) (hs : s.size ≤ 140737488351232) (w : World) : Calls Try.prog 6 #[.int .u64 a, .string s] w fun e w' => ∃ r : Int, e = .returned (.int .u64 r) ∧ r = ((ofN a.toNat s.data.toList : Nat) : Int) ∧ w = w' := by
  obtain ⟨n, rfl⟩ := Int.eq_ofNat_of_zero_le h0
  exact (of_any n (by omega) s hs w).mono fun e w' ⟨he, hw⟩ => ⟨_, he, rfl, hw⟩
theorem below_i (a : Int) (h0 : 0 ≤ a) (h1 : a < 18446744073709551616) (n : Int) (h2 : -9223372036854775808 ≤ n) (h3 : n < 9223372036854775808) (w : World) : Calls Try.prog 8 #[.int .u64 a, .int .i64 n] w fun e w' => ∃ r : Int, e = .returned (.int .i64 r) ∧ r = belowN a.toNat n ∧ w = w' := by
  obtain ⟨m, rfl⟩ := Int.eq_ofNat_of_zero_le h0
  exact (below_any m (by omega) n h2 h3 w).mono fun e w' ⟨he, hw⟩ => ⟨_, he, rfl, hw⟩

theorem mix0c : ((mixN (Int.toNat 0) : Nat) : Int) = 0 := by decide +kernel
theorem mix1c : ((mixN (Int.toNat 1) : Nat) : Int) = 6238072747940578789 := by decide +kernel
set_option maxHeartbeats 1000000 in
theorem awake_any (w : World) : Calls Try.prog 4 #[] w fun e w' => e = .returned (.bool true) ∧ w = w' := by
  go_enter Try.func4, Try.ntmps4
  go_wp2_with (first
    | (go_at_call 7; refine (mix_i _ (by decide) (by decide) _).mono ?_; rintro e w1 ⟨r, rfl, hr, rfl⟩; first | (rw [mix0c] at hr; subst hr) | (rw [mix1c] at hr; subst hr))
    | (go_at_call 6; refine (of_i _ (by decide) (by decide) _ (by decide) _).mono ?_; rintro e w1 ⟨r, rfl, hr, rfl⟩; obtain rfl : r = 0 := hr.trans (by decide +kernel); clear hr)
    | (go_at_call 8; refine (below_i _ (by decide) (by decide) _ (by decide) (by decide) _).mono ?_; rintro e w1 ⟨r, rfl, hr, rfl⟩; obtain rfl : r = 3 := hr.trans (by decide +kernel); clear hr))
  go_ret
  exact ⟨rfl, rfl⟩
end Go.Proofs.Ytemhndjdfkkkhab
