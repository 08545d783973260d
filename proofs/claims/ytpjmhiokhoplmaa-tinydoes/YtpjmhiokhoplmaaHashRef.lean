/- The document's own Mix, Of and Below: the same answers. Conditions: numbers are of 64 bits, a text takes at most 140737488351232 bytes. -/
import Derived.Test.YtpjmhiokhoplmaaHashF
namespace Go.Proofs.Ytpjmhiokhoplmaa
open Go.RowKit

set_option maxHeartbeats 1000000 in
theorem rmix_any (n : Nat) (h : n < 18446744073709551616) (w : World) : Calls Try.prog 50 #[.int .u64 n] w fun e w' => e = .returned (.int .u64 (mixN n)) ∧ w = w' := by
  go_enter Try.func50, Try.ntmps50
  go_wp2
  go_ret
  rw [← mix_walk n h]
  exact ⟨rfl, rfl⟩
set_option maxHeartbeats 1000000 in
theorem rof_any (seed : Nat) (h : seed < 18446744073709551616) (s : ByteArray) (hs : s.size ≤ 140737488351232) (w : World) : Calls Try.prog 47 #[.int .u64 seed, .string s] w fun e w' => e = .returned (.int .u64 (ofN seed s.data.toList)) ∧ w = w' := by
  have HL : Hid (s.data.toList.length = s.size) := rfl
  go_enter Try.func47, Try.ntmps47
  go_wp2_with (go_at_call 50; refine (rmix_any _ (by assumption) _).mono ?_; rintro e w1 ⟨rfl, rfl⟩)
  go_loop [5, 6] (fun x i => ∃ (k m : Nat), k ≤ s.size ∧ m < 18446744073709551616 ∧ i = .int .i64 k ∧ x = .int .u64 m ∧ Hid (runN (mixN seed) s.data.toList = runN m (s.data.toList.drop k)))
    (fun _ i => s.size - (intOf i).toNat)
  case atStart => exact ⟨0, mixN seed, Nat.zero_le _, mix_lt _, rfl, rfl, rfl⟩
  case round =>
    obtain ⟨k, m, hk, hm, rfl, rfl, HR⟩ := hrel
    by_cases hlt : k < s.size
    · have HS : Hid (runN (mixN seed) s.data.toList = runN (stepN m (s[k]'hlt)) (s.data.toList.drop (k + 1))) := by
        show _ = _
        rw [HR.out]
        exact run_drop s.data.toList k hlt m
      have hw := hide (step_walk m hm (s[k]'hlt))
      go_wp2
      go_round
      case rel => exact ⟨k + 1, _, by omega, step_lt _ _, by go_num, by rw [← hw.out], HS⟩
      case measure => simp [intOf]; omega
    · have HE : Hid (runN (mixN seed) s.data.toList = m) := by
        show _ = _
        rw [HR.out]
        exact run_end s.data.toList k (by rw [HL.out]; omega) m
      go_wp2_with (go_at_call 50; refine (rmix_any _ (by assumption) _).mono ?_; rintro e w1 ⟨rfl, rfl⟩)
      go_ret
      exact ⟨by unfold ofN; rw [HE.out]; rfl, rfl⟩
set_option maxHeartbeats 1000000 in
theorem rbelow_any (h : Nat) (hh : h < 18446744073709551616) (n : Int) (h0 : -9223372036854775808 ≤ n) (h1 : n < 9223372036854775808) (w : World) : Calls Try.prog 46 #[.int .u64 h, .int .i64 n] w fun e w' => e = .returned (.int .i64 (belowN h n)) ∧ w = w' := by
  unfold belowN
  by_cases hn : n < 1
  · rw [if_pos hn]
    go_enter Try.func46, Try.ntmps46
    go_wp2
    go_ret
    exact ⟨rfl, rfl⟩
  · rw [if_neg hn]
    have r0 : 0 ≤ (h : Int) % n := Int.emod_nonneg _ (by omega)
    have r1 : (h : Int) % n < n := Int.emod_lt_of_pos _ (by omega)
    have r2 : (h : Int) % n < 9223372036854775808 := by omega
    go_enter Try.func46, Try.ntmps46
    go_wp2
    go_ret
    exact ⟨rfl, rfl⟩
end Go.Proofs.Ytpjmhiokhoplmaa
