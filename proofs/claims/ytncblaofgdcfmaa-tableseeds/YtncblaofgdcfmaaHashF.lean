/- What Mix, Of and Below of package hash answer. Conditions: numbers are of 64 bits, a text takes at most 140737488351232 bytes. -/
import Derived.Test.YtncblaofgdcfmaaKit0
import Derived.Test.YtncblaofgdcfmaaHashM
namespace Go.Proofs.Ytncblaofgdcfmaa
open Go.RowKit

theorem mix_walk (n : Nat) (h : n < 18446744073709551616) :
    bits .xor .u64 (IntKind.u64.wrap (bits .xor .u64 (IntKind.u64.wrap (bits .xor .u64 (n : Int) ((n : Int) / 1073741824) * 13787848793156543929)) (IntKind.u64.wrap (bits .xor .u64 (n : Int) ((n : Int) / 1073741824) * 13787848793156543929) / 134217728) * 10723151780598845931))
      (IntKind.u64.wrap (bits .xor .u64 (IntKind.u64.wrap (bits .xor .u64 (n : Int) ((n : Int) / 1073741824) * 13787848793156543929)) (IntKind.u64.wrap (bits .xor .u64 (n : Int) ((n : Int) / 1073741824) * 13787848793156543929) / 134217728) * 10723151780598845931) / 2147483648) = ((mixN n : Nat) : Int) := by
  have e1 : bits .xor .u64 (n : Int) ((n : Int) / 1073741824) = ((xsh 30 n : Nat) : Int) := walk_xsh 30 1073741824 n (by decide) h
  rw [e1]
  have e2 : IntKind.u64.wrap (((xsh 30 n : Nat) : Int) * 13787848793156543929) = ((mul 13787848793156543929 (xsh 30 n) : Nat) : Int) := walk_mul 13787848793156543929 _
  rw [e2]
  obtain ⟨m, hm⟩ : ∃ m, m = mul 13787848793156543929 (xsh 30 n) := ⟨_, rfl⟩
  have hm1 : m < 18446744073709551616 := by rw [hm]; exact mul_lt _ _
  unfold mixN
  rw [← hm]
  have e3 : bits .xor .u64 (m : Int) ((m : Int) / 134217728) = ((xsh 27 m : Nat) : Int) := walk_xsh 27 134217728 m (by decide) hm1
  rw [e3]
  have e4 : IntKind.u64.wrap (((xsh 27 m : Nat) : Int) * 10723151780598845931) = ((mul 10723151780598845931 (xsh 27 m) : Nat) : Int) := walk_mul 10723151780598845931 _
  rw [e4]
  exact walk_xsh 31 2147483648 _ (by decide) (mul_lt _ _)
theorem step_walk (h : Nat) (hh : h < 18446744073709551616) (c : UInt8) :
    IntKind.u64.wrap (bits .xor .u64 (h : Int) (IntKind.u64.wrap (c.toNat : Int)) * 1099511628211) = ((stepN h c : Nat) : Int) := by
  have e : IntKind.u64.wrap (c.toNat : Int) = (c.toNat : Int) := by
    rw [IntKind.wrap_u64]
    have := c.toNat_lt
    omega
  rw [e]
  rw [walk_xor h c.toNat hh (byte_lt c)]
  exact walk_mul 1099511628211 _
theorem run_drop (l : List UInt8) (k : Nat) (h : k < l.length) (x : Nat) : runN x (l.drop k) = runN (stepN x l[k]) (l.drop (k + 1)) := by
  rw [List.drop_eq_getElem_cons h]
  rfl
theorem run_end (l : List UInt8) (k : Nat) (h : l.length ≤ k) (x : Nat) : runN x (l.drop k) = x := by
  rw [List.drop_of_length_le h]
  rfl

set_option maxHeartbeats 1000000 in
theorem mix_any (n : Nat) (h : n < 18446744073709551616) (w : World) : Calls Try.prog 42 #[.int .u64 n] w fun e w' => e = .returned (.int .u64 (mixN n)) ∧ w = w' := by
  go_enter Try.func42, Try.ntmps42
  go_wp2
  go_ret
  rw [← mix_walk n h]
  exact ⟨rfl, rfl⟩
set_option maxHeartbeats 1000000 in
theorem of_any (seed : Nat) (h : seed < 18446744073709551616) (s : ByteArray) (hs : s.size ≤ 140737488351232) (w : World) : Calls Try.prog 33 #[.int .u64 seed, .string s] w fun e w' => e = .returned (.int .u64 (ofN seed s.data.toList)) ∧ w = w' := by
  have HL : Hid (s.data.toList.length = s.size) := rfl
  go_enter Try.func33, Try.ntmps33
  go_wp2_with (go_at_call 42; refine (mix_any _ (by assumption) _).mono ?_; rintro e w1 ⟨rfl, rfl⟩)
  go_loop [5, 11] (fun x i => ∃ (k m : Nat), k ≤ s.size ∧ m < 18446744073709551616 ∧ i = .int .i64 k ∧ x = .int .u64 m ∧ Hid (runN (mixN seed) s.data.toList = runN m (s.data.toList.drop k)))
    (fun _ i => s.size - (intOf i).toNat)
  case atStart => exact ⟨0, mixN seed, Nat.zero_le _, mix_lt _, rfl, rfl, rfl⟩
  case round =>
    obtain ⟨k, m, hk, hm, rfl, rfl, HR⟩ := hrel
    by_cases hlt : k < s.size
    · have HS : Hid (runN (mixN seed) s.data.toList = runN (stepN m (s[k]'hlt)) (s.data.toList.drop (k + 1))) := by
        show _ = _
        rw [HR.out]
        exact run_drop s.data.toList k hlt m
      have hw := hide (step_walk m hm (s[k]'hlt))
      go_wp2
      go_round
      case rel => exact ⟨k + 1, _, by omega, step_lt _ _, by go_num, by rw [← hw.out], HS⟩
      case measure => simp [intOf]; omega
    · have HE : Hid (runN (mixN seed) s.data.toList = m) := by
        show _ = _
        rw [HR.out]
        exact run_end s.data.toList k (by rw [HL.out]; omega) m
      go_wp2_with (go_at_call 42; refine (mix_any _ (by assumption) _).mono ?_; rintro e w1 ⟨rfl, rfl⟩)
      go_ret
      exact ⟨by unfold ofN; rw [HE.out]; rfl, rfl⟩
/-- A hash modulo a number; 0, if that is below 1. -/
def belowN (h : Nat) (n : Int) : Int := if n < 1 then 0 else (h : Int) % n
set_option maxHeartbeats 1000000 in
theorem below_any (h : Nat) (hh : h < 18446744073709551616) (n : Int) (h0 : -9223372036854775808 ≤ n) (h1 : n < 9223372036854775808) (w : World) : Calls Try.prog 34 #[.int .u64 h, .int .i64 n] w fun e w' => e = .returned (.int .i64 (belowN h n)) ∧ w = w' := by
  unfold belowN
  by_cases hn : n < 1
  · rw [if_pos hn]
    go_enter Try.func34, Try.ntmps34
    go_wp2
    go_ret
    exact ⟨rfl, rfl⟩
  · rw [if_neg hn]
    have r0 : 0 ≤ (h : Int) % n := Int.emod_nonneg _ (by omega)
    have r1 : (h : Int) % n < n := Int.emod_lt_of_pos _ (by omega)
    have r2 : (h : Int) % n < 9223372036854775808 := by omega
    go_enter Try.func34, Try.ntmps34
    go_wp2
    go_ret
    exact ⟨rfl, rfl⟩
end Go.Proofs.Ytncblaofgdcfmaa
