/- What the document's own Class and Bytes answer. Conditions: none. -/
import Derived.Test.YtdjagifmcimedaaSlabCon
namespace Go.Proofs.Ytdjagifmcimedaa
open Go.RowKit

theorem bytes_pow (j : Nat) (h : j < 6) : bytesC (j : Int) = ((64 * 2 ^ j : Nat) : Int) := by
  have : j = 0 ∨ j = 1 ∨ j = 2 ∨ j = 3 ∨ j = 4 ∨ j = 5 := by omega
  rcases this with rfl | rfl | rfl | rfl | rfl | rfl <;> rfl
theorem bytes_out (k : Int) (h : k < 0 ∨ 6 ≤ k) : bytesC k = 0 := by
  unfold bytesC
  repeat' split
  all_goals omega
theorem cls_found (size : Int) (j : Nat) (hj : j < 6) (h1 : size ≤ bytesC j) (h2 : ∀ i, i < j → bytesC (i : Nat) < size) : clsOf size = j ∧ clsErr size = 0 := by
  have b0 := h2 0
  have b1 := h2 1
  have b2 := h2 2
  have b3 := h2 3
  have b4 := h2 4
  have : j = 0 ∨ j = 1 ∨ j = 2 ∨ j = 3 ∨ j = 4 ∨ j = 5 := by omega
  unfold clsOf clsErr
  rcases this with rfl | rfl | rfl | rfl | rfl | rfl <;> simp [bytesC] at h1 b0 b1 b2 b3 b4 <;> (constructor <;> (repeat' split) <;> omega)
theorem cls_none (size : Int) (h2 : ∀ i, i < 6 → bytesC (i : Nat) < size) : clsOf size = 0 ∧ clsErr size = 4 := by
  have b5 := h2 5 (by decide)
  simp [bytesC] at b5
  unfold clsOf clsErr
  constructor <;> (repeat' split) <;> omega
theorem two_pow_le (j : Nat) (h : j < 6) : 64 * 2 ^ j ≤ 2048 := by
  have : j = 0 ∨ j = 1 ∨ j = 2 ∨ j = 3 ∨ j = 4 ∨ j = 5 := by omega
  rcases this with rfl | rfl | rfl | rfl | rfl | rfl <;> decide
set_option maxHeartbeats 1000000 in
theorem rbytes_any (k : Int) (w : World) : Calls Try.prog 12 #[.int .i64 k] w fun e w' => e = .returned (.int .i64 (bytesC k)) ∧ w = w' := by
  by_cases hk : 0 ≤ k ∧ k < 6
  · obtain ⟨hk0, hk6⟩ := hk
    obtain ⟨n, rfl⟩ := Int.eq_ofNat_of_zero_le hk0
    have hn : n < 6 := by omega
    have HP := hide (bytes_pow n hn)
    go_enter Try.func12, Try.ntmps12
    go_wp2
    go_loop [3, 4] (fun m i => ∃ j : Nat, j ≤ n ∧ i = .int .i64 j ∧ m = .int .i64 ((64 * 2 ^ j : Nat) : Int)) (fun _ i => n - (intOf i).toNat)
    case atStart => exact ⟨0, Nat.zero_le _, rfl, rfl⟩
    case round =>
      obtain ⟨j, hj, rfl, rfl⟩ := hrel
      by_cases hlt : j < n
      · have hle := two_pow_le j (by omega)
        have HS : Hid ((64 * 2 ^ (j + 1) : Nat) = 2 * (64 * 2 ^ j)) := by show _ = _; rw [Nat.pow_succ]; omega
        generalize 64 * 2 ^ j = m at *
        go_wp2
        go_round
        case rel => exact ⟨j + 1, by omega, by go_num, by rw [HS.out]; go_num⟩
        case measure => simp [intOf]; omega
      · obtain rfl : j = n := by omega
        go_wp2
        go_ret
        exact ⟨by rw [HP.out]; rfl, rfl⟩
  · have hout : k < 0 ∨ 6 ≤ k := by omega
    have HB := hide (bytes_out k hout)
    clear hk
    rcases hout with h | h
    · go_enter Try.func12, Try.ntmps12
      go_wp2
      go_ret
      exact ⟨by rw [HB.out]; rfl, rfl⟩
    · go_enter Try.func12, Try.ntmps12
      go_wp2
      go_ret
      exact ⟨by rw [HB.out]; rfl, rfl⟩
set_option maxHeartbeats 1000000 in
theorem rclass_any (size : Int) (w : World) : Calls Try.prog 10 #[.int .i64 size] w fun e w' => e = .returned (.tuple #[.int .i64 (clsOf size), .int .i64 (clsErr size)]) ∧ w = w' := by
  go_enter Try.func10, Try.ntmps10
  go_wp2
  go_loop [4] (fun i => ∃ j : Nat, j ≤ 6 ∧ i = .int .i64 j ∧ Hid (∀ i, i < j → bytesC (i : Nat) < size)) (fun i => 6 - (intOf i).toNat)
  case atStart => exact ⟨0, by omega, rfl, fun i hi => (Nat.not_lt_zero _ hi).elim⟩
  case round =>
    obtain ⟨j, hj, rfl, HJ⟩ := hrel
    by_cases hlt : j < 6
    · by_cases hs : size ≤ bytesC j
      · have HF := hide (cls_found size j hlt hs HJ.out)
        go_wp2_with (go_at_call 12; refine (rbytes_any _ _).mono ?_; rintro e w1 ⟨rfl, rfl⟩)
        go_ret2
        exact ⟨by rw [HF.out.1, HF.out.2]; rfl, rfl⟩
      · have hs2 : bytesC j < size := by omega
        clear hs
        have HS : Hid (∀ i, i < j + 1 → bytesC (i : Nat) < size) := fun i hi => by
          by_cases e : i = j
          · rw [e]; exact hs2
          · exact HJ.out i (by omega)
        go_wp2_with (go_at_call 12; refine (rbytes_any _ _).mono ?_; rintro e w1 ⟨rfl, rfl⟩)
        go_round
        case rel => exact ⟨j + 1, by omega, by go_num, HS⟩
        case measure => simp [intOf]; omega
    · obtain rfl : j = 6 := by omega
      have HN := hide (cls_none size HJ.out)
      go_wp2
      go_ret2
      exact ⟨by rw [HN.out.1, HN.out.2]; rfl, rfl⟩
end Go.Proofs.Ytdjagifmcimedaa
