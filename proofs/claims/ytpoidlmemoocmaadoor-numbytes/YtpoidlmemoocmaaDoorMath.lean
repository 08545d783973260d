/- Plain facts of numbers: a number comes back from its digits, and from its last bytes, the highest first. Conditions: none. -/
import Derived.Test.YtpoidlmemoocmaaDoorDec
import Derived.Test.YtpoidlmemoocmaaDoorPut
import Derived.Test.YtpoidlmemoocmaaDoorGet
namespace Go.Proofs.YtpoidlmemoocmaaDoor

theorem parse_append (M : Nat) : ∀ (l r : List UInt8) (acc v : Nat), Lib.parseUintM M acc l = .ok v → Lib.parseUintM M acc (l ++ r) = Lib.parseUintM M v r
  | [], r, acc, v, h => by
    simp only [Lib.parseUintM] at h
    cases h
    rfl
  | c :: l, r, acc, v, h => by
    simp only [List.cons_append, Lib.parseUintM] at h ⊢
    split at h
    · rename_i h1
      rw [if_pos h1]
      split at h
      · cases h
      · rename_i h2
        rw [if_neg h2]
        split at h
        · cases h
        · rename_i h3
          rw [if_neg h3]
          exact parse_append M l r _ v h
    · cases h
theorem parse_digit (v d : Nat) (hd : d < 10) (hv : v * 10 + d < 18446744073709551616) : Lib.parseUintM 18446744073709551615 v [UInt8.ofNat (48 + d)] = .ok (v * 10 + d) := by
  have e : (UInt8.ofNat (48 + d)).toNat = 48 + d := by rw [UInt8.toNat_ofNat']; omega
  simp only [Lib.parseUintM, e]
  rw [if_pos (by omega), if_neg (by omega), if_neg (by omega)]
  congr 1
  omega
theorem parse_show (n : Nat) (hn : n < 18446744073709551616) : Lib.parseUintM 18446744073709551615 0 (Lib.decDigits n) = .ok n := by
  induction n using Nat.strongRecOn with
  | _ n ih =>
    by_cases h : n < 10
    · rw [Lib.decDigits_one h, parse_digit 0 n h (by omega)]
      congr 1
      omega
    · rw [Lib.decDigits, dif_neg h, parse_append _ _ _ _ _ (ih (n / 10) (by omega) (by omega)), parse_digit _ _ (by omega) (by omega)]
      congr 1
      omega
theorem digits_len (n : Nat) (hn : n < 18446744073709551616) : (Lib.decDigits n).length ≤ 20 := by
  rw [Lib.decDigits_length]
  by_cases h : n = 0
  · subst h; rw [Lib.nDigits_small (by decide)]; decide
  · have := Lib.numDigits_eq n (by omega) hn; split at this <;> omega
theorem digits_ne (n : Nat) : Lib.decDigits n ≠ [] := by
  intro h
  have := Lib.decDigits_length n
  rw [h] at this
  have := Lib.nDigits_pos n
  simp at *
  omega
theorem parseB_show (n : Nat) (hn : n < 18446744073709551616) : Lib.parseUintB 64 (Lib.decDigits n) = .ok n := by
  unfold Lib.parseUintB
  rw [if_neg (digits_ne n), show (2 : Nat) ^ 64 - 1 = 18446744073709551615 by decide, parse_show n hn]
theorem dec_show (n : Nat) (hn : n < 18446744073709551616) : dec (Lib.decDigits n) = some n := by
  have := digits_len n hn
  unfold dec
  rw [if_neg (by omega), parseB_show n hn]

theorem be_succ (n s : Nat) : be n (s + 1) = be (n / 256) s ++ [(n : Int) % 256] := by
  simp only [be, List.range_succ, List.map_append, List.map_cons, List.map_nil]
  congr 1
  · apply List.map_congr_left
    intro i hi
    rw [List.mem_range] at hi
    have e : 8 * (s + 1 - 1 - i) = 8 + 8 * (s - 1 - i) := by omega
    have e2 : (2 : Int) ^ (8 : Nat) = 256 := by decide
    rw [e, Int.pow_add, e2, ← Int.ediv_ediv_of_nonneg (by decide)]
    rfl
  · have e : 8 * (s + 1 - 1 - s) = 0 := by omega
    rw [e]
    simp
theorem num_be1 (n : Nat) : num8 (be n 1) = (n : Int) % 256 := by rw [be_succ, num8_snoc]; simp only [be, num8]; simp; omega
theorem num_be2 (n : Nat) : num8 (be n 2) = (n : Int) % 65536 := by rw [be_succ, num8_snoc, num_be1]; omega
theorem num_be3 (n : Nat) : num8 (be n 3) = (n : Int) % 16777216 := by rw [be_succ, num8_snoc, num_be2]; omega
theorem num_be4 (n : Nat) : num8 (be n 4) = (n : Int) % 4294967296 := by rw [be_succ, num8_snoc, num_be3]; omega
theorem num_be5 (n : Nat) : num8 (be n 5) = (n : Int) % 1099511627776 := by rw [be_succ, num8_snoc, num_be4]; omega
theorem num_be6 (n : Nat) : num8 (be n 6) = (n : Int) % 281474976710656 := by rw [be_succ, num8_snoc, num_be5]; omega
theorem num_be7 (n : Nat) : num8 (be n 7) = (n : Int) % 72057594037927936 := by rw [be_succ, num8_snoc, num_be6]; omega
theorem num_be8 (n : Nat) : num8 (be n 8) = (n : Int) % 18446744073709551616 := by rw [be_succ, num8_snoc, num_be7]; omega
theorem be_length (n s : Nat) : (be n s).length = s := by simp [be]
end Go.Proofs.YtpoidlmemoocmaaDoor
