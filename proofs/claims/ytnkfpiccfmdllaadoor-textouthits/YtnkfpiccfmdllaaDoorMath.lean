/- Plain facts of numbers: a number comes back from its digits, and from its last bytes, the highest first. Conditions: none. -/
import Derived.Test.YtnkfpiccfmdllaaDoorG05Joined
namespace Go.Proofs.YtnkfpiccfmdllaaDoor

theorem parse_append (M : Nat) : ∀ (l r : List UInt8) (acc v : Nat), Lib.parseUintM M acc l = .ok v → Lib.parseUintM M acc (l ++ r) = Lib.parseUintM M v r
  | [], r, acc, v, h => by
    simp only [Lib.parseUintM] at h
    cases h
    rfl
  | c :: l, r, acc, v, h => by
    simp only [List.cons_append, Lib.parseUintM] at h ⊢
    split at h
    · rename_i h1
      rw [if_pos h1]
      split at h
      · cases h
      · rename_i h2
        rw [if_neg h2]
        split at h
        · cases h
        · rename_i h3
          rw [if_neg h3]
          exact parse_append M l r _ v h
    · cases h
theorem parse_digit (v d : Nat) (hd : d < 10) (hv : v * 10 + d < 18446744073709551616) : Lib.parseUintM 18446744073709551615 v [UInt8.ofNat (48 + d)] = .ok (v * 10 + d) := by
  have e : (UInt8.ofNat (48 + d)).toNat = 48 + d := by rw [UInt8.toNat_ofNat']; omega
  simp only [Lib.parseUintM, e]
  rw [if_pos (by omega), if_neg (by omega), if_neg (by omega)]
  congr 1
  omega
theorem parse_show (n : Nat) (hn : n < 18446744073709551616) : Lib.parseUintM 18446744073709551615 0 (Lib.decDigits n) = .ok n := by
  induction n using Nat.strongRecOn with
  | _ n ih =>
    by_cases h : n < 10
    · rw [Lib.decDigits_one h, parse_digit 0 n h (by omega)]
      congr 1
      omega
    · rw [Lib.decDigits, dif_neg h, parse_append _ _ _ _ _ (ih (n / 10) (by omega) (by omega)), parse_digit _ _ (by omega) (by omega)]
      congr 1
      omega
theorem digits_len (n : Nat) (hn : n < 18446744073709551616) : (Lib.decDigits n).length ≤ 20 := by
  rw [Lib.decDigits_length]
  by_cases h : n = 0
  · subst h; rw [Lib.nDigits_small (by decide)]; decide
  · have := Lib.numDigits_eq n (by omega) hn; split at this <;> omega
theorem digits_ne (n : Nat) : Lib.decDigits n ≠ [] := by
  intro h
  have := Lib.decDigits_length n
  rw [h] at this
  have := Lib.nDigits_pos n
  simp at *
  omega
theorem parseB_show (n : Nat) (hn : n < 18446744073709551616) : Lib.parseUintB 64 (Lib.decDigits n) = .ok n := by
  unfold Lib.parseUintB
  rw [if_neg (digits_ne n), show (2 : Nat) ^ 64 - 1 = 18446744073709551615 by decide, parse_show n hn]
theorem dec_show (n : Nat) (hn : n < 18446744073709551616) : dec (Lib.decDigits n) = some n := by
  have := digits_len n hn
  unfold dec
  rw [if_neg (by omega), parseB_show n hn]

end Go.Proofs.YtnkfpiccfmdllaaDoor
