/- NumNoughts returns true for every number and every count of noughts, and writes nothing that was there. Conditions: the listed variables hold what the program's text lays. -/
import Derived.Test.YtpoidlmemoocmaaDoorOwn
import Derived.Test.YtpoidlmemoocmaaDoorSigned
namespace Go.Proofs.YtpoidlmemoocmaaDoor
open Go.RowKit

theorem digits_ge (n : Nat) : ∀ c ∈ Lib.decDigits n, 48 ≤ c.toNat := by
  induction n using Nat.strongRecOn with
  | _ n ih =>
    intro c hc
    by_cases h : n < 10
    · rw [Lib.decDigits_one h] at hc
      simp only [List.mem_singleton] at hc
      rw [hc, UInt8.toNat_ofNat']
      omega
    · rw [Lib.decDigits, dif_neg h, List.mem_append] at hc
      rcases hc with hc | hc
      · exact ih (n / 10) (by omega) c hc
      · simp only [List.mem_singleton] at hc
        rw [hc, UInt8.toNat_ofNat']
        omega
/-- n's digits with k noughts ahead. -/
def padded (n k : Nat) : List UInt8 := List.replicate k 48 ++ Lib.decDigits n
theorem parse_zeros (r : List UInt8) : ∀ k, Lib.parseUintM 18446744073709551615 0 (List.replicate k 48 ++ r) = Lib.parseUintM 18446744073709551615 0 r
  | 0 => rfl
  | k + 1 => by
    rw [List.replicate_succ, List.cons_append]
    have e : Lib.parseUintM 18446744073709551615 0 (48 :: (List.replicate k 48 ++ r)) = Lib.parseUintM 18446744073709551615 0 (List.replicate k 48 ++ r) := by simp [Lib.parseUintM]
    rw [e, parse_zeros r k]
theorem dec_padded (n k : Nat) (hn : n < 18446744073709551616) (hk : k ≤ 20) : dec (padded n k) = some n := by
  have h1 := digits_len n hn
  have hne : padded n k ≠ [] := by
    intro h
    exact digits_ne n (List.append_eq_nil_iff.1 h).2
  unfold dec
  rw [if_neg (by simp [padded]; omega)]
  unfold Lib.parseUintB
  rw [if_neg hne, show (2 : Nat) ^ 64 - 1 = 18446744073709551615 by decide]
  unfold padded
  rw [parse_zeros, parse_show n hn]
theorem padded_ge (n k : Nat) : ∀ c ∈ padded n k, 48 ≤ c.toNat := by
  intro c hc
  rcases List.mem_append.1 hc with h | h
  · rw [List.eq_of_mem_replicate h]; decide
  · exact digits_ge n c h
theorem sgn_padded (n k : Nat) (hn : n ≤ 1099511627776) (hk : k ≤ 20) : sgn (padded n k) = some (n : Int) := by
  have hh : ¬ (padded n k).head? = some 45 := by
    intro h
    have := padded_ge n k 45 (List.mem_of_head? h)
    exact absurd this (by decide)
  unfold sgn small40
  rw [if_neg hh, dec_padded n k (by omega) hk]
  simp [hn]
theorem sgn_minus (n k : Nat) (hn : n ≤ 1099511627776) (hk : k ≤ 20) : sgn (45 :: padded n k) = some (-(n : Int)) := by
  unfold sgn small40
  rw [if_pos (by rfl), List.drop_one, List.tail_cons, dec_padded n k (by omega) hk]
  simp [hn]

theorem cons_str (c : UInt8) (l : List UInt8) : (⟨#[c]⟩ : ByteArray) ++ ⟨l.toArray⟩ = ⟨(c :: l).toArray⟩ := by
  apply ByteArray.ext
  show _ = _
  rw [ByteArray.data_append]
  simp
theorem padded_succ (n k : Nat) : padded n (k + 1) = 48 :: padded n k := by simp [padded, List.replicate_succ]
theorem padded_len (n k : Nat) (hn : n < 18446744073709551616) (hk : k ≤ 20) : (padded n k).length ≤ 40 := by
  have h1 := digits_len n hn
  simp [padded]
  omega

set_option maxHeartbeats 2000000 in
theorem numNoughts_in (n k : Nat) (hn : n ≤ 1099511627776) (hk : k ≤ 20) (w : World) (hL : Laid w) :
    Calls Tryd.prog 8 #[.int .u64 n, .int .i64 k] w fun e w' => e = .returned (.bool true) ∧ Below w.heap.size w w' := by
  have hB : Below w.heap.size w w := Below.refl _ _
  go_enter Tryd.func8, Tryd.ntmps8
  go_wp2_with (first
    | (go_at_call 9; refine (awake_any _ (by assumption)).mono ?_; rintro e w' ⟨rfl, hb⟩; have hL' := Laid.on (by assumption) hb; have hB' := Bt (by assumption) hb)
    | (go_at_call 14; refine (show_nat n (by omega) _ (by assumption)).mono ?_; rintro e w' ⟨rfl, hb⟩; have hL' := Laid.on (by assumption) hb; have hB' := Bt (by assumption) hb))
  go_loop [6, 7] (fun s i => ∃ j : Nat, j ≤ k ∧ i = .int .i64 j ∧ s = .string ⟨(padded n j).toArray⟩) (fun _ i => k - (intOf i).toNat)
  case atStart => exact ⟨0, Nat.zero_le _, rfl, rfl⟩
  case round =>
    obtain ⟨j, hj, rfl, rfl⟩ := hrel
    have hpl := padded_len n j (by omega) (by omega)
    by_cases hlt : j < k
    · go_wp2
      go_round
      case rel => exact ⟨j + 1, by omega, by go_num, by rw [cons_str, padded_succ]⟩
      case measure => simp [intOf]; omega
    · have f1 : decV (padded n j) = n := by simp [decV, dec_padded n j (by omega) (by omega)]
      have f2 : decB (padded n j) = true := by simp [decB, dec_padded n j (by omega) (by omega)]
      have f3 : sgnV (padded n j) = n := by simp [sgnV, sgn_padded n j (by omega) (by omega)]
      have f4 : sgnB (padded n j) = true := by simp [sgnB, sgn_padded n j (by omega) (by omega)]
      have f5 : sgnV (45 :: padded n j) = -n := by simp [sgnV, sgn_minus n j (by omega) (by omega)]
      have f6 : sgnB (45 :: padded n j) = true := by simp [sgnB, sgn_minus n j (by omega) (by omega)]
      have f7 := cons_str 45 (padded n j)
      have z1 : (⟨(padded n j).toArray⟩ : ByteArray).size ≤ 140737488351232 := by rw [← size_list]; exact Nat.le_trans hpl (by decide)
      have z2 : (⟨(45 :: padded n j).toArray⟩ : ByteArray).size ≤ 140737488351232 := by rw [← size_list]; exact Nat.le_trans (Nat.succ_le_succ hpl) (by decide)
      have Z1 : Hid _ := z1
      have Z2 : Hid _ := z2
      clear z1 z2
      go_wp2_with (first
        | (go_at_call 10; refine (decimal_any _ Z1.out _ (by assumption)).mono ?_; rintro e w' ⟨rfl, hb⟩; have hL' := Laid.on (by assumption) hb; have hB' := Bt (by assumption) hb)
        | (go_at_call 12; refine (signed_any _ Z1.out _ (by assumption)).mono ?_; clear Z1; rintro e w' ⟨rfl, hb⟩; have hL' := Laid.on (by assumption) hb; have hB' := Bt (by assumption) hb)
        | (go_at_call 12; refine (signed_any _ Z2.out _ (by assumption)).mono ?_; rintro e w' ⟨rfl, hb⟩; have hL' := Laid.on (by assumption) hb; have hB' := Bt (by assumption) hb))
      go_ret
      exact ⟨rfl, by assumption⟩

set_option maxHeartbeats 2000000 in
theorem numNoughts_out (n : Nat) (k : Int) (h : 1099511627776 < n ∨ (n ≤ 1099511627776 ∧ k < 0) ∨ (n ≤ 1099511627776 ∧ 0 ≤ k ∧ 20 < k)) (w : World) (hL : Laid w) :
    Calls Tryd.prog 8 #[.int .u64 n, .int .i64 k] w fun e w' => e = .returned (.bool true) ∧ Below w.heap.size w w' := by
  have hB : Below w.heap.size w w := Below.refl _ _
  rcases h with h | ⟨h, h2⟩ | ⟨h, h2, h3⟩
  · have h' : (1099511627776 : Int) < (n : Int) := by omega
    go_enter Tryd.func8, Tryd.ntmps8
    go_wp2_with (go_at_call 9; refine (awake_any _ (by assumption)).mono ?_; rintro e w' ⟨rfl, hb⟩; have hB' := Bt (by assumption) hb)
    go_ret
    exact ⟨rfl, by assumption⟩
  · have h' : (n : Int) ≤ 1099511627776 := by omega
    go_enter Tryd.func8, Tryd.ntmps8
    go_wp2_with (go_at_call 9; refine (awake_any _ (by assumption)).mono ?_; rintro e w' ⟨rfl, hb⟩; have hB' := Bt (by assumption) hb)
    go_ret
    exact ⟨rfl, by assumption⟩
  · have h' : (n : Int) ≤ 1099511627776 := by omega
    go_enter Tryd.func8, Tryd.ntmps8
    go_wp2_with (go_at_call 9; refine (awake_any _ (by assumption)).mono ?_; rintro e w' ⟨rfl, hb⟩; have hB' := Bt (by assumption) hb)
    go_ret
    exact ⟨rfl, by assumption⟩

theorem numNoughts_walk (a0 : Int) (w0 : (Lit.int .u64 a0).wf = true) (a1 : Int) (w1 : (Lit.int .i64 a1).wf = true) (W : World) (hL : Laid W) :
    Calls Tryd.prog 8 #[.int .u64 a0, .int .i64 a1] W fun e W' => e = .returned (.bool true) ∧ Below W.heap.size W W' := by
  have e1 : IntKind.u64.min = 0 := rfl
  have e2 : IntKind.u64.max = 18446744073709551615 := rfl
  have e3 : IntKind.i64.min = -9223372036854775808 := rfl
  have e4 : IntKind.i64.max = 9223372036854775807 := rfl
  simp [Lit.wf, e1, e2, e3, e4] at w0 w1
  obtain ⟨n, rfl⟩ : ∃ n : Nat, a0 = n := ⟨a0.toNat, by omega⟩
  by_cases h : n ≤ 1099511627776 ∧ 0 ≤ a1 ∧ a1 ≤ 20
  · obtain ⟨k, rfl⟩ : ∃ k : Nat, a1 = k := ⟨a1.toNat, by omega⟩
    exact numNoughts_in n k h.1 (by omega) W hL
  · exact numNoughts_out n a1 (by omega) W hL
end Go.Proofs.YtpoidlmemoocmaaDoor
