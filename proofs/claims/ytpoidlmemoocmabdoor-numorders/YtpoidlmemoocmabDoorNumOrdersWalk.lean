/- NumOrders returns true for every two numbers, and writes nothing that was there. Conditions: the listed variables hold what the program's text lays. -/
import Derived.Test.YtpoidlmemoocmabDoorOwn
namespace Go.Proofs.YtpoidlmemoocmabDoor
open Go.RowKit

theorem nDigits_mono (b : Nat) : ∀ a, a ≤ b → Lib.nDigits a ≤ Lib.nDigits b := by
  induction b using Nat.strongRecOn with
  | _ b ih =>
    intro a h
    by_cases h1 : a < 10
    · rw [Lib.nDigits_small h1]; exact Lib.nDigits_pos b
    · rw [Lib.nDigits_big h1, Lib.nDigits_big (u := b) (by omega)]
      have := ih (b / 10) (by omega) (a / 10) (by omega)
      omega
theorem digits_mono {a b : Nat} (h : a ≤ b) : (Lib.decDigits a).length ≤ (Lib.decDigits b).length := by
  rw [Lib.decDigits_length, Lib.decDigits_length]
  exact nDigits_mono b a h

/-- A number's last bytes as bytes. -/
def lb (n s : Nat) : List UInt8 := (be n s).map fun z => UInt8.ofNat z.toNat
theorem toB_be (n s : Nat) : (strOf (be n s)).toList = lb n s := by rw [ByteArray.toList_eq]; rfl
theorem be_cons (n s : Nat) : be n (s + 1) = ((n / 2 ^ (8 * s) % 256 : Nat) : Int) :: be n s := by
  simp only [be, List.range_succ_eq_map, List.map_cons, List.map_map]
  congr 1
  apply List.map_congr_left
  intro i _
  simp only [Function.comp]
  rw [show s + 1 - 1 - (i + 1) = s - 1 - i by omega]
theorem lb_cons (n s : Nat) : lb n (s + 1) = UInt8.ofNat (n / 2 ^ (8 * s) % 256) :: lb n s := by
  unfold lb
  rw [be_cons, List.map_cons]
  rfl
theorem less_head (x y : Nat) (l r : List UInt8) : Op.bytesLess (UInt8.ofNat (x % 256) :: l) (UInt8.ofNat (y % 256) :: r) = (decide (x % 256 < y % 256) || (decide (x % 256 = y % 256) && Op.bytesLess l r)) := by
  have e1 : (UInt8.ofNat (x % 256)).toNat = x % 256 := by rw [UInt8.toNat_ofNat']; omega
  have e2 : (UInt8.ofNat (y % 256)).toNat = y % 256 := by rw [UInt8.toNat_ofNat']; omega
  simp only [Op.bytesLess]
  congr 1
  · simp only [UInt8.lt_iff_toNat_lt, e1, e2]
  · congr 1
    rw [Bool.eq_iff_iff]
    simp only [beq_iff_eq, decide_eq_true_eq, ← UInt8.toNat_inj, e1, e2]
theorem pick_less {p q r s : Prop} [Decidable p] [Decidable q] [Decidable r] [Decidable s] (h : s ↔ (p ∨ (q ∧ r))) : (decide p || (decide q && decide r)) = decide s := by
  rw [Bool.eq_iff_iff]
  simp [h]
theorem less1 (a b : Nat) : Op.bytesLess (lb a 1) (lb b 1) = decide (a % 256 < b % 256) := by
  rw [lb_cons a 0, lb_cons b 0, less_head]
  simp only [lb, be, List.range_zero, List.map_nil, Op.bytesLess, Nat.mul_zero, Nat.pow_zero, Nat.div_one, Bool.and_false, Bool.or_false]
theorem less2 (a b : Nat) : Op.bytesLess (lb a 2) (lb b 2) = decide (a % 65536 < b % 65536) := by
  rw [lb_cons a 1, lb_cons b 1, less_head, less1, show 2 ^ (8 * 1) = 256 by decide]
  exact pick_less (by omega)
theorem less3 (a b : Nat) : Op.bytesLess (lb a 3) (lb b 3) = decide (a % 16777216 < b % 16777216) := by
  rw [lb_cons a 2, lb_cons b 2, less_head, less2, show 2 ^ (8 * 2) = 65536 by decide]
  exact pick_less (by omega)
theorem less4 (a b : Nat) : Op.bytesLess (lb a 4) (lb b 4) = decide (a % 4294967296 < b % 4294967296) := by
  rw [lb_cons a 3, lb_cons b 3, less_head, less3, show 2 ^ (8 * 3) = 16777216 by decide]
  exact pick_less (by omega)
theorem less5 (a b : Nat) : Op.bytesLess (lb a 5) (lb b 5) = decide (a % 1099511627776 < b % 1099511627776) := by
  rw [lb_cons a 4, lb_cons b 4, less_head, less4, show 2 ^ (8 * 4) = 4294967296 by decide]
  exact pick_less (by omega)
theorem less6 (a b : Nat) : Op.bytesLess (lb a 6) (lb b 6) = decide (a % 281474976710656 < b % 281474976710656) := by
  rw [lb_cons a 5, lb_cons b 5, less_head, less5, show 2 ^ (8 * 5) = 1099511627776 by decide]
  exact pick_less (by omega)
theorem less7 (a b : Nat) : Op.bytesLess (lb a 7) (lb b 7) = decide (a % 72057594037927936 < b % 72057594037927936) := by
  rw [lb_cons a 6, lb_cons b 6, less_head, less6, show 2 ^ (8 * 6) = 281474976710656 by decide]
  exact pick_less (by omega)
theorem less8 (a b : Nat) : Op.bytesLess (lb a 8) (lb b 8) = decide (a % 18446744073709551616 < b % 18446744073709551616) := by
  rw [lb_cons a 7, lb_cons b 7, less_head, less7, show 2 ^ (8 * 7) = 72057594037927936 by decide]
  exact pick_less (by omega)

theorem less_be (a b : Nat) (hx : a < 18446744073709551616) (hy : b < 18446744073709551616) : Op.bytesLess (strOf (be a 8)).toList (strOf (be b 8)).toList = decide (a < b) := by
  rw [toB_be, toB_be, less8, Nat.mod_eq_of_lt hx, Nat.mod_eq_of_lt hy]

set_option maxHeartbeats 2000000 in
theorem numOrders_nat (a b : Nat) (hx : a < 18446744073709551616) (hy : b < 18446744073709551616) (w : World) (hL : Laid w) :
    Calls Tryd.prog 3 #[.int .u64 a, .int .u64 b] w fun e w' => e = .returned (.bool true) ∧ Below w.heap.size w w' := by
  have hB : Below w.heap.size w w := Below.refl _ _
  have hls := less_be a b hx hy
  have hdm : a ≤ b → (Lib.decDigits a).length ≤ (Lib.decDigits b).length := digits_mono
  by_cases hlt : a < b
  · have hls1 : Op.bytesLess (strOf (be a 8)).toList (strOf (be b 8)).toList = true := by rw [hls]; simpa using hlt
    have hd := hdm (by omega)
    have hab : ¬ b < a := by omega
    clear hls hdm
    go_enter Tryd.func3, Tryd.ntmps3
    go_wp2_with (first
      | (go_at_call 5; refine (awake_any _ (by assumption)).mono ?_; rintro e w' ⟨rfl, hb⟩; have hL' := Laid.on (by assumption) hb; have hB' := Bt (by assumption) hb)
      | (go_at_call 6; refine (put64_any a _).mono ?_; rintro e w' ⟨rfl, ho, hb⟩; have hL' := Laid.on (by assumption) hb; have hB' := Bt (by assumption) hb; have hcv := conv_own ho (be_bd a 8))
      | (go_at_call 6; refine (put64_any b _).mono ?_; rintro e w' ⟨rfl, ho, hb⟩; have hL' := Laid.on (by assumption) hb; have hB' := Bt (by assumption) hb; have hcv := conv_own ho (be_bd b 8))
      | (go_at_call 7; refine (show_nat a hx _ (by assumption)).mono ?_; rintro e w' ⟨rfl, hb⟩; have hL' := Laid.on (by assumption) hb; have hB' := Bt (by assumption) hb)
      | (go_at_call 7; refine (show_nat b hy _ (by assumption)).mono ?_; rintro e w' ⟨rfl, hb⟩; have hL' := Laid.on (by assumption) hb; have hB' := Bt (by assumption) hb))
    all_goals go_ret
    all_goals exact ⟨rfl, by assumption⟩
  · by_cases heq : a ≤ b
    · have hls1 : Op.bytesLess (strOf (be a 8)).toList (strOf (be b 8)).toList = false := by rw [hls]; simpa using hlt
      have hd := hdm heq
      have hab : ¬ b < a := by omega
      clear hls hdm
      go_enter Tryd.func3, Tryd.ntmps3
      go_wp2_with (first
        | (go_at_call 5; refine (awake_any _ (by assumption)).mono ?_; rintro e w' ⟨rfl, hb⟩; have hL' := Laid.on (by assumption) hb; have hB' := Bt (by assumption) hb)
        | (go_at_call 6; refine (put64_any a _).mono ?_; rintro e w' ⟨rfl, ho, hb⟩; have hL' := Laid.on (by assumption) hb; have hB' := Bt (by assumption) hb; have hcv := conv_own ho (be_bd a 8))
        | (go_at_call 6; refine (put64_any b _).mono ?_; rintro e w' ⟨rfl, ho, hb⟩; have hL' := Laid.on (by assumption) hb; have hB' := Bt (by assumption) hb; have hcv := conv_own ho (be_bd b 8))
        | (go_at_call 7; refine (show_nat a hx _ (by assumption)).mono ?_; rintro e w' ⟨rfl, hb⟩; have hL' := Laid.on (by assumption) hb; have hB' := Bt (by assumption) hb)
        | (go_at_call 7; refine (show_nat b hy _ (by assumption)).mono ?_; rintro e w' ⟨rfl, hb⟩; have hL' := Laid.on (by assumption) hb; have hB' := Bt (by assumption) hb))
      all_goals go_ret
      all_goals exact ⟨rfl, by assumption⟩
    · have hls1 : Op.bytesLess (strOf (be a 8)).toList (strOf (be b 8)).toList = false := by rw [hls]; simpa using hlt
      have hab : b < a := by omega
      clear hls hdm
      go_enter Tryd.func3, Tryd.ntmps3
      go_wp2_with (first
        | (go_at_call 5; refine (awake_any _ (by assumption)).mono ?_; rintro e w' ⟨rfl, hb⟩; have hL' := Laid.on (by assumption) hb; have hB' := Bt (by assumption) hb)
        | (go_at_call 6; refine (put64_any a _).mono ?_; rintro e w' ⟨rfl, ho, hb⟩; have hL' := Laid.on (by assumption) hb; have hB' := Bt (by assumption) hb; have hcv := conv_own ho (be_bd a 8))
        | (go_at_call 6; refine (put64_any b _).mono ?_; rintro e w' ⟨rfl, ho, hb⟩; have hL' := Laid.on (by assumption) hb; have hB' := Bt (by assumption) hb; have hcv := conv_own ho (be_bd b 8))
        | (go_at_call 7; refine (show_nat a hx _ (by assumption)).mono ?_; rintro e w' ⟨rfl, hb⟩; have hL' := Laid.on (by assumption) hb; have hB' := Bt (by assumption) hb)
        | (go_at_call 7; refine (show_nat b hy _ (by assumption)).mono ?_; rintro e w' ⟨rfl, hb⟩; have hL' := Laid.on (by assumption) hb; have hB' := Bt (by assumption) hb))
      all_goals go_ret
      all_goals exact ⟨rfl, by assumption⟩

theorem numOrders_walk (a0 : Int) (w0 : (Lit.int .u64 a0).wf = true) (a1 : Int) (w1 : (Lit.int .u64 a1).wf = true) (W : World) (hL : Laid W) :
    Calls Tryd.prog 3 #[.int .u64 a0, .int .u64 a1] W fun e W' => e = .returned (.bool true) ∧ Below W.heap.size W W' := by
  have e1 : IntKind.u64.min = 0 := rfl
  have e2 : IntKind.u64.max = 18446744073709551615 := rfl
  simp [Lit.wf, e1, e2] at w0 w1
  obtain ⟨n, rfl⟩ : ∃ n : Nat, a0 = n := ⟨a0.toNat, by omega⟩
  obtain ⟨m, rfl⟩ : ∃ m : Nat, a1 = m := ⟨a1.toNat, by omega⟩
  exact numOrders_nat n m (by omega) (by omega) W hL
end Go.Proofs.YtpoidlmemoocmabDoor
