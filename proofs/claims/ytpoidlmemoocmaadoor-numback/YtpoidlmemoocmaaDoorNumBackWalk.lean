/- NumBack returns true for every number, and writes nothing that was there. Conditions: the listed variables hold what the program's text lays. -/
import Derived.Test.YtpoidlmemoocmaaDoorOwn
import Derived.Test.YtpoidlmemoocmaaDoorPut32
namespace Go.Proofs.YtpoidlmemoocmaaDoor
open Go.RowKit

theorem put32_mod (n : Nat) (w : World) : Calls Tryd.prog 18 #[.int .u32 ((n : Int) % 4294967296)] w fun e w' => e = .returned (.slice (some ⟨w.heap.size, 0, none⟩) 4 4) ∧
      w'.ownsRow w.heap.size 5 1 (.slice (some ⟨w.heap.size, 0, none⟩) 4 4) 4 ((be (n % 4294967296) 4).map (Value.int .u8)) ∧ Below w.heap.size w w' := put32_any (n % 4294967296) (by omega) w
theorem put16_mod (n : Nat) (w : World) : Calls Tryd.prog 19 #[.int .u16 ((n : Int) % 65536)] w fun e w' => e = .returned (.slice (some ⟨w.heap.size, 0, none⟩) 2 2) ∧
      w'.ownsRow w.heap.size 5 1 (.slice (some ⟨w.heap.size, 0, none⟩) 2 2) 2 ((be (n % 65536) 2).map (Value.int .u8)) ∧ Below w.heap.size w w' := put16_any (n % 65536) (by omega) w

set_option maxHeartbeats 2000000 in
theorem numBack_nat (n : Nat) (hn : n < 18446744073709551616) (w : World) (hL : Laid w) :
    Calls Tryd.prog 6 #[.int .u64 n] w fun e w' => e = .returned (.bool true) ∧ Below w.heap.size w w' := by
  have v1 : decV (Lib.decDigits n) = n := by simp [decV, dec_show n hn]
  have b1 : decB (Lib.decDigits n) = true := by simp [decB, dec_show n hn]
  have n1 : num8 (be n 8) = n := by rw [num_be8]; omega
  have n2 : num8 (be (n % 4294967296) 4) = (n : Int) % 4294967296 := by rw [num_be4]; omega
  have n3 : num8 (be (n % 65536) 2) = (n : Int) % 65536 := by rw [num_be2]; omega
  have hlen : (⟨(Lib.decDigits n).toArray⟩ : ByteArray).size ≤ 140737488351232 := by
    have := digits_len n hn
    rw [← size_list]
    exact Nat.le_trans this (by decide)
  have hB : Below w.heap.size w w := Below.refl _ _
  go_enter Tryd.func6, Tryd.ntmps6
  go_wp2_with (first
    | (go_at_call 9; refine (awake_any _ (by assumption)).mono ?_; rintro e w' ⟨rfl, hb⟩; have hL' := Laid.on (by assumption) hb; have hB' := Bt (by assumption) hb)
    | (go_at_call 14; refine (show_nat n hn _ (by assumption)).mono ?_; rintro e w' ⟨rfl, hb⟩; have hL' := Laid.on (by assumption) hb; have hB' := Bt (by assumption) hb)
    | (go_at_call 10; refine (decimal_any _ hlen _ (by assumption)).mono ?_; rintro e w' ⟨rfl, hb⟩; have hB' := Bt (by assumption) hb)
    | (go_at_call 16; refine (put64_any n _).mono ?_; rintro e w' ⟨rfl, ho, hb⟩; have hB' := Bt (by assumption) hb)
    | (go_at_call 18; refine (put32_mod n _).mono ?_; rintro e w' ⟨rfl, ho, hb⟩; have hB' := Bt (by assumption) hb)
    | (go_at_call 19; refine (put16_mod n _).mono ?_; rintro e w' ⟨rfl, ho, hb⟩; have hB' := Bt (by assumption) hb)
    | (go_at_call 20; refine (get_own (by assumption) (be_bd _ _) (by decide) (by decide)).mono ?_; rintro e w' ⟨rfl, rfl⟩))
  go_ret
  exact ⟨rfl, by assumption⟩

theorem numBack_walk (a0 : Int) (w0 : (Lit.int .u64 a0).wf = true) (W : World) (hL : Laid W) :
    Calls Tryd.prog 6 #[.int .u64 a0] W fun e W' => e = .returned (.bool true) ∧ Below W.heap.size W W' := by
  have hb : 0 ≤ a0 ∧ a0 ≤ 18446744073709551615 := by
    have e1 : IntKind.u64.min = 0 := rfl
    have e2 : IntKind.u64.max = 18446744073709551615 := rfl
    simp [Lit.wf, e1, e2] at w0
    exact w0
  obtain ⟨n, rfl⟩ : ∃ n : Nat, a0 = n := ⟨a0.toNat, by omega⟩
  exact numBack_nat n (by omega) W hL
end Go.Proofs.YtpoidlmemoocmaaDoor
