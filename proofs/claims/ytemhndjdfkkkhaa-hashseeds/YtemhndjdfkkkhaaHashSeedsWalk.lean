/- HashSeeds returns true for every two seeds and every byte, and writes nothing that was there. Conditions: none. -/
import Derived.Test.YtemhndjdfkkkhaaHashAwake
import Derived.Test.YtemhndjdfkkkhaaBytes
namespace Go.Proofs.Ytemhndjdfkkkhaa
open Go.RowKit

theorem of_bne (a b : Nat) (ha : a < 18446744073709551616) (hb : b < 18446744073709551616) (hne : a ≠ b) (l : List UInt8) : (((ofN a l : Nat) : Int) != ((ofN b l : Nat) : Int)) = true := by
  have h := of_seeds a b ha hb l hne
  simp only [bne_iff_ne, ne_eq]
  omega
set_option maxHeartbeats 2000000 in
theorem hashSeeds_in (a b : Nat) (ha : a < 18446744073709551616) (hb : b < 18446744073709551616) (hne : a ≠ b) (c : Int) (c0 : 0 ≤ c) (c1 : c ≤ 255) (W : World) :
    Calls Try.prog 8 #[.int .u64 a, .int .u64 b, .int .u8 c] W fun e W' => e = .returned (.bool true) ∧ Below W.heap.size W W' := by
  have h1 := of_bne a b ha hb hne (⟨#[]⟩ : ByteArray).data.toList
  have h2 := of_bne a b ha hb hne (strOf [c]).data.toList
  have hz : (strOf [c]).size ≤ 140737488351232 := by show 1 ≤ 140737488351232; decide
  have hz0 : (⟨#[]⟩ : ByteArray).size ≤ 140737488351232 := by decide
  have hab : ((a : Int) == (b : Int)) = false := beq_eq_false_iff_ne.2 (by omega)
  have hcv := fun w => conv_bs (one_bs w c c0 c1)
  clear hne
  go_enter Try.func8, Try.ntmps8
  go_wp2_with (first
    | (go_at_call 9; refine (awake_any _).mono ?_; rintro e w1 ⟨rfl, rfl⟩)
    | (go_at_call 12; refine (of_any _ (by assumption) _ (by assumption) _).mono ?_; rintro e w1 ⟨rfl, rfl⟩))
  go_ret
  exact ⟨rfl, (Below.refl _ _).alloc (Nat.le_refl _) _⟩
set_option maxHeartbeats 1000000 in
theorem hashSeeds_same (a c : Int) (W : World) :
    Calls Try.prog 8 #[.int .u64 a, .int .u64 a, .int .u8 c] W fun e W' => e = .returned (.bool true) ∧ Below W.heap.size W W' := by
  go_enter Try.func8, Try.ntmps8
  go_wp2_with (go_at_call 9; refine (awake_any _).mono ?_; rintro e w1 ⟨rfl, rfl⟩)
  go_ret
  exact ⟨rfl, Below.refl _ _⟩
theorem hashSeeds_walk (a0 : Int) (w0 : (Lit.int .u64 a0).wf = true) (a1 : Int) (w1 : (Lit.int .u64 a1).wf = true) (c : Int) (w2 : (Lit.int .u8 c).wf = true) (W : World) :
    Calls Try.prog 8 #[.int .u64 a0, .int .u64 a1, .int .u8 c] W fun e W' => e = .returned (.bool true) ∧ Below W.heap.size W W' := by
  obtain ⟨p0, p1⟩ := u64_wf w0
  obtain ⟨q0, q1⟩ := u64_wf w1
  obtain ⟨r0, r1⟩ := u8_wf w2
  by_cases h : a0 = a1
  · subst h
    exact hashSeeds_same a0 c W
  · obtain ⟨a, rfl⟩ := Int.eq_ofNat_of_zero_le p0
    obtain ⟨b, rfl⟩ := Int.eq_ofNat_of_zero_le q0
    exact hashSeeds_in a b (by omega) (by omega) (by omega) c r0 r1 W
end Go.Proofs.Ytemhndjdfkkkhaa
