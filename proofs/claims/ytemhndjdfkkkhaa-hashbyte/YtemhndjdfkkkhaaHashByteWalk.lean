/- HashByte returns true for every seed, every text, every place and every byte, and writes nothing that was there. Conditions: none. -/
import Derived.Test.YtemhndjdfkkkhaaHashAwake
import Derived.Test.YtemhndjdfkkkhaaBytes
import Derived.Deep.RegionWith
namespace Go.Proofs.Ytemhndjdfkkkhaa
open Go.RowKit

set_option maxHeartbeats 4000000 in
theorem hashByte_in (a : Nat) (ha : a < 18446744073709551616) (s : ByteArray) (hs : s.size ≤ 1000) (k : Nat) (hk : k < s.size) (t : Int) (ht : 0 ≤ t ∧ t ≤ 255) (hne : ((s[k]'hk).toNat : Int) ≠ t) (w : World) :
    Calls Try.prog 6 #[.int .u64 a, .string s, .int .i64 k, .int .u8 t] w fun e w' => e = .returned (.bool true) ∧ Below w.heap.size w w' := by
  have hsi : (s.size : Int) ≤ 1000 := by omega
  have hs2 : s.size ≤ 140737488351232 := by omega
  have hki : (k : Int) < (s.size : Int) := by omega
  obtain ⟨T, hT⟩ : ∃ T, T = strOf ((ints s.data.toList).set k t) := ⟨_, rfl⟩
  have hTl : T.data.toList = s.data.toList.set k (UInt8.ofNat t.toNat) := by rw [hT, strOf_set]
  have hT2 : T.size ≤ 140737488351232 := by
    have h1 : T.data.toList.length = T.size := rfl
    rw [← h1, hTl, List.length_set]
    exact hs2
  have hb : (((ofN a s.data.toList : Nat) : Int) != ((ofN a T.data.toList : Nat) : Int)) = true := by
    have h := of_set a s.data.toList k hk (UInt8.ofNat t.toNat) (by
      intro e
      apply hne
      have e2 : (s[k]'hk) = UInt8.ofNat t.toNat := e
      rw [e2, UInt8.toNat_ofNat']
      omega)
    rw [← hTl] at h
    simp only [bne_iff_ne, ne_eq]
    omega
  obtain ⟨C, W3, hr, hC, hcell, hfz, hb3, hlt⟩ := bytes_of s w
  have hset := set_bs hk ht hC hcell hlt
  have hcv := conv_bs (hset.on (Below.drew (Below.refl _ _)))
  rw [← hT] at hcv
  have hck := hcell k hk
  have hfk := hfz k hk
  obtain ⟨y, hy⟩ : ∃ y : Int, y = ((s[k]'hk).toNat : Int) := ⟨_, rfl⟩
  have hy' : ((s[k]'hk).toNat : Int) = y := hy.symm
  rw [← hy] at hne
  have hyt : (y == t) = false := by simpa using hne
  have HB3 := hide hb3
  clear hTl hT hset hcell hfz hne hy ht hb3
  go_enter Try.func6, Try.ntmps6
  go_wp2_with (first
    | (go_at_call 9; refine (awake_any _).mono ?_; rintro e w1 ⟨rfl, rfl⟩)
    | (go_at_call 12; refine (of_any _ (by assumption) _ (by assumption) _).mono ?_; rintro e w1 ⟨rfl, rfl⟩))
  go_region_with (go_at_call 12; refine (of_any _ (by assumption) _ (by assumption) _).mono ?_; rintro e w1 ⟨rfl, rfl⟩)
  all_goals go_wp2
  all_goals go_ret
  all_goals exact ⟨rfl, (HB3.out.setCell (p := ⟨w.heap.size, k, none⟩) (Nat.le_refl _) _).drew⟩
set_option maxHeartbeats 1000000 in
theorem hashByte_long (a : Int) (s : ByteArray) (hs : 1000 < s.size) (k t : Int) (w : World) :
    Calls Try.prog 6 #[.int .u64 a, .string s, .int .i64 k, .int .u8 t] w fun e w' => e = .returned (.bool true) ∧ Below w.heap.size w w' := by
  have hsi : (1000 : Int) < (s.size : Int) := by omega
  go_enter Try.func6, Try.ntmps6
  go_wp2_with (go_at_call 9; refine (awake_any _).mono ?_; rintro e w1 ⟨rfl, rfl⟩)
  go_ret
  exact ⟨rfl, Below.refl _ _⟩
set_option maxHeartbeats 1000000 in
theorem hashByte_low (a : Int) (s : ByteArray) (hs : s.size ≤ 1000) (k t : Int) (hk : k < 0) (w : World) :
    Calls Try.prog 6 #[.int .u64 a, .string s, .int .i64 k, .int .u8 t] w fun e w' => e = .returned (.bool true) ∧ Below w.heap.size w w' := by
  have hsi : (s.size : Int) ≤ 1000 := by omega
  go_enter Try.func6, Try.ntmps6
  go_wp2_with (go_at_call 9; refine (awake_any _).mono ?_; rintro e w1 ⟨rfl, rfl⟩)
  go_ret
  exact ⟨rfl, Below.refl _ _⟩
set_option maxHeartbeats 1000000 in
theorem hashByte_high (a : Int) (s : ByteArray) (hs : s.size ≤ 1000) (k t : Int) (h0 : 0 ≤ k) (hk : (s.size : Int) ≤ k) (w : World) :
    Calls Try.prog 6 #[.int .u64 a, .string s, .int .i64 k, .int .u8 t] w fun e w' => e = .returned (.bool true) ∧ Below w.heap.size w w' := by
  have hsi : (s.size : Int) ≤ 1000 := by omega
  go_enter Try.func6, Try.ntmps6
  go_wp2_with (go_at_call 9; refine (awake_any _).mono ?_; rintro e w1 ⟨rfl, rfl⟩)
  go_ret
  exact ⟨rfl, Below.refl _ _⟩
set_option maxHeartbeats 1000000 in
theorem hashByte_same (a : Int) (s : ByteArray) (hs : s.size ≤ 1000) (k : Nat) (hk : k < s.size) (t : Int) (he : ((s[k]'hk).toNat : Int) = t) (w : World) :
    Calls Try.prog 6 #[.int .u64 a, .string s, .int .i64 k, .int .u8 t] w fun e w' => e = .returned (.bool true) ∧ Below w.heap.size w w' := by
  have hsi : (s.size : Int) ≤ 1000 := by omega
  have hki : (k : Int) < (s.size : Int) := by omega
  go_enter Try.func6, Try.ntmps6
  go_wp2_with (go_at_call 9; refine (awake_any _).mono ?_; rintro e w1 ⟨rfl, rfl⟩)
  go_ret
  exact ⟨rfl, Below.refl _ _⟩
theorem hashByte_walk (a0 : Int) (w0 : (Lit.int .u64 a0).wf = true) (s : ByteArray) (_w1 : s.size ≤ 140737488351232) (k : Int) (_w2 : (Lit.int .i64 k).wf = true) (t : Int) (w3 : (Lit.int .u8 t).wf = true) (W : World) :
    Calls Try.prog 6 #[.int .u64 a0, .string s, .int .i64 k, .int .u8 t] W fun e W' => e = .returned (.bool true) ∧ Below W.heap.size W W' := by
  obtain ⟨p0, p1⟩ := u64_wf w0
  have ht := u8_wf w3
  by_cases hs : s.size ≤ 1000
  · by_cases h0 : k < 0
    · exact hashByte_low a0 s hs k t h0 W
    · by_cases h1 : (s.size : Int) ≤ k
      · exact hashByte_high a0 s hs k t (by omega) h1 W
      · obtain ⟨n, rfl⟩ := Int.eq_ofNat_of_zero_le (show 0 ≤ k by omega)
        have hn : n < s.size := by omega
        by_cases he : ((s[n]'hn).toNat : Int) = t
        · exact hashByte_same a0 s hs n hn t he W
        · obtain ⟨a, rfl⟩ := Int.eq_ofNat_of_zero_le p0
          exact hashByte_in a (by omega) s hs n hn t ht he W
  · exact hashByte_long a0 s (by omega) k t W
end Go.Proofs.Ytemhndjdfkkkhaa
