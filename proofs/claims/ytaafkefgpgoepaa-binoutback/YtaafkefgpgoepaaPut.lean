/- What put, Put16, Put32 and Put64 of package num answer: a new slice that holds the number's last bytes, the highest first. Conditions: none. -/
import Derived.Test.YtaafkefgpgoepaaG00Joined
import Derived.BigCall
namespace Go.Proofs.Ytaafkefgpgoepaa
open Go.RowKit

/-- The last 'size' bytes of n, the highest first, as numbers. -/
def be (n size : Nat) : List Int := (List.range size).map fun i => (n : Int) / 2 ^ (8 * (size - 1 - i)) % 256
/-- The row behind k rounds: k bytes laid, noughts behind. -/
def beTo (n size k : Nat) : List Value := (List.range size).map fun i => .int .u8 (if i < k then (n : Int) / 2 ^ (8 * (size - 1 - i)) % 256 else 0)

theorem info_u8 : (Try.prog.info? 5).map (fun i => (i.zero, i.size, i.bytes)) = some (some (.int .u8 0), 1, 1) := by kernel_rfl
theorem beTo_zero (n size : Nat) : beTo n size 0 = (madeCells (Value.int .u8 0).cells (size * 1)).toList := by
  have e : (Value.int .u8 0).cells = #[Value.int .u8 0] := rfl
  rw [e, toList_madeCells_one]
  simp [beTo, List.map_const']
theorem beTo_at (n size k : Nat) (h : k < size) : (beTo n size k)[k]? = some (.int .u8 0) := by simp [beTo, h]
theorem beTo_set (n size k : Nat) : (beTo n size k).set k (.int .u8 ((n : Int) / 2 ^ (8 * (size - 1 - k)) % 256)) = beTo n size (k + 1) := by
  apply List.ext_getElem
  · simp [beTo]
  · intro i h1 h2
    simp only [beTo, List.getElem_set, List.getElem_map, List.getElem_range]
    by_cases hik : k = i
    · subst hik; simp
    · rw [if_neg hik]
      by_cases h3 : i < k
      · rw [if_pos h3, if_pos (by omega)]
      · rw [if_neg h3, if_neg (by omega)]
theorem beTo_all (n size k : Nat) (h : size ≤ k) : beTo n size k = (be n size).map (Value.int .u8) := by
  simp only [beTo, be, List.map_map]
  apply List.map_congr_left
  intro i hi
  rw [List.mem_range] at hi
  simp [show i < k by omega]

set_option maxHeartbeats 1000000 in
theorem put_any (n : Nat) (size : Nat) (hsz : size ≤ 8) (w : World) :
    Calls Try.prog 32 #[.int .u64 n, .int .i64 size] w fun e w' => e = .returned (.slice (some ⟨w.heap.size, 0, none⟩) size size) ∧
      w'.ownsRow w.heap.size 5 1 (.slice (some ⟨w.heap.size, 0, none⟩) size size) size ((be n size).map (Value.int .u8)) ∧ Below w.heap.size w w' := by
  obtain ⟨i0, hi, hz0, hz1, hz2⟩ := info_parts info_u8
  go_enter Try.func32, Try.ntmps32
  go_wp2_with (at_make; refine wpList_make_full _ rfl _ _ 32 rfl w.heap.size 5 i0 (.int .u8 0) 1 Try.underlying32 hi hz0 hz1 _ _ _ _ size rfl rfl rfl rfl (by rw [hz2]; omega) (by unfold maxLen; omega) (Nat.le_refl _) ?_; intro w1 hown hgrow)
  go_loopw [10] (fun i wr => ∃ k : Nat, k ≤ size ∧ i = .int .i64 k ∧ wr.ownsRow w.heap.size 5 1 (.slice (some ⟨w.heap.size, 0, none⟩) size size) size (beTo n size k) ∧ Below w.heap.size w wr)
    (fun i _ => size - (intOf i).toNat)
  case atStart =>
    refine ⟨0, Nat.zero_le _, rfl, ?_, ?_⟩
    · rw [beTo_zero]; exact hown
    · exact (Below.refl _ _).grown hgrow (Nat.le_refl _) (fun k h => by cases h)
  case round =>
    obtain ⟨k, hk, rfl, hown', hnx⟩ := hrel
    clear hown hgrow
    by_cases hlt : k < size
    · have hcell := hown'.cellAt k (by omega)
      rw [beTo_at n size k hlt] at hcell
      have hfz := hown'.frozenAt k
      have hst := hown'.stored k (.int .u8 ((n : Int) / 2 ^ (8 * (size - 1 - k)) % 256))
      rw [beTo_set n size k] at hst
      have HS : Hid ((wr.setCell ⟨w.heap.size, k, none⟩ (.int .u8 ((n : Int) / 2 ^ (8 * (size - 1 - k)) % 256))).ownsRow w.heap.size 5 1 (.slice (some ⟨w.heap.size, 0, none⟩) size size) size (beTo n size (k + 1))) := hst.1
      clear hst
      go_wp2
      go_roundw
      case rel => exact ⟨k + 1, by omega, by go_num, HS.out, hnx.setCell (p := ⟨w.heap.size, k, none⟩) (Nat.le_refl _) _⟩
      case measure => simp [intOf]; omega
    · have hkn : k = size := by omega
      have HO : Hid (wr.ownsRow w.heap.size 5 1 (.slice (some ⟨w.heap.size, 0, none⟩) size size) size ((be n size).map (Value.int .u8))) := by
        have h := hown'
        rw [beTo_all n size k (by omega)] at h
        exact h
      go_wp2
      go_ret
      exact ⟨rfl, HO.out, hnx⟩
theorem put64_any (n : Nat) (w : World) :
    Calls Try.prog 27 #[.int .u64 n] w fun e w' => e = .returned (.slice (some ⟨w.heap.size, 0, none⟩) 8 8) ∧
      w'.ownsRow w.heap.size 5 1 (.slice (some ⟨w.heap.size, 0, none⟩) 8 8) 8 ((be n 8).map (Value.int .u8)) ∧ Below w.heap.size w w' := by
  go_enter Try.func27, Try.ntmps27
  go_wp2_with (go_at_call 32; refine (put_any n 8 (by omega) _).mono ?_; rintro e w' ⟨rfl, ho, hb⟩)
  go_ret
  exact ⟨rfl, ho, hb⟩
theorem put16_any (n : Nat) (hn : n < 65536) (w : World) :
    Calls Try.prog 29 #[.int .u16 n] w fun e w' => e = .returned (.slice (some ⟨w.heap.size, 0, none⟩) 2 2) ∧
      w'.ownsRow w.heap.size 5 1 (.slice (some ⟨w.heap.size, 0, none⟩) 2 2) 2 ((be n 2).map (Value.int .u8)) ∧ Below w.heap.size w w' := by
  have h1 : (n : Int) < 65536 := by omega
  go_enter Try.func29, Try.ntmps29
  go_wp2_with (go_at_call 32; refine (put_any n 2 (by omega) _).mono ?_; rintro e w' ⟨rfl, ho, hb⟩)
  go_ret
  exact ⟨rfl, ho, hb⟩
end Go.Proofs.Ytaafkefgpgoepaa
