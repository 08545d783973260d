/- What the document's own Put answers: a new slice that holds the number's last bytes, the highest first. Conditions: at most eight of them. -/
import Derived.Test.YtaafkefgpgoepaaPut
namespace Go.Proofs.Ytaafkefgpgoepaa
open Go.RowKit

/-- The row when the places from k on are laid. -/
def beFrom (n size k : Nat) : List Value := (List.range size).map fun i => .int .u8 (if k ≤ i then (n : Int) / 2 ^ (8 * (size - 1 - i)) % 256 else 0)
theorem beFrom_none (n size : Nat) : beFrom n size size = (madeCells (Value.int .u8 0).cells (size * 1)).toList := by
  have e : (Value.int .u8 0).cells = #[Value.int .u8 0] := rfl
  rw [e, toList_madeCells_one]
  apply List.ext_getElem
  · simp [beFrom]
  · intro i h1 h2
    have : i < size := by simpa [beFrom] using h1
    simp [beFrom, show ¬ size ≤ i by omega]
theorem beFrom_at (n size k : Nat) (h : k < size) : (beFrom n size (k + 1))[k]? = some (.int .u8 0) := by simp [beFrom, h, show ¬ k + 1 ≤ k by omega]
theorem beFrom_set (n size k : Nat) : (beFrom n size (k + 1)).set k (.int .u8 ((n : Int) / 2 ^ (8 * (size - 1 - k)) % 256)) = beFrom n size k := by
  apply List.ext_getElem
  · simp [beFrom]
  · intro i h1 h2
    simp only [beFrom, List.getElem_set, List.getElem_map, List.getElem_range]
    by_cases hik : k = i
    · subst hik; simp
    · rw [if_neg hik]
      by_cases h3 : k ≤ i
      · rw [if_pos h3, if_pos (by omega)]
      · rw [if_neg h3, if_neg (by omega)]
theorem beFrom_all (n size : Nat) : beFrom n size 0 = (be n size).map (Value.int .u8) := by simp [beFrom, be, List.map_map, Function.comp_def]
theorem div_step (n size k : Nat) (h : k < size) : n / 2 ^ (8 * (size - 1 - k)) / 256 = n / 2 ^ (8 * (size - k)) := by
  rw [Nat.div_div_eq_div_mul, show 256 = 2 ^ 8 by decide, ← Nat.pow_add]
  congr 2
  omega

set_option maxHeartbeats 1000000 in
theorem refPut_any (n : Nat) (hn : n < 18446744073709551616) (size : Nat) (hsz : size ≤ 8) (w : World) :
    Calls Try.prog 21 #[.int .u64 n, .int .i64 size] w fun e w' => e = .returned (.slice (some ⟨w.heap.size, 0, none⟩) size size) ∧
      w'.ownsRow w.heap.size 5 1 (.slice (some ⟨w.heap.size, 0, none⟩) size size) size ((be n size).map (Value.int .u8)) ∧ Below w.heap.size w w' := by
  obtain ⟨i0, hi, hz0, hz1, hz2⟩ := info_parts info_u8
  go_enter Try.func21, Try.ntmps21
  go_wp2_with (at_make; refine wpList_make_full _ rfl _ _ 32 rfl w.heap.size 5 i0 (.int .u8 0) 1 Try.underlying32 hi hz0 hz1 _ _ _ _ size rfl rfl rfl rfl (by rw [hz2]; omega) (by unfold maxLen; omega) (Nat.le_refl _) ?_; intro w1 hown hgrow)
  go_loopw [0, 6] (fun x i wr => ∃ (k m : Nat), k ≤ size ∧ i = .int .i64 ((k : Int) - 1) ∧ x = .int .u64 m ∧ m < 18446744073709551616 ∧ Hid (m = n / 2 ^ (8 * (size - k))) ∧ wr.ownsRow w.heap.size 5 1 (.slice (some ⟨w.heap.size, 0, none⟩) size size) size (beFrom n size k) ∧ Below w.heap.size w wr)
    (fun _ i _ => (intOf i + 1).toNat)
  case atStart =>
    refine ⟨size, n, Nat.le_refl _, rfl, rfl, hn, ?_, ?_, ?_⟩
    · show _ = _; simp
    · rw [beFrom_none]; exact hown
    · exact (Below.refl _ _).grown hgrow (Nat.le_refl _) (fun k h => by cases h)
  case round =>
    obtain ⟨k, m, hk, rfl, rfl, hm64, HM, hown', hnx⟩ := hrel
    clear hown hgrow
    by_cases hlt : 0 < k
    · obtain ⟨j, rfl⟩ : ∃ j, k = j + 1 := ⟨k - 1, by omega⟩
      have hcell := hown'.cellAt j (by omega)
      rw [beFrom_at n size j (by omega)] at hcell
      have hfz := hown'.frozenAt j
      have hst := hown'.stored j (.int .u8 ((n : Int) / 2 ^ (8 * (size - 1 - j)) % 256))
      rw [beFrom_set n size j] at hst
      have hm : (m : Int) % 256 = (n : Int) / 2 ^ (8 * (size - 1 - j)) % 256 := by
        have := HM.out
        rw [this, show size - (j + 1) = size - 1 - j by omega]
        simp
      rw [← hm] at hst
      have HS := Lib.hid hst.1
      have HM2 : Hid (m / 256 = n / 2 ^ (8 * (size - j))) := by
        have := HM.out
        show _ = _
        rw [this, show size - (j + 1) = size - 1 - j by omega, div_step n size j (by omega)]
      have hji : ((j + 1 : Nat) : Int) - 1 = (j : Int) := by omega
      rw [hji]
      clear hst hm hji
      go_wp2
      go_roundw
      case rel => exact ⟨j, m / 256, by omega, rfl, by go_num, by omega, HM2, HS.out, hnx.setCell (p := ⟨w.heap.size, j, none⟩) (Nat.le_refl _) _⟩
      case measure => simp [intOf]
    · have hk0 : k = 0 := by omega
      subst hk0
      rw [beFrom_all] at hown'
      go_wp2
      go_ret
      exact ⟨rfl, hown', hnx⟩
end Go.Proofs.Ytaafkefgpgoepaa
