/- What the document's own Get answers: the number of all the slice's bytes, kept to 64 bits; it writes nothing. Conditions: the cells of the slice's elements are known. -/
import Derived.Test.YtpoidlmemoocmaaDoorGet
namespace Go.Proofs.YtpoidlmemoocmaaDoor
open Go.RowKit

theorem sum_byte (m z : Int) : Value.int .u64 (IntKind.u64.wrap (IntKind.u64.wrap (m * 256) + IntKind.u64.wrap z)) = .int .u64 ((m * 256 + z) % 18446744073709551616) := by
  rw [IntKind.wrap_u64, IntKind.wrap_u64, IntKind.wrap_u64]
  congr 1
  omega

set_option maxHeartbeats 1000000 in
theorem refGet_any (b off len cap : Nat) (zs : List Int) (hz : zs.length = len) (hlen : len ≤ 140737488351232) (w : World)
    (hc : ∀ i, i < len → w.cell? ⟨b, off + i, none⟩ = some (.int .u8 (zs.getD i 0))) :
    Calls Tryd.prog 21 #[.slice (some ⟨b, off, none⟩) len cap] w fun e w' => e = .returned (.int .u64 (num8 zs)) ∧ w' = w := by
  go_enter Tryd.func21, Tryd.ntmps21
  go_wp2
  go_loop [3, 4] (fun n i => ∃ k : Nat, k ≤ len ∧ i = .int .i64 k ∧ n = .int .u64 (num8 (zs.take k))) (fun _ i => len - (intOf i).toNat)
  case atStart => exact ⟨0, Nat.zero_le _, rfl, rfl⟩
  case round =>
    obtain ⟨k, hk, rfl, rfl⟩ := hrel
    by_cases hlt : k < len
    · obtain ⟨x, hx⟩ : ∃ x, x = zs.getD k 0 := ⟨_, rfl⟩
      have hcell := hc k hlt
      rw [← hx] at hcell
      have HS : Hid (num8 (zs.take (k + 1)) = (num8 (zs.take k) * 256 + x) % 18446744073709551616) := by
        show _ = _
        rw [List.take_succ_eq_append_getElem (by omega), num8_snoc, hx]
        simp only [List.getD, List.getElem?_eq_getElem (show k < zs.length by omega)]
        rfl
      clear hx
      clear hc
      go_wp2
      go_round
      case rel => exact ⟨k + 1, by omega, by go_num, by rw [HS.out]; exact sum_byte _ _⟩
      case measure => simp [intOf]; omega
    · have HE : Hid (zs.take k = zs) := by
        show _ = _
        rw [List.take_of_length_le (by omega)]
      clear hc
      go_wp2
      go_ret
      exact ⟨ret_int (by rw [HE.out]), rfl⟩
end Go.Proofs.YtpoidlmemoocmaaDoor
