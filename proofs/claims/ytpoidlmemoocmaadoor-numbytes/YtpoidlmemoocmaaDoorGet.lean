/- What Get of package num answers: the number of the slice's last eight bytes, the highest first; it writes nothing. Conditions: the cells of the slice's elements are known. -/
import Derived.Test.YtpoidlmemoocmaaDoorLaid
import Derived.Lib.EndianBits
namespace Go.Proofs.YtpoidlmemoocmaaDoor
open Go.RowKit

/-- The number whose bytes these are, the highest first, kept to 64 bits. -/
def num8 (zs : List Int) : Int := zs.foldl (fun a z => (a * 256 + z) % 18446744073709551616) 0

theorem num8_snoc (l : List Int) (z : Int) : num8 (l ++ [z]) = (num8 l * 256 + z) % 18446744073709551616 := by simp [num8]
theorem fold_bd : ∀ (l : List Int) (a : Int), 0 ≤ a ∧ a < 18446744073709551616 → 0 ≤ l.foldl (fun a z => (a * 256 + z) % 18446744073709551616) a ∧ l.foldl (fun a z => (a * 256 + z) % 18446744073709551616) a < 18446744073709551616
  | [], _, h => h
  | z :: l, a, _ => fold_bd l _ (by simp only []; omega)
theorem num8_bd (l : List Int) : 0 ≤ num8 l ∧ num8 l < 18446744073709551616 := fold_bd l 0 (by omega)
theorem ret_int {k : IntKind} {a b : Int} (h : a = b) : Ending.returned (.int k a) = .returned (.int k b) := by rw [h]
theorem or_byte (m z : Int) (h0 : 0 ≤ z) (h1 : z ≤ 255) : bits .or .u64 (IntKind.u64.wrap (m * 256)) (IntKind.u64.wrap z) = (m * 256 + z) % 18446744073709551616 := by
  have hz : IntKind.u64.wrap z = z := by rw [IntKind.wrap_u64]; omega
  have hm : 0 ≤ IntKind.u64.wrap (m * 256) ∧ IntKind.u64.wrap (m * 256) % 256 = 0 ∧ IntKind.u64.wrap (m * 256) < 18446744073709551616 ∧ IntKind.u64.wrap (m * 256) = m * 256 % 18446744073709551616 := by rw [IntKind.wrap_u64]; omega
  obtain ⟨a, b, c, d⟩ := hm
  have hc : bits .or .u64 (IntKind.u64.wrap (m * 256)) (IntKind.u64.wrap z) = bits .or .u64 (IntKind.u64.wrap z) (IntKind.u64.wrap (m * 256)) := by simp only [bits, BitVec.or_comm]
  rw [hc, hz, u64_or8 _ _ h0 (by omega) a b c]
  omega

set_option maxHeartbeats 1000000 in
theorem get_any (b off len cap : Nat) (zs : List Int) (hz : zs.length = len) (hlen : len ≤ 140737488351232) (hcap : len ≤ cap) (hb : ∀ z ∈ zs, 0 ≤ z ∧ z ≤ 255) (w : World)
    (hc : ∀ i, i < len → w.cell? ⟨b, off + i, none⟩ = some (.int .u8 (zs.getD i 0))) (hl : 1 ≤ len) :
    Calls Tryd.prog 20 #[.slice (some ⟨b, off, none⟩) len cap] w fun e w' => e = .returned (.int .u64 (num8 (zs.drop (len - 8)))) ∧ w' = w := by
  obtain ⟨lo, hlo⟩ : ∃ lo, lo = len - 8 := ⟨_, rfl⟩
  have hmax : max (0 : Int) ((len : Int) - 8) = (lo : Int) := by omega
  have hne : ¬ cap = lo := by omega
  have hle : lo ≤ len := by omega
  rw [← hlo]
  have HLO : Hid (lo = len - 8) := hlo
  clear hlo
  go_enter Tryd.func20, Tryd.ntmps20
  go_wp2
  go_loop [3, 13] (fun n i => ∃ k : Nat, k ≤ len - lo ∧ i = .int .i64 k ∧ n = .int .u64 (num8 ((zs.drop lo).take k))) (fun _ i => len - lo - (intOf i).toNat)
  case atStart => exact ⟨0, Nat.zero_le _, rfl, rfl⟩
  case round =>
    obtain ⟨k, hk, rfl, rfl⟩ := hrel
    by_cases hlt : k < len - lo
    · have hcell := hc (lo + k) (by omega)
      rw [← Nat.add_assoc] at hcell
      have HB : Hid (0 ≤ zs[lo + k]?.getD 0 ∧ zs[lo + k]?.getD 0 ≤ 255) := by
        have hk' : lo + k < zs.length := by omega
        rw [List.getElem?_eq_getElem hk']
        exact hb _ (List.getElem_mem hk')
      have HS : Hid (num8 ((zs.drop lo).take (k + 1)) = (num8 ((zs.drop lo).take k) * 256 + zs[lo + k]?.getD 0) % 18446744073709551616) := by
        have hk' : k < (zs.drop lo).length := by simp; omega
        show _ = _
        rw [List.take_succ_eq_append_getElem hk', num8_snoc, List.getElem_drop, List.getElem?_eq_getElem (by omega)]
        rfl
      clear hb hc
      go_wp2
      go_round
      case rel => exact ⟨k + 1, by omega, by go_num, by rw [HS.out, or_byte _ _ HB.out.1 HB.out.2]⟩
      case measure => simp [intOf]; omega
    · have HE : Hid ((zs.drop lo).take k = zs.drop lo) := by
        show _ = _
        rw [List.take_of_length_le (by simp; omega)]
      clear hb hc
      go_wp2
      go_ret
      exact ⟨ret_int (by rw [HE.out]), rfl⟩
end Go.Proofs.YtpoidlmemoocmaaDoor
