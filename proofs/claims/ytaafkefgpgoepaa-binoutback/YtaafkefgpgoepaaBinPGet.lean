/- What num.Get answers of bytes that lie in memory. Conditions: one to eight bytes. -/
import Derived.Test.YtaafkefgpgoepaaHeadB
import Derived.Lib.EndianBits
namespace Go.Proofs.Ytaafkefgpgoepaa
set_option linter.unusedVariables false
open Go.RowKit

theorem or_byteB (m z : Int) (h0 : 0 ≤ z) (h1 : z ≤ 255) : bits .or .u64 (IntKind.u64.wrap (m * 256)) (IntKind.u64.wrap z) = (m * 256 + z) % 18446744073709551616 := by
  have hz : IntKind.u64.wrap z = z := by rw [IntKind.wrap_u64]; omega
  have hm : 0 ≤ IntKind.u64.wrap (m * 256) ∧ IntKind.u64.wrap (m * 256) % 256 = 0 ∧ IntKind.u64.wrap (m * 256) < 18446744073709551616 ∧ IntKind.u64.wrap (m * 256) = m * 256 % 18446744073709551616 := by rw [IntKind.wrap_u64]; omega
  obtain ⟨a, b, c, d⟩ := hm
  have hc : bits .or .u64 (IntKind.u64.wrap (m * 256)) (IntKind.u64.wrap z) = bits .or .u64 (IntKind.u64.wrap z) (IntKind.u64.wrap (m * 256)) := by simp only [bits, BitVec.or_comm]
  rw [hc, hz, u64_or8 _ _ h0 (by omega) a b c]
  omega
theorem numB_nextP {l : List UInt8} {k : Nat} (h : k < l.length) : numB (l.take (k + 1)) = (numB (l.take k) * 256 + (l[k].toNat : Int)) % 18446744073709551616 := by
  rw [List.take_succ_eq_append_getElem h, numB_snoc]
section
variable {w : World} {a : Option Addr} {len cap : Nat} {l : List UInt8}
set_option maxHeartbeats 1000000 in
theorem pget_any (h : Bu w a len cap l) (h1 : 1 ≤ len) (h8 : len ≤ 8) : Calls Try.prog 23 #[.slice a len cap] w fun e w' => e = .returned (.int .u64 (numB l)) ∧ w' = w := by
  have hn := h.n
  have hcp := h.c
  rcases h.b with ⟨h0, _, _⟩ | ⟨b, off, r⟩
  · omega
  · obtain rfl := r.at_
    have hc : ∀ i (h : i < l.length), w.cell? ⟨b, off + i, none⟩ = some (.int .u8 (l[i].toNat : Int)) := fun i hi => by rw [r.cell i (by omega), getD_ints l i hi]
    clear r h
    have c0 : ¬ cap = 0 := by omega
    have m8 : ¬ (8 : Int) < (len : Int) := by omega
    have m9 : max (0 : Int) ((len : Int) - 8) = 0 := by omega
    go_enter Try.func23, Try.ntmps23
    go_wp2
    go_loop [3, 13] (fun n i => ∃ k : Nat, k ≤ len ∧ i = .int .i64 k ∧ n = .int .u64 (numB (l.take k))) (fun _ i => len - (intOf i).toNat)
    case atStart => exact ⟨0, Nat.zero_le _, rfl, rfl⟩
    case round =>
      obtain ⟨k, hk, rfl, rfl⟩ := hrel
      by_cases hlt : k < len
      · have hki : (k : Int) < (len : Int) := by omega
        have hcell := hc k (by omega)
        have HS := hide (numB_nextP (l := l) (k := k) (by omega))
        have HB : Hid (0 ≤ ((l[k]'(by omega)).toNat : Int) ∧ ((l[k]'(by omega)).toNat : Int) ≤ 255) := by
          have := UInt8.toNat_lt (l[k]'(by omega))
          show _ ∧ _
          omega
        generalize ((l[k]'(by omega)).toNat : Int) = x at *
        clear hc
        go_wp2
        go_round
        case rel => exact ⟨k + 1, by omega, by go_num, by rw [HS.out, or_byteB _ _ HB.out.1 HB.out.2]⟩
        case measure => simp [intOf]; omega
      · have HE : Hid (numB (l.take k) = numB l) := by
          show _ = _
          rw [List.take_of_length_le (by omega)]
        have hkn : ¬ (k : Int) < (len : Int) := by omega
        clear hc
        go_wp2
        go_ret
        exact ⟨by first | rfl | (rw [HE.out]; rfl), by first | rfl | trivial⟩
end
end Go.Proofs.Ytaafkefgpgoepaa
