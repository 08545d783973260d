/- The document's own number of some bytes. Conditions: at most 100000 bytes. -/
import Derived.Test.YtaafkefgpgoepaaBinM
namespace Go.Proofs.Ytaafkefgpgoepaa
set_option linter.unusedVariables false
open Go.RowKit

theorem sum_byteB (m z : Int) : Value.int .u64 (IntKind.u64.wrap (IntKind.u64.wrap (m * 256) + IntKind.u64.wrap z)) = .int .u64 ((m * 256 + z) % 18446744073709551616) := by
  rw [IntKind.wrap_u64, IntKind.wrap_u64, IntKind.wrap_u64]
  congr 1
  omega
theorem numB_next {l : List UInt8} {k : Nat} (h : k < l.length) : numB (l.take (k + 1)) = (numB (l.take k) * 256 + (l[k].toNat : Int)) % 18446744073709551616 := by
  rw [List.take_succ_eq_append_getElem h, numB_snoc]
theorem next_b {k n : Nat} (h : k < n) (hn : n ≤ 100000) : wrap64 ((k : Int) + 1) = (k : Int) + 1 := by unfold wrap64; omega
theorem lt_b {k n : Nat} (h : k < n) : (k : Int) < (n : Int) := by omega
theorem nlt_b (n : Nat) : ¬ (n : Int) < (n : Int) := by omega
section
variable {w : World} {a : Option Addr} {len cap : Nat} {l : List UInt8}
set_option maxHeartbeats 1000000 in
theorem bget_none (a : Option Addr) (cap : Nat) (w : World) : Calls Try.prog 25 #[.slice a 0 cap] w fun e w' => e = .returned (.int .u64 0) ∧ w' = w := by
  go_enter Try.func25, Try.ntmps25
  go_wp2
  refine wp_loop_rounds 1 ?_
  rw [rounds_succ]
  go_wp2
  go_ret
  exact ⟨rfl, rfl⟩
set_option maxHeartbeats 1000000 in
theorem bget_any (h : Bu w a len cap l) (hlen : len ≤ 100000) : Calls Try.prog 25 #[.slice a len cap] w fun e w' => e = .returned (.int .u64 (numB l)) ∧ w' = w := by
  have hn := h.n
  rcases h.b with ⟨rfl, _, _⟩ | ⟨b, off, r⟩
  · have e : l = [] := List.eq_nil_of_length_eq_zero hn
    subst e
    exact bget_none a cap w
  · obtain rfl := r.at_
    have hc : ∀ i (h : i < l.length), w.cell? ⟨b, off + i, none⟩ = some (.int .u8 (l[i].toNat : Int)) := fun i hi => by rw [r.cell i (by omega), getD_ints l i hi]
    clear r h
    go_enter Try.func25, Try.ntmps25
    go_wp2
    go_loop [3, 4] (fun n i => ∃ k : Nat, k ≤ len ∧ i = .int .i64 k ∧ n = .int .u64 (numB (l.take k))) (fun _ i => len - (intOf i).toNat)
    case atStart => exact ⟨0, Nat.zero_le _, rfl, rfl⟩
    case round =>
      obtain ⟨k, hk, rfl, rfl⟩ := hrel
      by_cases hlt : k < len
      · have hki := lt_b hlt
        have e1 := next_b hlt hlen
        have hcell := hc k (by omega)
        have HS := hide (numB_next (l := l) (k := k) (by omega))
        generalize ((l[k]'(by omega)).toNat : Int) = x at *
        clear hc
        go_wp2
        go_round
        case rel => exact ⟨k + 1, by omega, by go_num, by rw [HS.out]; exact sum_byteB _ _⟩
        case measure => simp [intOf]; omega
      · have HE : Hid (numB (l.take k) = numB l) := by
          show _ = _
          rw [List.take_of_length_le (by omega)]
        have hk2 : k = len := by omega
        subst hk2
        have hkj := nlt_b k
        clear hc
        go_wp2
        go_ret
        exact ⟨by first | rfl | (rw [HE.out]; rfl), by first | rfl | trivial⟩
end
end Go.Proofs.Ytaafkefgpgoepaa
