/- The document's own Get of a slice of bytes that came in: the number of all its bytes, kept to 64 bits, which is that of the last eight. Conditions: the slice has at most 140737488351232 bytes. -/
import Derived.Test.YtpoidlmemoocmaaDoorSrc
import Derived.Test.YtpoidlmemoocmaaDoorRefGet
namespace Go.Proofs.YtpoidlmemoocmaaDoor
open Go.RowKit

theorem last_eight : ∀ (l : List Int) (a b : Int), 8 ≤ l.length → l.foldl (fun a z => (a * 256 + z) % 18446744073709551616) a = l.foldl (fun a z => (a * 256 + z) % 18446744073709551616) b
  | x0 :: x1 :: x2 :: x3 :: x4 :: x5 :: x6 :: x7 :: l, a, b, _ => by
    simp only [List.foldl_cons]
    congr 1
    omega
theorem num_last (l : List Int) : num8 l = num8 (l.drop (l.length - 8)) := by
  by_cases h : 8 ≤ l.length
  · have e : l = l.take (l.length - 8) ++ l.drop (l.length - 8) := (List.take_append_drop _ _).symm
    have h2 : num8 (l.take (l.length - 8) ++ l.drop (l.length - 8)) = num8 (l.drop (l.length - 8)) := by
      unfold num8
      rw [List.foldl_append]
      exact last_eight _ _ _ (by simp; omega)
    rw [← e] at h2
    exact h2
  · rw [show l.length - 8 = 0 by omega, List.drop_zero]
set_option maxHeartbeats 1000000 in
theorem refGet_empty (a : Option Addr) (cap : Nat) (w : World) :
    Calls Tryd.prog 21 #[.slice a 0 cap] w fun e w' => e = .returned (.int .u64 0) ∧ w' = w := by
  go_enter Tryd.func21, Tryd.ntmps21
  go_wp2
  refine wp_loop_rounds 1 ?_
  rw [rounds_succ]
  go_wp2
  go_ret
  exact ⟨rfl, rfl⟩
theorem refGet_src {w : World} {a : Option Addr} {len cap : Nat} {zs : List Int} (h : IsRow .u8 w a len cap zs) (hl : len ≤ 140737488351232) :
    Calls Tryd.prog 21 #[.slice a len cap] w fun e w' => e = .returned (.int .u64 (num8 ((zs.take len).drop (len - 8)))) ∧ w' = w := by
  have e : num8 (zs.take len) = num8 ((zs.take len).drop (len - 8)) := by have := num_last (zs.take len); rw [h.len_take] at this; exact this
  rcases row_cases h with ⟨rfl, ha⟩ | ⟨b, off, r⟩
  · have := refGet_empty a cap w
    simpa [num8] using this
  · rw [← e, r.at_]
    exact refGet_any b off len cap _ r.len_ hl w r.cell
end Go.Proofs.YtpoidlmemoocmaaDoor
