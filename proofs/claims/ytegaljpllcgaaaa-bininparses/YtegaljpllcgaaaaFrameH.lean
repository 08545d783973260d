/- What package frame's Key and Keyed answer, as chapter 13 says. Conditions: none of the program's variables is read. -/
import Derived.Test.YtegaljpllcgaaaaFrameM
import Derived.Test.YtegaljpllcgaaaaG01Joined
namespace Go.Proofs.Ytegaljpllcgaaaa
open Go.RowKit

set_option maxRecDepth 100000 in
set_option maxHeartbeats 1000000 in
theorem keyed_any (s : ByteArray) (w : World) : Calls Try.prog 45 #[.string s] w fun e w' => e = .returned (.bool (keyedN s.data.toList)) ∧ w = w' := by
  obtain ⟨⟨l⟩⟩ := s
  cases l with
  | nil =>
    go_enter Try.func45, Try.ntmps45
    go_wp2
    go_ret
    exact ⟨rfl, rfl⟩
  | cons c t =>
    have hk : keyedN (⟨⟨c :: t⟩⟩ : ByteArray).data.toList = decide ((t.length : Int) + 1 ≤ 250) := by
      unfold keyedN
      show (decide (1 ≤ t.length + 1) && decide (t.length + 1 ≤ 250)) = _
      rw [decide_eq_true (by omega : 1 ≤ t.length + 1), Bool.true_and]
      exact decide_eq_decide.2 (by omega)
    rw [hk]
    clear hk
    go_enter Try.func45, Try.ntmps45
    go_wp2
    go_ret
    exact ⟨rfl, rfl⟩
theorem all_at {l : List UInt8} {k : Nat} (h : k < l.length) : (l.drop k).all signN = (signN l[k] && (l.drop (k + 1)).all signN) := by
  rw [List.drop_eq_getElem_cons h]
  rfl
end Go.Proofs.Ytegaljpllcgaaaa
