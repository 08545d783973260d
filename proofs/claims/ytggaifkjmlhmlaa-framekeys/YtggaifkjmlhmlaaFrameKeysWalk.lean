/- FrameKeys returns true for every text, and writes nothing that was there. Conditions: none. -/
import Derived.Test.YtggaifkjmlhmlaaFrameAw
import Derived.Test.YtggaifkjmlhmlaaFrameRefK
namespace Go.Proofs.Ytggaifkjmlhmlaa
open Go.RowKit

set_option maxRecDepth 100000 in
set_option maxHeartbeats 1000000 in
theorem frameKeys_walk (s : ByteArray) (_w0 : s.size ≤ 140737488351232) (W : World) :
    Calls Try.prog 4 #[.string s] W fun e W' => e = .returned (.bool true) ∧ Below W.heap.size W W' := by
  have H1 := hide (fun w => key_any s w)
  have H2 := hide (fun w => rkey_any s w)
  have H3 := hide (fun w => keyed_any s w)
  have H4 := hide (fun w => rkeyed_any s w)
  generalize keyN s.data.toList = k at *
  generalize keyedN s.data.toList = d at *
  go_enter Try.func4, Try.ntmps4
  go_wp2_with (first
    | (go_at_call 9; refine (awake_any _).mono ?_; rintro e w1 ⟨rfl, g1⟩)
    | (go_at_call 14; refine (H1.out _).mono ?_; rintro e w2 ⟨rfl, rfl⟩)
    | (go_at_call 15; refine (H2.out _).mono ?_; rintro e w2 ⟨rfl, rfl⟩)
    | (go_at_call 16; refine (H3.out _).mono ?_; rintro e w2 ⟨rfl, rfl⟩)
    | (go_at_call 17; refine (H4.out _).mono ?_; rintro e w2 ⟨rfl, rfl⟩))
  all_goals go_ret
  all_goals exact ⟨by first | rfl | simp, below_gr g1⟩
end Go.Proofs.Ytggaifkjmlhmlaa
