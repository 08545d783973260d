/- A command that may be is told to be, by the statements' own May. Conditions: none. -/
import Derived.Test.YthofdmepofepgaaDoorTextSaneO
import Derived.Test.YthofdmepofepgaaDoorG35Joined
import Derived.Test.YthofdmepofepgaaDoorFrameRefK
namespace Go.Proofs.YthofdmepofepgaaDoor
set_option linter.unusedVariables false
open Go.RowKit

section
variable {w : World}
set_option maxRecDepth 100000 in
set_option maxHeartbeats 2000000 in
theorem may_any {c : Cv} {va : Option Addr} {vc : Nat} (h : MayC c) : Calls Tryd.prog 10 #[.agg (cmC c va vc), .bool false] w fun e w' => e = .returned (.bool true) ∧ w.grownBy w' none := by
  have HG := hide (World.grownBy_alloc w (.cells (cmC c va vc) 38) none)
  obtain ⟨hk, hv, ⟨he1, he2⟩, ⟨ho1, ho2⟩⟩ := h
  obtain ⟨op, key, val, fl, exp, cas, del, ini, makes, sets⟩ := c
  simp only [] at hk hv he1 he2 ho1 ho2
  have hvi : ((val.length : Nat) : Int) ≤ 1000 := by omega
  have HK := hide (fun (W : World) => rkey_any key W)
  have HD := hide (fun (W : World) => rkeyed_any key W)
  generalize keyedN key.data.toList = kd at *
  simp only [cmC] at *
  rcases hk with ⟨k, rfl, hk⟩ | ⟨h13, rfl⟩
  · rw [show (mkB k).data.toList = k from by simp [mkB], hk] at HK
    clear hk hv
    go_enter Tryd.func10, Tryd.ntmps10
    go_wp2_with (first
      | (go_at_call 14; refine (HK.out _).mono ?_; rintro e w1 ⟨rfl, rfl⟩)
      | (go_at_call 15; refine (HD.out _).mono ?_; rintro e w1 ⟨rfl, rfl⟩))
    go_ret
    exact ⟨by first | rfl | (simp; done), HG.out⟩
  · rw [show keyN (mkB []).data.toList = false from rfl] at HK
    rw [show mkB [] = (⟨#[]⟩ : ByteArray) from rfl] at *
    clear hv
    go_enter Tryd.func10, Tryd.ntmps10
    go_wp2_with (first
      | (go_at_call 14; refine (HK.out _).mono ?_; rintro e w1 ⟨rfl, rfl⟩)
      | (go_at_call 15; refine (HD.out _).mono ?_; rintro e w1 ⟨rfl, rfl⟩))
    go_ret
    exact ⟨by first | rfl | (simp; done), HG.out⟩
end
end Go.Proofs.YthofdmepofepgaaDoor
