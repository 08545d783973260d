/- What the document's own Signed answers: the same number. Conditions: none but the text's length. -/
import Derived.Test.YtfcmnkhfmofioaaDoorG01Joined
import Derived.Test.YtfcmnkhfmofioaaDoorRefDecimal12
namespace Go.Proofs.YtfcmnkhfmofioaaDoor
open Go.RowKit

set_option maxHeartbeats 2000000 in
theorem refSigned_any (s : ByteArray) (hs : s.size ≤ 140737488351232) (w : World) :
    Calls Tryd.prog 35 #[.string s] w fun e w' => e = .returned (.tuple #[.int .i64 (sgnV s.data.toList), .bool (sgnB s.data.toList)]) ∧ w' = w := by
  rcases sgn_cases s with ⟨h1, h0, he⟩ | ⟨h1, hp, h45, he⟩ | ⟨h1, hp, h45, he⟩
  · rcases dec_cases s.data.toList with ⟨d1, d2, e1, e2⟩ | ⟨u, hu, d1, d2, e1, e2⟩ | ⟨u, hu, d1, d2, e1, e2⟩
    all_goals
      rw [show sgnV s.data.toList = _ from (congrArg (·.getD 0) he).trans e1, show sgnB s.data.toList = _ from (congrArg (·.isSome) he).trans e2]
      clear he e1 e2
      go_enter Tryd.func35, Tryd.ntmps35
      go_wp2_with (go_at_call 37; refine (refDecimal_any s hs _).mono ?_; rintro e w' ⟨rfl, rfl⟩)
      go_ret2
      exact ⟨rfl, rfl⟩
  · have hE : s.toList.isEmpty = false := by simpa using h1
    have hx : (s.extract 1 s.size).size ≤ 140737488351232 := by rw [ByteArray.size_extract]; omega
    have hxl : (s.extract 1 s.size).data.toList = s.data.toList.drop 1 := extract_one s
    obtain ⟨t, ht⟩ : ∃ t, t = s.extract 1 s.size := ⟨_, rfl⟩
    rw [← ht] at hx hxl
    rcases dec_cases (s.data.toList.drop 1) with ⟨d1, d2, e1, e2⟩ | ⟨u, hu, d1, d2, e1, e2⟩ | ⟨u, hu, d1, d2, e1, e2⟩
    all_goals
      have e3 : sgnV s.data.toList = _ := (congrArg (·.getD 0) he).trans (neg_get e1)
      have e4 : sgnB s.data.toList = _ := (congrArg (·.isSome) he).trans (neg_some e2)
      rw [e3, e4]
      rw [← hxl] at d1 d2
      clear he e1 e2 e3 e4 hxl
      have ht' : s.extract 1 s.size = t := ht.symm
      clear ht
      go_enter Tryd.func35, Tryd.ntmps35
      go_wp2_with (go_at_call 37; refine (refDecimal_any t hx _).mono ?_; rintro e w' ⟨rfl, rfl⟩)
      go_ret2
      exact ⟨rfl, rfl⟩
  · have hE : s.toList.isEmpty = false := by simpa using h1
    rcases dec_cases s.data.toList with ⟨d1, d2, e1, e2⟩ | ⟨u, hu, d1, d2, e1, e2⟩ | ⟨u, hu, d1, d2, e1, e2⟩
    all_goals
      rw [show sgnV s.data.toList = _ from (congrArg (·.getD 0) he).trans e1, show sgnB s.data.toList = _ from (congrArg (·.isSome) he).trans e2]
      clear he e1 e2
      go_enter Tryd.func35, Tryd.ntmps35
      go_wp2_with (go_at_call 37; refine (refDecimal_any s hs _).mono ?_; rintro e w' ⟨rfl, rfl⟩)
      go_ret2
      exact ⟨rfl, rfl⟩
end Go.Proofs.YtfcmnkhfmofioaaDoor
