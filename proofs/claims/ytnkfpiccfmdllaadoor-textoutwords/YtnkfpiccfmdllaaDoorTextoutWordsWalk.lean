/- TextoutWords returns true for any two numbers, and writes nothing that was there. Conditions: the listed variables hold what the program's text lays. -/
import Derived.Test.YtnkfpiccfmdllaaDoorOutAw
namespace Go.Proofs.YtnkfpiccfmdllaaDoor
set_option linter.unusedVariables false
open Go.RowKit

set_option maxRecDepth 100000 in
set_option maxHeartbeats 400000 in
theorem textoutWords_walk (a : Int) (ha : (Lit.int .i64 a).wf = true) (b : Int) (hb : (Lit.int .i64 b).wf = true) (W : World) (hL : Laid W) : Calls Tryd.prog 6 #[.int .i64 a, .int .i64 b] W fun e W' => e = .returned (.bool true) ∧ Below W.heap.size W W' := by
  have HA := hide (fun W => word_any a W)
  have HB := hide (fun W => word_any b W)
  have HR := hide (fun W => rword_any a W)
  have HO := hide (wordL_one (a := a) (b := b))
  generalize wordL a = X at *
  generalize wordL b = Y at *
  clear ha hb
  have hX : (X = [] ∧ (mkS X).toList.isEmpty = true) ∨ (X ≠ [] ∧ (mkS X).toList.isEmpty = false) := by
    by_cases h : X = []
    · exact .inl ⟨h, by rw [h]; exact mkS_empty []⟩
    · exact .inr ⟨h, list_some h⟩
  by_cases h1 : X = Y
  · subst h1
    have q1 : ((mkS X).toList == (mkS X).toList) = true := by simp
    rcases hX with ⟨hx, e1⟩ | ⟨hx, e1⟩
    · clear hx HO
      have N0 : Hid (W = W) := rfl
      go_enter Tryd.func6, Tryd.ntmps6
      go_wp2_with (first
        | (go_at_call 7; refine (awake_any hL).mono ?_; rintro e w1 ⟨rfl, g1⟩; replace g1 := hide g1)
        | (go_at_call 11; have t := N0; clear t; refine (HA.out _).mono ?_; rintro e w2 ⟨rfl, rfl⟩; clear N0; have N1 : Hid (W = W) := rfl)
        | (go_at_call 11; have t := N1; clear t; refine (HB.out _).mono ?_; rintro e w2 ⟨rfl, rfl⟩; clear N1)
        | (go_at_call 12; refine (HR.out _).mono ?_; rintro e w2 ⟨rfl, rfl⟩))
      go_ret
      exact ⟨by first | rfl | (simp; done), below_gr g1.out⟩
    · obtain rfl : a = b := (HO.out rfl).resolve_left hx
      clear hx HO
      have N0 : Hid (W = W) := rfl
      go_enter Tryd.func6, Tryd.ntmps6
      go_wp2_with (first
        | (go_at_call 7; refine (awake_any hL).mono ?_; rintro e w1 ⟨rfl, g1⟩; replace g1 := hide g1)
        | (go_at_call 11; have t := N0; clear t; refine (HA.out _).mono ?_; rintro e w2 ⟨rfl, rfl⟩; clear N0; have N1 : Hid (W = W) := rfl)
        | (go_at_call 11; have t := N1; clear t; refine (HB.out _).mono ?_; rintro e w2 ⟨rfl, rfl⟩; clear N1)
        | (go_at_call 12; refine (HR.out _).mono ?_; rintro e w2 ⟨rfl, rfl⟩))
      go_ret
      exact ⟨by first | rfl | (simp; done), below_gr g1.out⟩
  · have q1 : ((mkS X).toList == (mkS Y).toList) = false := by
      rw [mkS_toList, mkS_toList, beq_eq_false_iff_ne]
      exact h1
    clear h1 HO
    rcases hX with ⟨hx, e1⟩ | ⟨hx, e1⟩
    all_goals
      clear hx
      have N0 : Hid (W = W) := rfl
      go_enter Tryd.func6, Tryd.ntmps6
      go_wp2_with (first
        | (go_at_call 7; refine (awake_any hL).mono ?_; rintro e w1 ⟨rfl, g1⟩; replace g1 := hide g1)
        | (go_at_call 11; have t := N0; clear t; refine (HA.out _).mono ?_; rintro e w2 ⟨rfl, rfl⟩; clear N0; have N1 : Hid (W = W) := rfl)
        | (go_at_call 11; have t := N1; clear t; refine (HB.out _).mono ?_; rintro e w2 ⟨rfl, rfl⟩; clear N1)
        | (go_at_call 12; refine (HR.out _).mono ?_; rintro e w2 ⟨rfl, rfl⟩))
      go_ret
      exact ⟨by first | rfl | (simp; done), below_gr g1.out⟩
end Go.Proofs.YtnkfpiccfmdllaaDoor
