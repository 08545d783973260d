/- What the document's own Put answers, as rows. Conditions: at most eight bytes. -/
import Derived.Test.YtaafkefgpgoepaaRowApp
import Derived.Test.YtaafkefgpgoepaaRefPut
namespace Go.Proofs.Ytaafkefgpgoepaa
set_option linter.unusedVariables false
open Go.RowKit

/-- A number as bytes, by the statements' own helper. -/
theorem rput_bu (n : Nat) (hn : n < 18446744073709551616) (size : Nat) (hsz : size ≤ 8) (w : World) : Calls Try.prog 21 #[.int .u64 n, .int .i64 size] w fun e w' => ∃ g, e = .returned (.slice (some ⟨g, 0, none⟩) size size) ∧ Bu w' (some ⟨g, 0, none⟩) size size (byL (be n size)) ∧ w.grownBy w' none := by
  refine (refPut_any n hn size hsz w).mono fun e w' ⟨h1, h2, h3⟩ => ?_
  exact ⟨_, h1, own_u (be_byt _ _) (by simp [be]) h2, gr_of_below h3⟩
/-- A number as bytes, as a row of one's own. -/
theorem rput_row (n : Nat) (hn : n < 18446744073709551616) (size : Nat) (hsz : size ≤ 8) (w : World) : Calls Try.prog 21 #[.int .u64 n, .int .i64 size] w fun e w' => ∃ v, e = .returned v ∧ Row2 w w' v size (byL (be n size)) := by
  refine (refPut_any n hn size hsz w).mono fun e w' ⟨h1, h2, h3⟩ => ⟨_, h1, ?_, (by simp [byL, be]), gr_of_below h3⟩
  unfold byU byV
  rw [ints_byL (be_byt _ _)]
  exact h2
end Go.Proofs.Ytaafkefgpgoepaa
