/- What Put32 of package num answers: a new slice that holds the number's four bytes, the highest first. Conditions: none. -/
import Derived.Test.YtaafkefgpgoepaaPut
namespace Go.Proofs.Ytaafkefgpgoepaa
open Go.RowKit
theorem put32_any (n : Nat) (hn : n < 4294967296) (w : World) :
    Calls Try.prog 26 #[.int .u32 n] w fun e w' => e = .returned (.slice (some ⟨w.heap.size, 0, none⟩) 4 4) ∧
      w'.ownsRow w.heap.size 5 1 (.slice (some ⟨w.heap.size, 0, none⟩) 4 4) 4 ((be n 4).map (Value.int .u8)) ∧ Below w.heap.size w w' := by
  have h1 : (n : Int) < 4294967296 := by omega
  go_enter Try.func26, Try.ntmps26
  go_wp2_with (go_at_call 32; refine (put_any n 4 (by omega) _).mono ?_; rintro e w' ⟨rfl, ho, hb⟩)
  go_ret
  exact ⟨rfl, ho, hb⟩
end Go.Proofs.Ytaafkefgpgoepaa
