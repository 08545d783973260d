/- BinoutReads returns true for all bytes, and writes nothing that was there. Conditions: none. -/
import Derived.Test.YtaafkefgpgoepaaBoReads
import Derived.Test.YtaafkefgpgoepaaPoLib
namespace Go.Proofs.Ytaafkefgpgoepaa
set_option linter.unusedVariables false
open Go.RowKit Go.Shelf

theorem binoutReads_walk (W : World) (a0 : Option Addr) (len0 cap0 : Nat) (z0 : List Int) (w0 : IsRow .u8 W a0 len0 cap0 z0) :
    Calls Try.prog 4 #[.slice a0 len0 cap0] W fun e W' => e = .returned (.bool true) ∧ Below W.heap.size W W' := binoutReads_lib bo_lib W a0 len0 cap0 z0 w0
end Go.Proofs.Ytaafkefgpgoepaa
