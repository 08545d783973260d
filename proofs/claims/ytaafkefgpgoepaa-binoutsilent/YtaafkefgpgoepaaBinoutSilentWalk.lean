/- BinoutSilent returns true for every request and all results, and writes nothing that was there. Conditions: an opaque number of 32 bits. -/
import Derived.Test.YtaafkefgpgoepaaBoSil
import Derived.Test.YtaafkefgpgoepaaPoLib
namespace Go.Proofs.Ytaafkefgpgoepaa
set_option linter.unusedVariables false
open Go.RowKit Go.Shelf

theorem binoutSilent_walk (W : World) (r : Qv) (ca : Option Addr) (cc : Nat) (ta : Option Addr) (tc : Nat) (ka : Option Addr) (kc : Nat) (hq : QAt W r ca cc ta tc ka kc) (ho : 0 ≤ r.form.opq ∧ r.form.opq < 4294967296) (la : Option Addr) (lc : Nat) (xs : List Rv) (hx : Ru W la xs.length lc xs) :
    Calls Try.prog 6 #[.agg (rqC r ca cc ta tc ka kc), .slice la xs.length lc] W fun e W' => e = .returned (.bool true) ∧ Below W.heap.size W W' := binoutSilent_lib bo_lib W r ca cc ta tc ka kc hq ho la lc xs hx
end Go.Proofs.Ytaafkefgpgoepaa
