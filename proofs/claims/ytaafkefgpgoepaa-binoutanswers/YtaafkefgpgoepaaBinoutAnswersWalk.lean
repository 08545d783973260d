/- BinoutAnswers returns true for every request, all results and any status, and writes nothing that was there. Conditions: an opaque number of 32 bits. -/
import Derived.Test.YtaafkefgpgoepaaBoAns
import Derived.Test.YtaafkefgpgoepaaPoLib
namespace Go.Proofs.Ytaafkefgpgoepaa
set_option linter.unusedVariables false
open Go.RowKit Go.Shelf

theorem binoutAnswers_walk (W : World) (r : Qv) (ca : Option Addr) (cc : Nat) (ta : Option Addr) (tc : Nat) (ka : Option Addr) (kc : Nat) (hq : QAt W r ca cc ta tc ka kc) (ho : 0 ≤ r.form.opq ∧ r.form.opq < 4294967296) (la : Option Addr) (lc : Nat) (xs : List Rv) (hx : Ru W la xs.length lc xs) (s : Int) (hs : (Lit.int .i64 s).wf = true) :
    Calls Try.prog 3 #[.agg (rqC r ca cc ta tc ka kc), .slice la xs.length lc, .int .i64 s] W fun e W' => e = .returned (.bool true) ∧ Below W.heap.size W W' := binoutAnswers_lib bo_lib W r ca cc ta tc ka kc hq ho la lc xs hx s hs
end Go.Proofs.Ytaafkefgpgoepaa
