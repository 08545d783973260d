/- What every statement of layer 17 asks of the package binout, as contracts. Conditions: as each says. -/
import Derived.Test.YtaafkefgpgoepaaBoBackM
import Derived.Test.YtaafkefgpgoepaaG38Joined
namespace Go.Proofs.Ytaafkefgpgoepaa
set_option linter.unusedVariables false
open Go.RowKit

/-- The three parts of an answer. -/
def ptC (a : Av) (xa : Option Addr) (xc : Nat) (ka : Option Addr) (kc : Nat) (va : Option Addr) (vc : Nat) : Array Value :=
  #[.slice xa a.x.length xc, .slice ka a.key.length kc, .slice va a.v.length vc]
/-- An answer that is read, its parts in an array. -/
def RdT (a : Av) (w : World) (e : Ending) (w' : World) : Prop := ∃ xa xc ka kc va vc, e = .returned (.tuple #[.int .i64 a.code, .int .u16 a.st, .int .u32 a.opq, .int .u64 a.cas, .agg (ptC a xa xc ka kc va vc), .int .i64 a.used]) ∧ Bu w' xa a.x.length xc a.x ∧ Bu w' ka a.key.length kc a.key ∧ Bu w' va a.v.length vc a.v ∧ w.grownBy w' none
/-- The package. -/
structure BoLib : Prop where
  code : ∀ (s : Int) (w : World), Calls Try.prog 12 #[.int .i64 s] w fun e w' => e = .returned (.int .u16 (codeN s)) ∧ w' = w
  enc : ∀ (w : World) (r : Qv) (ca : Option Addr) (cc : Nat) (ta : Option Addr) (tc : Nat) (ka : Option Addr) (kc : Nat) (la : Option Addr) (lc : Nat) (xs : List Rv), QAt w r ca cc ta tc ka kc → Ru w la xs.length lc xs → FewR r xs → 0 ≤ r.form.opq → r.form.opq < 4294967296 → Calls Try.prog 10 #[.agg (rqC r ca cc ta tc ka kc), .slice la xs.length lc] w fun e w' => EncE (encA r xs) w e w'
  read : ∀ (w : World) (a : Option Addr) (len cap : Nat) (b : List UInt8) (v : Av), Bu w a len cap b → len ≤ 200000 → ReadsA b v → Calls Try.prog 14 #[.slice a len cap] w fun e w' => RdT v w e w'
end Go.Proofs.Ytaafkefgpgoepaa
