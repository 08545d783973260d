/- BinoutLong returns true for every form, every result and any key, and writes nothing that was there. Conditions: an opaque number of 32 bits. -/
import Derived.Test.YtaafkefgpgoepaaBoLong
import Derived.Test.YtaafkefgpgoepaaPoLib
namespace Go.Proofs.Ytaafkefgpgoepaa
set_option linter.unusedVariables false
open Go.RowKit Go.Shelf

theorem binoutLong_walk (W : World) (f : Fv) (ta : Option Addr) (tc : Nat) (ka : Option Addr) (kc : Nat) (ho : 0 ≤ f.opq ∧ f.opq < 4294967296) (ht : Su W ta f.toks.length tc f.toks) (hk : Su W ka f.keys.length kc f.keys) (x : Rv) (va : Option Addr) (vc : Nat) (hxo : x.ok) (hv : Bu W va x.val.length vc x.val) (key : ByteArray) (hkey : key.size ≤ 140737488351232) :
    Calls Try.prog 7 #[.agg (fmC f ta tc ka kc), .agg (rsC x va vc), .string key] W fun e W' => e = .returned (.bool true) ∧ Below W.heap.size W W' := binoutLong_lib bo_lib W f ta tc ka kc ho ht hk x va vc hxo hv key hkey
end Go.Proofs.Ytaafkefgpgoepaa
