/- The contracts of package tiny, of the program as it stands. Conditions: none. -/
import Derived.Test.YtpjmhiokhoplmaaTinyInst
import Derived.Test.YtpjmhiokhoplmaaBloomInst
import Derived.Test.YtpjmhiokhoplmaaSketchInst
namespace Go.Proofs.Ytpjmhiokhoplmaa
theorem tiny_lib : TinyLib (Jd0 Fil0 Sk0) := tiny_of bloom_lib sketch_lib
end Go.Proofs.Ytpjmhiokhoplmaa
