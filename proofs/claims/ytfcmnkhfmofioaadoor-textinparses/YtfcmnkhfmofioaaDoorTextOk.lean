/- A request's step of the text dialect, as cells. Conditions: none. -/
import Derived.Test.YtfcmnkhfmofioaaDoorG09Joined
namespace Go.Proofs.YtfcmnkhfmofioaaDoor
set_option linter.unusedVariables false
open Go.RowKit

def okS (d : Dv) (used : Int) : Sv := ⟨reqD d, ⟨#[]⟩, used, 0, false, 0⟩
section
variable {wB w : World} {n0 D : Nat} {d : Dv} {a va : Option Addr} {c vc : Nat}
theorem ok_cells {n : Nat} (hn : (reqD d).cmds.length = n) (u : Int) (ca : Option Addr) (cc : Nat) : stC (okS d u) ca cc none 0 a c = #[.slice ca n cc, .int .i64 d.dia, .string (mkB d.verb), .int .i64 0, .int .u32 0, .bool d.quiet, .bool d.wcas, .string ⟨#[]⟩, .slice none 0 0, .slice a d.keys.length c, .bool false, .string ⟨#[]⟩, .int .i64 u, .int .i64 0, .bool false, .int .i64 0] := by
  have e : (reqD d).form.keys.length = d.keys.length := List.length_map _
  show #[Value.slice ca (reqD d).cmds.length cc, _, _, _, _, _, _, _, _, Value.slice a (reqD d).form.keys.length c, _, _, _, _, _, _] = _
  rw [hn, e]
  rfl
end
end Go.Proofs.YtfcmnkhfmofioaaDoor
