/- Rows of texts. Conditions: none. -/
import Derived.Test.YtgekjakihocgnaaDoorG00Joined
import Derived.Test.YtgekjakihocgnaaDoorG27Joined
namespace Go.Proofs.YtgekjakihocgnaaDoor
open Go.RowKit Go.Shelf

theorem info_str : (Tryd.prog.info? 9).map (fun i => (i.zero, i.size, i.bytes)) = some (some (.string ⟨#[]⟩), 1, 16) := by kernel_rfl
/-- Texts as cells. -/
def strV (xs : List ByteArray) : List Value := xs.map Value.string
theorem strV_len (xs : List ByteArray) : (strV xs).length = xs.length := List.length_map _
theorem strV_app (xs : List ByteArray) (x : ByteArray) : strV (xs ++ [x]) = strV xs ++ [.string x] := by simp [strV]
end Go.Proofs.YtgekjakihocgnaaDoor
