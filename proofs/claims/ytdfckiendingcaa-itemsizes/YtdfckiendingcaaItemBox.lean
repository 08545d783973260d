/- An item and an env in boxes of a statement's own. Conditions: none. -/
import Derived.Test.YtdfckiendingcaaItemM
import Derived.Test.YtdfckiendingcaaPartsF
namespace Go.Proofs.Ytdfckiendingcaa
open Go.RowKit Go.Sort

abbrev ItB (k : Nat) (i : It) : Part := boxP k (.cells (itC i) 26)
abbrev EnB (k : Nat) (e : En) : Part := boxP k (.cells (enC e) 34)
abbrev Own0 : Nat → Prop := fun _ => False
theorem own0_below {w W : World} {A : Part} (H : LawF Own0 w W A) : RowKit.Below w.heap.size w W := below_gr (H.gr.to fun _ h => h.elim)
theorem two_boxes (w : World) (i : It) (e : En) : LawF Own0 w ((w.alloc (.cells (itC i) 26)).alloc (.cells (enC e) 34)) ((EnB (w.heap.size + 1) e).and ((ItB w.heap.size i).and Part.emp)) := by
  have h := ((LawF.bare w).box (.cells (itC i) 26)).box (.cells (enC e) 34)
  rwa [World.size_alloc] at h
theorem it_exp (i : It) (x : Int) : (itC i).setIfInBounds 3 (.int .i64 x) = itC { i with exp := x } := by simp [itC]
/-- The item's end is stored anew. -/
theorem set_exp {F : Nat → Prop} {w0 w : World} {k : Nat} {i : It} {R : Part} (H : LawF F w0 w ((ItB k i).and R)) (x : Int) : LawF F w0 (w.setCell ⟨k, 3, none⟩ (.int .i64 x)) ((ItB k { i with exp := x }).and R) := by
  have h := H.setAt 3 (.int .i64 x)
  rwa [it_exp] at h
end Go.Proofs.Ytdfckiendingcaa
