/- Same of package butteryref12. Conditions: none. -/
import Derived.Test.YthfkcbnabnmnjaaGreatDoorG53Joined
namespace Go.Proofs.YthfkcbnabnmnjaaGreatDoor
set_option linter.unusedVariables false
open Go.RowKit Go.Shelf Go.Sort

set_option maxRecDepth 100000 in
set_option maxHeartbeats 8000000 in
/-- Two results that say the same. -/
theorem same12_any {w : World} {r : Rv} {a a' : Option Addr} {k k' : Nat} (hb : Bs w a r.val.length k (ints r.val)) (hb' : Bs w a' r.val.length k' (ints r.val)) :
    Calls Tryz.prog 13 #[.agg (rsC r a k), .agg (rsC r a' k')] w fun e w' => e = .returned (.bool true) ∧ w.grownBy w' none := by
  have H0 := ((Law.start w).box (.cells (rsC r a k) 40)).box (.cells (rsC r a' k') 40)
  rw [World.size_alloc] at H0
  obtain ⟨x0, x1, x2, x3, x4, x5, x6, x7, x8⟩ := rs_cells H0.right.q.1
  obtain ⟨y0, y1, y2, y3, y4, y5, y6, y7, y8⟩ := rs_cells H0.q.1
  have h1 := conv_bs (hb.on H0.below)
  have h2 := conv_bs (hb'.on H0.below)
  generalize strOf (ints r.val) = s at h1 h2
  have hg := below_gr' H0.below
  clear H0 hb hb'
  obtain ⟨rs, rv, rf, rc, rt, rn, rst, rw_, rl⟩ := r
  dsimp only at x0 x1 x2 x3 x4 x5 x6 x7 x8 y0 y1 y2 y3 y4 y5 y6 y7 y8 h1 h2
  generalize rv.length = n at *
  go_enter Tryz.func13, Tryz.ntmps13
  go_wp2
  go_ret
  exact ⟨by simp, hg⟩
end Go.Proofs.YthfkcbnabnmnjaaGreatDoor
