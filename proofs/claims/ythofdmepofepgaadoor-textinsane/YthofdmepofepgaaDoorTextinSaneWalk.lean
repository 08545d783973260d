/- TextinSane returns true for every row of bytes, and writes nothing that was there. Conditions: the listed variables hold what the program's text lays. -/
import Derived.Test.YthofdmepofepgaaDoorTextSaneC
namespace Go.Proofs.YthofdmepofepgaaDoor
open Go.RowKit

theorem textinSane_walk (W : World) (a0 : Option Addr) (len0 cap0 : Nat) (z0 : List Int) (w0 : IsRow .u8 W a0 len0 cap0 z0) (hL : Laid W) :
    Calls Tryd.prog 3 #[.slice a0 len0 cap0] W fun e W' => e = .returned (.bool true) ∧ Below W.heap.size W W' := by
  obtain ⟨u, hu⟩ := Bu.of w0
  by_cases h : 5000 < len0
  · exact sane_far hL h
  · have hs := sane_ways u
    rw [hu.n] at hs
    rcases hs with hm | ⟨f, used, skip, line, hm, h1, h2, h3, h4, h5⟩ | ⟨r, used, hm, h3, h4, h5, h6, h7⟩
    · exact sane_more hL hu (by omega) hm
    · exact sane_error f used skip line h1 h2 h3 h4 h5 hL hu (by omega) hm
    · exact sane_ok r used h3 h4 h5 h6 h7 hL hu (by omega) hm
end Go.Proofs.YthofdmepofepgaaDoor
