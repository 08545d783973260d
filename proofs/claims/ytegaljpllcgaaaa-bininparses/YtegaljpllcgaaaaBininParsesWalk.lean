/- BininParses returns true for every row of bytes, and writes nothing that was there. Conditions: none. -/
import Derived.Test.YtegaljpllcgaaaaBinTwo
import Derived.Test.YtegaljpllcgaaaaBinRZ
namespace Go.Proofs.Ytegaljpllcgaaaa
set_option linter.unusedVariables false
open Go.RowKit

section
variable {W : World} {a : Option Addr} {len cap : Nat} {u : List UInt8}
theorem rcall {w : World} {s : Sv} (h : Bu w a len cap u) (hs : parse16 u = s) : Calls Try.prog 12 #[.slice a len cap] w fun e w' => ∃ ca cc ta tc ka kc, e = .returned (.agg (stC s ca cc ta tc ka kc)) ∧ QAt w' s.req ca cc ta tc ka kc ∧ w.grownBy w' none := by
  refine Calls.mono (rbin_any h) fun e w' h => ?_
  obtain ⟨cs, h1, ⟨ca, cc, ta, tc, ka, kc, h2, h3⟩, h4⟩ := h
  subst hs h2
  exact ⟨ca, cc, ta, tc, ka, kc, h1, h3, h4⟩
set_option maxRecDepth 100000 in
set_option maxHeartbeats 4000000 in
theorem parses_in {s : Sv} (hu : Bu W a len cap u) (hl : len ≤ 5000) (hs : parse16 u = s) (hf : Few1 s.req) : Calls Try.prog 3 #[.slice a len cap] W fun e W' => e = .returned (.bool true) ∧ Below W.heap.size W W' := by
  have hli : (len : Int) ≤ 5000 := by omega
  have HN := hide hu.n
  have HU := hide (fun (w : World) (h : Below W.heap.size W w) => hu.on h)
  have HP := hide (fun (w : World) (a3 : Option Addr) (c3 : Nat) (hb : Bu w a3 len c3 u) => pcall (gr_refl w none) hb (by omega) hs)
  have HP2 := hide (fun (w : World) (h : Below W.heap.size W w) => rcall (hu.on h) hs)
  have HS := hide (fun (w : World) (cs ds : Array Value) (h1 : StepAt w s cs) (h2 : StepAt w s ds) => steps_eq hf h1 h2)
  clear hf hu hl hs
  go_enter Try.func3, Try.ntmps3
  go_wp2_with (first
    | (go_at_call 9; refine awake_any.mono ?_; rintro e w1 ⟨rfl, g1⟩; have B1 := hide (below_gr g1); clear g1)
    | (have t := B1; clear t; at_builtin; refine wpList_append_bs rfl _ _ rfl w1.heap.size _ 0 [] rfl (World.ownsRow_nil _ _ _ _) _ len cap u rfl HN.out (HU.out _ B1.out).b (by omega) (Nat.le_refl _) ?_; intro v3 w3 o3 g3 _; rw [Nat.zero_add] at o3; obtain ⟨a3, c3, rfl⟩ := own_shape o3; have O3 := hide (own_one HN.out o3); have B3 := hide (Bt B1.out (below_gr g3)); clear o3 g3 B1)
    | (go_at_call 11; refine (HP.out _ _ _ O3.out).mono ?_; rintro e w4 ⟨ca, cc, ta, tc, ka, kc, rfl, q1, g4⟩; replace q1 := hide q1; replace g4 := hide g4; have B4 := hide (Bt B3.out (below_gr g4.out)))
    | (go_at_call 12; refine (HP2.out _ B4.out).mono ?_; rintro e w5 ⟨cb, cd, tb, td, kb, kd, rfl, q2, g5⟩; have ST := hide (HS.out w5 _ _ ⟨_, _, _, _, _, _, rfl, q1.out.on (below_gr g5)⟩ ⟨_, _, _, _, _, _, rfl, q2⟩); replace g5 := hide (gr_trans g4.out g5); clear q1 q2)
    | (go_at_call 10; refine ST.out.mono ?_; rintro e w9 ⟨rfl, g9⟩; have g10 := gr_trans g5.out g9; have BB := hide (Bt B3.out (below_gr g10)); have k1 := convU (O3.out.on (below_gr g10)); have k2 := convU (HU.out _ BB.out); clear g10 g9))
  go_ret
  exact ⟨by first | rfl | (simp; done), BB.out⟩
set_option maxRecDepth 100000 in
set_option maxHeartbeats 1000000 in
theorem parses_far (h : 5000 < len) : Calls Try.prog 3 #[.slice a len cap] W fun e W' => e = .returned (.bool true) ∧ Below W.heap.size W W' := by
  have hsi : (5000 : Int) < (len : Int) := by omega
  clear h
  go_enter Try.func3, Try.ntmps3
  go_wp2_with (go_at_call 9; refine awake_any.mono ?_; rintro e w1 ⟨rfl, g1⟩; replace g1 := hide g1)
  go_ret
  exact ⟨rfl, below_gr g1.out⟩
end
theorem bininParses_walk (W : World) (a0 : Option Addr) (len0 cap0 : Nat) (z0 : List Int) (w0 : IsRow .u8 W a0 len0 cap0 z0) :
    Calls Try.prog 3 #[.slice a0 len0 cap0] W fun e W' => e = .returned (.bool true) ∧ Below W.heap.size W W' := by
  obtain ⟨u, hu⟩ := Bu.of w0
  by_cases h : 5000 < len0
  · exact parses_far h
  · exact parses_in hu (by omega) rfl (few16 u).1
end Go.Proofs.Ytegaljpllcgaaaa
