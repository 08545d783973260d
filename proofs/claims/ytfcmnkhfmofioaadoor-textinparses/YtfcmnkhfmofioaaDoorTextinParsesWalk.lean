/- TextinParses returns true for every row of bytes, and writes nothing that was there. Conditions: the listed variables hold what the program's text lays. -/
import Derived.Test.YtfcmnkhfmofioaaDoorG12Joined
import Derived.Test.YtfcmnkhfmofioaaDoorRef14Z
import Derived.Test.YtfcmnkhfmofioaaDoorTextMoreM
namespace Go.Proofs.YtfcmnkhfmofioaaDoor
set_option linter.unusedVariables false
open Go.RowKit

theorem own_one {n0 n c : Nat} {w : World} {a : Option Addr} {u : List UInt8} (hu : u.length = n) (h : w.ownsRow n0 5 1 (.slice a n c) n ([] ++ byU u)) : Bu w a n c u := by
  have q : ValAt n0 w a c u := by
    unfold ValAt
    rw [hu]
    exact h
  have := q.bu
  rw [hu] at this
  exact this
section
variable {W : World} {a : Option Addr} {len cap : Nat} {u : List UInt8}
theorem convP {w : World} {a : Option Addr} {n c : Nat} {l : List UInt8} (h : Bu w a n c l) : (convert 22 9 (.slice a n c)).run Tryd.prog w = .ok (.string (strOf (ints l))) w := conv_bs h.b
set_option maxRecDepth 100000 in
set_option maxHeartbeats 4000000 in
theorem parses_in (hL : Laid W) (hu : Bu W a len cap u) (hl : len ≤ 5000) : Calls Tryd.prog 3 #[.slice a len cap] W fun e W' => e = .returned (.bool true) ∧ Below W.heap.size W W' := by
  have hli : (len : Int) ≤ 5000 := by omega
  have HN := hide hu.n
  have HU := hide (fun (w : World) (h : Below W.heap.size W w) => hu.on h)
  have HP := hide (fun (w : World) (a3 : Option Addr) (c3 : Nat) (h : Below W.heap.size W w) (hb : Bu w a3 len c3 u) => parse_any (hL.on h) hb (by omega))
  have HP2 := hide (fun (w : World) (h : Below W.heap.size W w) => rparse_any (hu.on h) hl)
  have hf : Few1 (parseN u).req := by
    rcases more_ways u [] (by rw [hu.n]; exact hl) with m1 | ⟨_, _, hf⟩ | ⟨m, b, m1, m2⟩
    · rw [m1]; exact few_no
    · exact hf
    · rw [m1]; exact few_no
  generalize parseN u = s1 at *
  have HS := hide (fun (w : World) (cs ds : Array Value) (h1 : StepAt w s1 cs) (h2 : StepAt w s1 ds) => steps_eq hf h1 h2)
  clear hf hu hl
  go_enter Tryd.func3, Tryd.ntmps3
  go_wp2_with (first
    | (go_at_call 5; refine (awake_any hL).mono ?_; rintro e w1 ⟨rfl, g1⟩; have B1 := hide (below_gr g1); clear g1)
    | (have t := B1; clear t; at_builtin; refine wpList_append_bs rfl _ _ rfl w1.heap.size _ 0 [] rfl (World.ownsRow_nil _ _ _ _) _ len cap u rfl HN.out (HU.out _ B1.out).b (by omega) (Nat.le_refl _) ?_; intro v3 w3 o3 g3 _; rw [Nat.zero_add] at o3; obtain ⟨a3, c3, rfl⟩ := own_shape o3; have O3 := hide (own_one HN.out o3); have B3 := hide (Bt B1.out (below_gr g3)); clear o3 g3 B1)
    | (go_at_call 7; refine (HP.out _ _ _ B3.out O3.out).mono ?_; rintro e w4 ⟨ca, cc, ta, tc, ka, kc, rfl, q1, g4⟩; replace q1 := hide q1; replace g4 := hide g4; have B4 := hide (Bt B3.out (below_gr g4.out)))
    | (go_at_call 8; refine (HP2.out _ B4.out).mono ?_; rintro e w5 ⟨cb, cd, tb, td, kb, kd, rfl, q2, g5⟩; have ST := hide (HS.out w5 _ _ ⟨_, _, _, _, _, _, rfl, q1.out w5 (fun k hk hk2 => g5.block k hk2 (by simp)) g5.size⟩ ⟨_, _, _, _, _, _, rfl, q2 w5 (fun k hk hk2 => rfl) (Nat.le_refl _)⟩); replace g5 := hide (gr_trans g4.out g5); clear q1 q2)
    | (go_at_call 6; refine ST.out.mono ?_; rintro e w9 ⟨rfl, g9⟩; have g10 := gr_trans g5.out g9; have BB := hide (Bt B3.out (below_gr g10)); have k1 := convP (O3.out.on (below_gr g10)); have k2 := convP (HU.out _ BB.out); clear g10 g9))
  go_ret
  exact ⟨rfl, BB.out⟩
set_option maxRecDepth 100000 in
set_option maxHeartbeats 1000000 in
theorem parses_far (hL : Laid W) (h : 5000 < len) : Calls Tryd.prog 3 #[.slice a len cap] W fun e W' => e = .returned (.bool true) ∧ Below W.heap.size W W' := by
  have hsi : (5000 : Int) < (len : Int) := by omega
  clear h
  go_enter Tryd.func3, Tryd.ntmps3
  go_wp2_with (go_at_call 5; refine (awake_any hL).mono ?_; rintro e w1 ⟨rfl, g1⟩; replace g1 := hide g1)
  go_ret
  exact ⟨rfl, below_gr g1.out⟩
end
theorem textinParses_walk (W : World) (a0 : Option Addr) (len0 cap0 : Nat) (z0 : List Int) (w0 : IsRow .u8 W a0 len0 cap0 z0) (hL : Laid W) :
    Calls Tryd.prog 3 #[.slice a0 len0 cap0] W fun e W' => e = .returned (.bool true) ∧ Below W.heap.size W W' := by
  obtain ⟨u, hu⟩ := Bu.of w0
  by_cases h : 5000 < len0
  · exact parses_far hL h
  · exact parses_in hL hu (by omega)
end Go.Proofs.YtfcmnkhfmofioaaDoor
