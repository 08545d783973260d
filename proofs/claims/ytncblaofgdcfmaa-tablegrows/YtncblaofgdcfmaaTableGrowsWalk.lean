/- TableGrows returns true for every seed and any three numbers, and writes nothing that was there. Conditions: the contracts of package table. -/
import Derived.Test.YtncblaofgdcfmaaTableGrowsIn
namespace Go.Proofs.Ytncblaofgdcfmaa
open Go.RowKit Go.Shelf
variable {Tb : World → Nat → (Nat → Prop) → Ts → Prop}

set_option maxRecDepth 100000 in
set_option maxHeartbeats 2000000 in
theorem tableGrows_out (L : TableLib Tb) (sd : Nat) (hd : sd < 18446744073709551616) (n step keep : Int) (hn : ¬ ((1 ≤ n ∧ n ≤ 1500) ∧ (1 ≤ step ∧ step ≤ 1500) ∧ (1 ≤ keep ∧ keep ≤ 100))) (w : World) :
    Calls Try.prog 4 #[.int .u64 sd, .int .i64 n, .int .i64 step, .int .i64 keep] w fun e w' => e = .returned (.bool true) ∧ Below w.heap.size w w' := by
  have hB : Below w.heap.size w w := Below.refl _ _
  have h' : n < 1 ∨ (1 ≤ n ∧ 1500 < n) ∨ (1 ≤ n ∧ n ≤ 1500 ∧ step < 1) ∨ (1 ≤ n ∧ n ≤ 1500 ∧ 1 ≤ step ∧ 1500 < step) ∨ (1 ≤ n ∧ n ≤ 1500 ∧ 1 ≤ step ∧ step ≤ 1500 ∧ keep < 1) ∨ (1 ≤ n ∧ n ≤ 1500 ∧ 1 ≤ step ∧ step ≤ 1500 ∧ 1 ≤ keep ∧ 100 < keep) := by omega
  clear hn
  rcases h' with h1 | ⟨h1, h2⟩ | ⟨h1, h2, h3⟩ | ⟨h1, h2, h3, h4⟩ | ⟨h1, h2, h3, h4, h5⟩ | ⟨h1, h2, h3, h4, h5, h6⟩
  all_goals
    go_enter Try.func4, Try.ntmps4
    go_wp2_with (first
      | (go_at_call 8; refine (awake_any L _).mono ?_; rintro e w1 ⟨rfl, hb⟩; replace hB := Bt hB hb; clear hb)
      | (go_at_call 10; refine (new_is L (Law.ofBelow hB) sd hd).mono ?_; clear hB; rintro e w3 ⟨b, own, rfl, H⟩; have hB := H.below))
    go_ret
    exact ⟨rfl, hB⟩
theorem tableGrows_walk (L : TableLib Tb) (a0 : Int) (w0 : (Lit.int .u64 a0).wf = true) (a1 : Int) (_w1 : (Lit.int .i64 a1).wf = true) (a2 : Int) (_w2 : (Lit.int .i64 a2).wf = true) (a3 : Int) (_w3 : (Lit.int .i64 a3).wf = true) (W : World) :
    Calls Try.prog 4 #[.int .u64 a0, .int .i64 a1, .int .i64 a2, .int .i64 a3] W fun e W' => e = .returned (.bool true) ∧ Below W.heap.size W W' := by
  obtain ⟨h0, h1⟩ := u64_wf w0
  obtain ⟨sd, rfl⟩ := Int.eq_ofNat_of_zero_le h0
  by_cases h : (1 ≤ a1 ∧ a1 ≤ 1500) ∧ (1 ≤ a2 ∧ a2 ≤ 1500) ∧ (1 ≤ a3 ∧ a3 ≤ 100)
  · obtain ⟨n, rfl⟩ := Int.eq_ofNat_of_zero_le (show 0 ≤ a1 by omega)
    obtain ⟨step, rfl⟩ := Int.eq_ofNat_of_zero_le (show 0 ≤ a2 by omega)
    obtain ⟨keep, rfl⟩ := Int.eq_ofNat_of_zero_le (show 0 ≤ a3 by omega)
    exact tableGrows_in L sd (by omega) n step keep (by omega) (by omega) (by omega) (by omega) (by omega) (by omega) W
  · exact tableGrows_out L sd (by omega) a1 a2 a3 h W
end Go.Proofs.Ytncblaofgdcfmaa
