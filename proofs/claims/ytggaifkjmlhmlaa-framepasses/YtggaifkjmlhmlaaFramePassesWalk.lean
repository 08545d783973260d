/- FramePasses returns true for every bytes, every number and either bool, and writes nothing that was there. Conditions: none. -/
import Derived.Test.YtggaifkjmlhmlaaFrameAw
import Derived.Test.YtggaifkjmlhmlaaFrameRefP
namespace Go.Proofs.Ytggaifkjmlhmlaa
open Go.RowKit

theorem passN_b (l : List UInt8) (s : Int) (b : Bool) : 0 ≤ (passN l s b).1 ∧ (passN l s b).1 ≤ l.length := by
  unfold passN
  have hf := feedI_lt (l.drop (if s < 0 then 0 else s).toNat)
  rw [List.length_drop] at hf
  have hs : 0 ≤ (if s < 0 then 0 else s) := by split <;> omega
  generalize (if s < 0 then 0 else s) = t at *
  simp only
  split
  · simp
  · split
    · simp; omega
    · split
      · simp
      · simp; omega
set_option maxRecDepth 100000 in
set_option maxHeartbeats 1000000 in
theorem framePasses_walk (W : World) (a0 : Option Addr) (len0 cap0 : Nat) (z0 : List Int) (w0 : IsRow .u8 W a0 len0 cap0 z0) (a1 : Int) (w1 : (Lit.int .i64 a1).wf = true) (a2 : Bool) :
    Calls Try.prog 5 #[.slice a0 len0 cap0, .int .i64 a1, .bool a2] W fun e W' => e = .returned (.bool true) ∧ Below W.heap.size W W' := by
  obtain ⟨u, hu⟩ := Bu.of w0
  by_cases hl : len0 ≤ 5000
  · have hs := (i64_wf w1).2
    have hB := passN_b u a1 a2
    rw [hu.n] at hB
    have H1 := hide (fun (w : World) (h : Below W.heap.size W w) => pass_any (hu.on h) a1 hs a2)
    have H2 := hide (fun (w : World) (h : Below W.heap.size W w) => rpass_any (hu.on h) (by omega) a1 hs a2)
    have hli : (len0 : Int) ≤ 5000 := by omega
    generalize passN u a1 a2 = x at *
    obtain ⟨x1, x2, x3⟩ := x
    obtain ⟨b1, b2⟩ := hB
    simp only [passV] at *
    clear hu w0 w1 hs
    go_enter Try.func5, Try.ntmps5
    go_wp2_with (first
      | (go_at_call 9; refine (awake_any _).mono ?_; rintro e w1 ⟨rfl, g1⟩; have B1 := hide (below_gr g1); clear g1)
      | (go_at_call 18; refine (H1.out _ B1.out).mono ?_; rintro e w2 ⟨rfl, rfl⟩)
      | (go_at_call 19; refine (H2.out _ B1.out).mono ?_; rintro e w2 ⟨rfl, rfl⟩))
    all_goals go_ret
    all_goals exact ⟨by first | rfl | (simp; omega), B1.out⟩
  · have hli : (5000 : Int) < (len0 : Int) := by omega
    clear hu
    go_enter Try.func5, Try.ntmps5
    go_wp2_with (go_at_call 9; refine (awake_any _).mono ?_; rintro e w1 ⟨rfl, g1⟩)
    go_ret
    exact ⟨rfl, below_gr g1⟩
end Go.Proofs.Ytggaifkjmlhmlaa
