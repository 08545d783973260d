/- FramePieces returns true for every bytes, every two numbers and either bool, and writes nothing that was there. Conditions: none. -/
import Derived.Test.YtggaifkjmlhmlaaFrameAw
import Derived.Test.YtggaifkjmlhmlaaFramePiecesM
namespace Go.Proofs.Ytggaifkjmlhmlaa
open Go.RowKit

set_option maxRecDepth 100000 in
set_option maxHeartbeats 1000000 in
theorem framePieces_in {W : World} {a : Option Addr} {len cap : Nat} {u : List UInt8} (hu : Bu W a len cap u) (hl : len ≤ 5000) (c : Nat) (hc : c ≤ len) (s : Int) (hs : s < 9223372036854775808) (b : Bool) :
    Calls Try.prog 6 #[.slice a len cap, .int .i64 (c : Int), .int .i64 s, .bool b] W fun e W' => e = .returned (.bool true) ∧ Below W.heap.size W W' := by
  have hcap := hu.c
  have hn := hu.n
  have hli : (len : Int) ≤ 5000 := by omega
  have hci : (c : Int) ≤ (len : Int) := by omega
  have hcn : ¬ (c : Int) < 0 := by omega
  have hcc : (c : Int) ≤ (cap : Int) := by omega
  have hF := fun (w : World) (h : Below W.heap.size W w) => (hu.on h).front (j := c) (c := cap) hc (by omega) (Nat.le_refl _)
  obtain ⟨a', hsl, hb⟩ := hu.back (i := c) hc
  have hs1 : ∀ W : World, (Instr.sliceAt 22 (.slice a len cap) none (some (.int .i64 (c : Int))) none).run Try.prog W = .ok (.slice a c cap) W := fun W => by
    cases a <;> go_simp
  have H1 := hide (fun (w : World) (h : Below W.heap.size W w) => pass_any (hu.on h) s hs b)
  have H2 := hide (fun (w : World) (h : Below W.heap.size W w) => pass_any (hF w h) s hs b)
  have hlen : (u.take c).length = c := by rw [List.length_take, hn]; omega
  have hlf := passN_left (u.take c) hs b
  have H3 := hide (fun (w : World) (h : Below W.heap.size W w) => pass_any (hb w (hu.on h)) (passN (u.take c) s b).2.1 hlf.2 (passN (u.take c) s b).2.2)
  have hfew := @pieces_few (u.take c) (u.drop c) s b
  have hall := @pieces_all (u.take c) (u.drop c) s b
  have hbl := passN_bo (u.drop c) (passN (u.take c) s b).2.1 (passN (u.take c) s b).2.2
  have hbf := passN_bo (u.take c) s b
  rw [List.take_append_drop, hlen] at hfew hall
  rw [List.length_drop, hn] at hbl
  rw [hlen] at hbf
  generalize hz : passN (u.drop c) (passN (u.take c) s b).2.1 (passN (u.take c) s b).2.2 = z at *
  generalize passN (u.take c) s b = y at *
  generalize passN u s b = x at *
  clear hz
  obtain ⟨x1, x2, x3⟩ := x
  obtain ⟨y1, y2, y3⟩ := y
  obtain ⟨z1, z2, z3⟩ := z
  simp only [passV] at *
  clear hu hF hb hlen hlf hn hcap hl hc hs
  by_cases hq : y1 < (c : Int)
  · obtain ⟨rfl, rfl, rfl, rfl, rfl⟩ := hfew hq
    clear hall hbl hbf H3 hsl
    go_enter Try.func6, Try.ntmps6
    go_wp2_with (first
      | (go_at_call 9; refine (awake_any _).mono ?_; rintro e w1 ⟨rfl, g1⟩; have B1 := hide (below_gr g1); clear g1)
      | (have t := H1; clear t; go_at_call 18; refine (H1.out _ B1.out).mono ?_; rintro e w2 ⟨rfl, rfl⟩; clear H1)
      | (have t := H2; clear t; go_at_call 18; refine (H2.out _ B1.out).mono ?_; rintro e w2 ⟨rfl, rfl⟩; clear H2))
    all_goals go_ret
    all_goals exact ⟨by first | rfl | (simp; done), B1.out⟩
  · obtain ⟨e1, e2⟩ := hall hq
    obtain ⟨rfl, rfl⟩ := Prod.mk.inj e2
    have e3 : wrap64 (y1 + z1) = x1 := by rw [e1]; unfold wrap64; omega
    clear e2 hfew hall hbl hbf e1
    go_enter Try.func6, Try.ntmps6
    go_wp2_with (first
      | (go_at_call 9; refine (awake_any _).mono ?_; rintro e w1 ⟨rfl, g1⟩; have B1 := hide (below_gr g1); clear g1)
      | (have t := H1; clear t; go_at_call 18; refine (H1.out _ B1.out).mono ?_; rintro e w2 ⟨rfl, rfl⟩; clear H1)
      | (have t := H2; clear t; go_at_call 18; refine (H2.out _ B1.out).mono ?_; rintro e w2 ⟨rfl, rfl⟩; clear H2)
      | (have t := H3; clear t; go_at_call 18; refine (H3.out _ B1.out).mono ?_; rintro e w2 ⟨rfl, rfl⟩; clear H3))
    all_goals go_ret
    all_goals exact ⟨by first | rfl | (simp [e3]; done), B1.out⟩
set_option maxRecDepth 100000 in
set_option maxHeartbeats 1000000 in
theorem framePieces_walk (W : World) (a0 : Option Addr) (len0 cap0 : Nat) (z0 : List Int) (w0 : IsRow .u8 W a0 len0 cap0 z0) (a1 : Int) (_w1 : (Lit.int .i64 a1).wf = true) (a2 : Int) (w2 : (Lit.int .i64 a2).wf = true) (a3 : Bool) :
    Calls Try.prog 6 #[.slice a0 len0 cap0, .int .i64 a1, .int .i64 a2, .bool a3] W fun e W' => e = .returned (.bool true) ∧ Below W.heap.size W W' := by
  obtain ⟨u, hu⟩ := Bu.of w0
  by_cases hl : len0 ≤ 5000
  · by_cases h0 : a1 < 0
    · have hli : (len0 : Int) ≤ 5000 := by omega
      go_enter Try.func6, Try.ntmps6
      go_wp2_with (go_at_call 9; refine (awake_any _).mono ?_; rintro e w1 ⟨rfl, g1⟩)
      go_ret
      exact ⟨rfl, below_gr g1⟩
    · by_cases h1 : (len0 : Int) < a1
      · have hli : (len0 : Int) ≤ 5000 := by omega
        go_enter Try.func6, Try.ntmps6
        go_wp2_with (go_at_call 9; refine (awake_any _).mono ?_; rintro e w1 ⟨rfl, g1⟩)
        go_ret
        exact ⟨rfl, below_gr g1⟩
      · obtain ⟨c, rfl⟩ := Int.eq_ofNat_of_zero_le (show 0 ≤ a1 by omega)
        exact framePieces_in hu hl c (by omega) a2 (i64_wf w2).2 a3
  · have hli : (5000 : Int) < (len0 : Int) := by omega
    go_enter Try.func6, Try.ntmps6
    go_wp2_with (go_at_call 9; refine (awake_any _).mono ?_; rintro e w1 ⟨rfl, g1⟩)
    go_ret
    exact ⟨rfl, below_gr g1⟩
end Go.Proofs.Ytggaifkjmlhmlaa
