/- The statement ItemTimes. Conditions: the contracts of package item. -/
import Derived.Test.YtdfckiendingcaaItemAwake
import Derived.Shelf.SlSortCmp.QuietGrown
import Derived.Deep.CutBlock
import Derived.Deep.CutRange
import Derived.Deep.QuietTactic
import Derived.BigQuiet
namespace Go.Proofs.Ytdfckiendingcaa
open Go.RowKit Go.Sort

set_option maxRecDepth 100000 in
set_option maxHeartbeats 8000000 in
theorem itemTimes_walk (L : ItemLib) (i : It) (hi : i.ok) (exp : Int) (_hx : (Lit.int .i64 exp).wf = true) (now : Int) (hnw : (Lit.int .i64 now).wf = true) (w : World) :
    Calls Try.prog 3 #[.agg (itC i), .int .i64 exp, .int .i64 now] w fun e w' => e = .returned (.bool true) ∧ Below w.heap.size w w' := by
  have mixed : Try.prog.follows .mixedOrders = true := by kernel_rfl
  have HA := hide (fun W => awake_is L W)
  have B0 : (w.alloc (.cells (itC i) 26)).heap[w.heap.size]? = some (.cells (itC i) 26) := heap_alloc_new w _
  have G0 := Gd.alloc w (.cells (itC i) 26)
  have hn64 := i64_wf hnw
  by_cases ht : T40 exp ∧ N41 now
  · have HT := hide (fun W => times_yes exp now ht W)
    have A1 := hide (fun W => L.at_ exp now ht.1 ht.2 W)
    have A2 := hide (fun W => (refAt_any exp now ht.1 ht.2 W).mono fun e w' h => (⟨h.1, by rw [h.2]; exact Gd.refl _⟩ : _ ∧ Gd W w'))
    have T1 := hide (fun W => L.ttl i now hi ⟨hn64.1, hn64.2⟩ W)
    have T2 := hide (fun W => refTTL_any i now W)
    have S1 := hide (fun W h1 h2 => L.size i W h1 h2)
    have S2 := hide (fun W h1 h2 => refSize_any i W h1 h2)
    generalize atN exp now = r1 at *
    generalize ttlN i.exp now = r2 at *
    generalize (50 + (i.key.size : Nat) + (i.vl : Nat) : Int) = r3 at *
    clear L hi hnw ht hn64
    obtain ⟨key, va, vl, vc, fl, ex, cas, sec, seq, st, won, seen⟩ := i
    by_cases h1 : ex < 0
    · unfold itC at *
      dsimp only at *
      go_enter Try.func3, Try.ntmps3
      go_wp2_with (first
        | (go_at_call 9; refine (HA.out _).mono ?_; rintro e w1 ⟨rfl, g1⟩; have G1 := hide (G0.trans g1); have B1 := heap_grown0 g1.grown B0; obtain ⟨c0, c1, c2, c3, c4, c5, c6, c7, c8, c9⟩ := it_cells (i := ⟨key, va, vl, vc, fl, ex, cas, sec, seq, st, won, seen⟩) B1)
        | (go_at_call 10; refine (HT.out _).mono ?_; rintro e w2 ⟨rfl, rfl⟩))
      go_ret
      exact ⟨rfl, G1.out.below⟩
    · by_cases h2 : 1000 < key.size
      · have k1 : (1000 : Int) < (key.size : Int) := by omega
        unfold itC at *
        dsimp only at *
        go_enter Try.func3, Try.ntmps3
        go_wp2_with (first
          | (go_at_call 9; refine (HA.out _).mono ?_; rintro e w1 ⟨rfl, g1⟩; have G1 := hide (G0.trans g1); have B1 := heap_grown0 g1.grown B0; obtain ⟨c0, c1, c2, c3, c4, c5, c6, c7, c8, c9⟩ := it_cells (i := ⟨key, va, vl, vc, fl, ex, cas, sec, seq, st, won, seen⟩) B1)
          | (go_at_call 10; refine (HT.out _).mono ?_; rintro e w2 ⟨rfl, rfl⟩))
        go_ret
        exact ⟨rfl, G1.out.below⟩
      · by_cases h3 : 5000 < vl
        · have k1 : ¬ (1000 : Int) < (key.size : Int) := by omega
          have k2 : (5000 : Int) < (vl : Int) := by omega
          unfold itC at *
          dsimp only at *
          go_enter Try.func3, Try.ntmps3
          go_wp2_with (first
            | (go_at_call 9; refine (HA.out _).mono ?_; rintro e w1 ⟨rfl, g1⟩; have G1 := hide (G0.trans g1); have B1 := heap_grown0 g1.grown B0; obtain ⟨c0, c1, c2, c3, c4, c5, c6, c7, c8, c9⟩ := it_cells (i := ⟨key, va, vl, vc, fl, ex, cas, sec, seq, st, won, seen⟩) B1)
            | (go_at_call 10; refine (HT.out _).mono ?_; rintro e w2 ⟨rfl, rfl⟩))
          go_ret
          exact ⟨rfl, G1.out.below⟩
        · have S1' := hide (fun W => S1.out W (by show key.size ≤ _; omega) (by show vl ≤ _; omega))
          have S2' := hide (fun W => S2.out W (by show key.size ≤ _; omega) (by show vl ≤ _; omega))
          have k1 : ¬ (1000 : Int) < (key.size : Int) := by omega
          have k2 : ¬ (5000 : Int) < (vl : Int) := by omega
          clear S1 S2
          unfold itC at *
          dsimp only at *
          go_enter Try.func3, Try.ntmps3
          go_upto_region 5 with (first
            | (go_at_call 9; refine (HA.out _).mono ?_; rintro e w1 ⟨rfl, g1⟩; have G1 := hide (G0.trans g1); have B1 := heap_grown0 g1.grown B0; obtain ⟨c0, c1, c2, c3, c4, c5, c6, c7, c8, c9⟩ := it_cells (i := ⟨key, va, vl, vc, fl, ex, cas, sec, seq, st, won, seen⟩) B1)
            | (go_at_call 10; refine (HT.out _).mono ?_; rintro e w2 ⟨rfl, rfl⟩))
          obtain ⟨d0, d1, d2, d3, d4, d5, d6, d7, d8, d9⟩ := it_cellsG (i := ⟨key, va, vl, vc, fl, ex, cas, sec, seq, st, won, seen⟩) B1
          dsimp only at *
          clear B0 B1 G0 c0 c1 c2 c3 c4 c5 c6 c7 c8 c9
          go_quiet_grown ((first
            | (go_at_call 11; exact Calls.grown_of (A1.out _))
            | (go_at_call 12; exact Calls.grown_of (A2.out _))
            | (go_at_call 13; exact Calls.grown_of (T1.out _))
            | (go_at_call 14; exact Calls.grown_of (T2.out _))
            | (go_at_call 15; exact Calls.grown_of (S1'.out _))
            | (go_at_call 16; exact Calls.grown_of (S2'.out _))))
          go_wp2
          go_ret
          exact ⟨rfl, (G1.out.trans ⟨nq, osq, rfl⟩).below⟩
  · have HT := hide (fun W => times_no exp now ht W)
    clear L hi hnw ht hn64
    obtain ⟨key, va, vl, vc, fl, ex, cas, sec, seq, st, won, seen⟩ := i
    unfold itC at *
    dsimp only at *
    go_enter Try.func3, Try.ntmps3
    go_wp2_with (first
      | (go_at_call 9; refine (HA.out _).mono ?_; rintro e w1 ⟨rfl, g1⟩; have G1 := hide (G0.trans g1); have B1 := heap_grown0 g1.grown B0; obtain ⟨c0, c1, c2, c3, c4, c5, c6, c7, c8, c9⟩ := it_cells (i := ⟨key, va, vl, vc, fl, ex, cas, sec, seq, st, won, seen⟩) B1)
      | (go_at_call 10; refine (HT.out _).mono ?_; rintro e w2 ⟨rfl, rfl⟩))
    go_ret
    exact ⟨rfl, G1.out.below⟩
end Go.Proofs.Ytdfckiendingcaa
