/- The statement ItemLives. Conditions: the contracts of package item. -/
import Derived.Test.YtdfckiendingcaaItemAwake
import Derived.Laws.StructEq
import Derived.Shelf.SlSortCmp.QuietGrown
import Derived.Deep.CutBlock
import Derived.Deep.CutRange
import Derived.Deep.QuietTactic
import Derived.BigQuiet
namespace Go.Proofs.Ytdfckiendingcaa
open Go.RowKit Go.Sort

theorem en_eql (a b c d : Int) (w : World) : (binOp .eql 34 (.agg #[.int .i64 a, .int .u64 b, .int .i64 c, .int .u64 d]) (.agg #[.int .i64 a, .int .u64 b, .int .i64 c, .int .u64 d])).run Try.prog w = .ok (.bool true) w := by
  have u3 := Try.underlying3
  have a3 := Try.isAgg3
  have z3 := Try.sizeOf3
  have u4 := Try.underlying24
  have a4 := Try.isAgg24
  have z4 := Try.sizeOf24
  have hS : Try.prog.underlying 34 = some (.struct (Try.prog.fieldsOf 34)) := by kernel_rfl
  have hp : Try.prog.stoodInHeld 34 = false := by kernel_rfl
  rw [run_eql_struct, show (10000 : Nat) = 9999 + 1 from rfl, run_equalIn_agg w 9999 34 _ _ hS hp]
  simp only [Program.fieldsOf, Try.underlying34]
  go_simp
set_option maxRecDepth 100000 in
set_option maxHeartbeats 8000000 in
theorem itemLives_walk (L : ItemLib) (i : It) (hi : i.ok) (e : En) (he : e.ok) (exp : Int) (_hx : (Lit.int .i64 exp).wf = true) (w : World) :
    Calls Try.prog 4 #[.agg (itC i), .agg (enC e), .int .i64 exp] w fun x w' => x = .returned (.bool true) ∧ Below w.heap.size w w' := by
  have mixed : Try.prog.follows .mixedOrders = true := by kernel_rfl
  have hgd : Try.prog.eqGuardType Try.prog.depth 34 = false := by kernel_rfl
  have HA := hide (fun W => awake_is L W)
  have B0 : ((w.alloc (.cells (itC i) 26)).alloc (.cells (enC e) 34)).heap[w.heap.size]? = some (.cells (itC i) 26) := heap_grown0 (World.grownBy_alloc _ _ none) (heap_alloc_new w _)
  have E0 : ((w.alloc (.cells (itC i) 26)).alloc (.cells (enC e) 34)).heap[w.heap.size + 1]? = some (.cells (enC e) 34) := by
    have h := heap_alloc_new (w.alloc (.cells (itC i) 26)) (.cells (enC e) 34)
    rwa [World.size_alloc] at h
  have G0 := (Gd.alloc w (.cells (itC i) 26)).trans (Gd.alloc _ (.cells (enC e) 34))
  by_cases ht : T40 exp ∧ N41 e.now
  · have HT := hide (fun W => times_yes exp e.now ht W)
    have V1 := hide (fun W => L.live i e hi he W)
    have V2 := hide (fun W => refLive_any i e W)
    have F1 := hide (fun W => L.flush exp e ht.1 he ht.2 W)
    have F2 := hide (fun W => refFlush_any exp e ht.1 ht.2 W)
    generalize liveN i.exp i.sec i.seq e = r1 at *
    generalize flushN exp e = f at *
    clear L hi he ht
    obtain ⟨key, va, vl, vc, fl, ex, cas, sec, seq, st, won, seen⟩ := i
    obtain ⟨now, eseq, flush, fseq⟩ := e
    obtain ⟨fa, fb, fc, fd⟩ := f
    have heq := en_eql fa fb fc fd
    unfold itC enC at *
    dsimp only at *
    go_enter Try.func4, Try.ntmps4
    go_upto_region 5 with (first
      | (go_at_call 9; refine (HA.out _).mono ?_; rintro e w1 ⟨rfl, g1⟩; have G1 := hide (G0.trans g1); have B1 := heap_grown0 g1.grown B0; have E1 := heap_grown0 g1.grown E0; obtain ⟨c0, -⟩ := en_cells (e := ⟨now, eseq, flush, fseq⟩) E1)
      | (go_at_call 10; refine (HT.out _).mono ?_; rintro e w2 ⟨rfl, rfl⟩))
    obtain ⟨d0, d1, d2, d3, d4, d5, d6, d7, d8, d9⟩ := it_cellsG (i := ⟨key, va, vl, vc, fl, ex, cas, sec, seq, st, won, seen⟩) B1
    obtain ⟨k0, k1, k2, k3⟩ := en_cellsG (e := ⟨now, eseq, flush, fseq⟩) E1
    dsimp only at *
    clear B0 B1 E0 E1 G0 c0
    go_quiet_grown ((first
      | (go_at_call 17; exact Calls.grown_of (V1.out _))
      | (go_at_call 18; exact Calls.grown_of (V2.out _))
      | (go_at_call 19; exact Calls.grown_of (F1.out _))
      | (go_at_call 20; exact Calls.grown_of (F2.out _))))
    go_wp2
    go_ret
    exact ⟨rfl, (G1.out.trans ⟨nq, osq, rfl⟩).below⟩
  · have HT := hide (fun W => times_no exp e.now ht W)
    clear L hi he ht
    obtain ⟨key, va, vl, vc, fl, ex, cas, sec, seq, st, won, seen⟩ := i
    obtain ⟨now, eseq, flush, fseq⟩ := e
    unfold itC enC at *
    dsimp only at *
    go_enter Try.func4, Try.ntmps4
    go_wp2_with (first
      | (go_at_call 9; refine (HA.out _).mono ?_; rintro e w1 ⟨rfl, g1⟩; have G1 := hide (G0.trans g1); have E1 := heap_grown0 g1.grown E0; obtain ⟨c0, -⟩ := en_cells (e := ⟨now, eseq, flush, fseq⟩) E1)
      | (go_at_call 10; refine (HT.out _).mono ?_; rintro e w2 ⟨rfl, rfl⟩))
    go_ret
    exact ⟨rfl, G1.out.below⟩
end Go.Proofs.Ytdfckiendingcaa
