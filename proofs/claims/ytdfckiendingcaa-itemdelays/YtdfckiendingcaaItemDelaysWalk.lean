/- The statement ItemDelays. Conditions: the contracts of package item. -/
import Derived.Test.YtdfckiendingcaaItemAwake
import Derived.Test.YtdfckiendingcaaItemBox
namespace Go.Proofs.Ytdfckiendingcaa
open Go.RowKit Go.Sort

theorem flush_later (e : En) (d : Int) (h : 1 ≤ e.now) (h1 : 1 ≤ d) (h2 : d ≤ 2592000) : flushN d e = ⟨e.now, e.seq, e.now + d, 0⟩ := by
  unfold flushN atN
  rw [if_pos (by omega), if_neg (by omega), if_neg (by omega), if_pos h2, show max e.now 1 = e.now by omega]
theorem live_later (sec seq now eseq later d : Int) (h1 : 1 ≤ now) (h2 : 1 ≤ d) (h3 : sec ≤ now) : liveN 0 sec seq ⟨now + later, eseq, now + d, 0⟩ = decide (later < d) := by
  unfold liveN
  rw [if_neg (by omega)]
  by_cases h : later < d
  · rw [if_pos (by dsimp only; omega), decide_eq_true h]
  · rw [if_neg (by dsimp only; omega), decide_eq_false h, decide_eq_true (by unfold elderN; dsimp only; omega)]
    rfl
set_option maxRecDepth 100000 in
set_option maxHeartbeats 8000000 in
theorem itemDelays_walk (L : ItemLib) (i : It) (hi : i.ok) (e : En) (he : e.ok) (d : Int) (_hd : (Lit.int .i64 d).wf = true) (later : Int) (hx : (Lit.int .i64 later).wf = true) (w : World) :
    Calls Try.prog 7 #[.agg (itC i), .agg (enC e), .int .i64 d, .int .i64 later] w fun x w' => x = .returned (.bool true) ∧ Below w.heap.size w w' := by
  have HA := hide (fun W => awake_is L W)
  have H0 := hide (two_boxes w i e)
  have hl64 := i64_wf hx
  clear hx
  by_cases hc : 1 ≤ e.now ∧ e.now ≤ 1099511627776 ∧ 1 ≤ d ∧ d ≤ 2592000 ∧ 0 ≤ later ∧ later ≤ 1099511627776 ∧ i.sec ≤ e.now
  · obtain ⟨h1, h2, h8, h9, h3, h4, h5⟩ := hc
    have F1 := hide (fun W => L.flush d e ⟨by omega, by omega⟩ he ⟨by omega, by omega⟩ W)
    rw [flush_later e d h1 h8 h9] at F1
    have V1 := hide (fun W => L.live { i with exp := 0 } ⟨e.now + later, e.seq, e.now + d, 0⟩ ⟨hi.key, hi.vl, i0, hi.sec, hi.seq⟩ ⟨⟨by show _ ≤ e.now + later; omega, by show e.now + later < _; omega⟩, he.seq, ⟨by show _ ≤ e.now + d; omega, by show e.now + d < _; omega⟩, u0⟩ W)
    have hv := live_later i.sec i.seq e.now e.seq later d h1 h8 h5
    dsimp only at V1
    rw [hv] at V1
    have e1 : wrap64 (e.now + later) = e.now + later := wrap_id10 (by omega)
    clear L hi he hv
    obtain ⟨key, va, vl, vc, fl, ex, cas, sec, seq, st, won, seen⟩ := i
    obtain ⟨now, eseq, flush, fseq⟩ := e
    dsimp only at *
    unfold enC at V1 F1
    unfold itC at V1
    unfold itC enC
    dsimp only at *
    go_enter Try.func7, Try.ntmps7
    go_wp2_with (first
      | (go_at_call 9; refine (HA.out _).mono ?_; rintro e w1 ⟨rfl, g1⟩; have H1 := H0.out.step g1.grown; obtain ⟨k0, k1, k2, k3⟩ := en_cells H1.q.1; obtain ⟨c0, c1, c2, c3, c4, c5, c6, c7, c8, c9⟩ := it_cells H1.q.2.1.1; have f3 := frozen_of_row _ _ 3 _ _ H1.q.2.1.1; dsimp only at *; replace H1 := hide H1)
      | (go_at_call 19; refine (F1.out _).mono ?_; rintro e w2 ⟨rfl, g2⟩; have H2 := ((set_exp H1.out.rot 0).rot).step g2.grown; clear k0 k1 k2 k3 c0 c1 c2 c3 c4 c5 c6 c7 c8 c9 f3 H1; have Ha := H2.box (.cells (enC ⟨now, eseq, now + d, 0⟩) 34); obtain ⟨k0, k1, k2, k3⟩ := en_cells Ha.q.2.1.1; have Hb := H2.box (.cells (enC ⟨now + later, eseq, now + d, 0⟩) 34); obtain ⟨m0, m1, m2, m3⟩ := en_cells Hb.q.2.1.1; obtain ⟨c0, c1, c2, c3, c4, c5, c6, c7, c8, c9⟩ := it_cells Hb.q.2.1.2.1.1; unfold enC at *; dsimp only at *; replace Hb := hide Hb; clear Ha H2)
      | (go_at_call 17; refine (V1.out _).mono ?_; rintro e w3 ⟨rfl, g3⟩))
    all_goals
      go_ret
      refine ⟨?_, own0_below (Hb.out.step g3.grown)⟩
      first
        | rfl
        | simp
  · clear L hi he
    obtain ⟨key, va, vl, vc, fl, ex, cas, sec, seq, st, won, seen⟩ := i
    obtain ⟨now, eseq, flush, fseq⟩ := e
    dsimp only at *
    unfold itC enC
    dsimp only
    go_enter Try.func7, Try.ntmps7
    go_wp2_with (go_at_call 9; refine (HA.out _).mono ?_; rintro e w1 ⟨rfl, g1⟩; have H1 := H0.out.step g1.grown; obtain ⟨k0, k1, k2, k3⟩ := en_cells H1.q.1; obtain ⟨c0, c1, c2, c3, c4, c5, c6, c7, c8, c9⟩ := it_cells H1.q.2.1.1; have f3 := frozen_of_row _ _ 3 _ _ H1.q.2.1.1; dsimp only at *; replace H1 := hide H1)
    all_goals first | (go_ret; exact ⟨rfl, own0_below H1.out⟩) | (exfalso; omega)
end Go.Proofs.Ytdfckiendingcaa
