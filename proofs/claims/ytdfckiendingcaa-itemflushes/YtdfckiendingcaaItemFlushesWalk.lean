/- The statement ItemFlushes. Conditions: the contracts of package item. -/
import Derived.Test.YtdfckiendingcaaItemAwake
import Derived.Test.YtdfckiendingcaaItemBox
namespace Go.Proofs.Ytdfckiendingcaa
open Go.RowKit Go.Sort

theorem flush_now (e : En) (h : 1 ≤ e.now) : flushN 0 e = ⟨e.now, e.seq, e.now, e.seq⟩ := by
  unfold flushN
  rw [if_neg (by omega), show max e.now 1 = e.now by omega]
theorem live_flush (sec seq now eseq later : Int) (h1 : 1 ≤ now) (h2 : 0 ≤ later) (h3 : sec ≤ now) : liveN 0 sec seq ⟨now + later, eseq, now, eseq⟩ = !decide (sec < now ∨ seq < eseq) := by
  unfold liveN
  rw [if_neg (by omega), if_neg (by dsimp only; omega)]
  congr 1
  exact decide_eq_decide.2 (by unfold elderN; dsimp only; omega)
set_option maxRecDepth 100000 in
set_option maxHeartbeats 8000000 in
theorem itemFlushes_walk (L : ItemLib) (i : It) (hi : i.ok) (e : En) (he : e.ok) (later : Int) (hx : (Lit.int .i64 later).wf = true) (w : World) :
    Calls Try.prog 6 #[.agg (itC i), .agg (enC e), .int .i64 later] w fun x w' => x = .returned (.bool true) ∧ Below w.heap.size w w' := by
  have HA := hide (fun W => awake_is L W)
  have H0 := hide (two_boxes w i e)
  have hl64 := i64_wf hx
  clear hx
  by_cases hc : 1 ≤ e.now ∧ e.now ≤ 1099511627776 ∧ 0 ≤ later ∧ later ≤ 1099511627776 ∧ i.sec ≤ e.now
  · obtain ⟨h1, h2, h3, h4, h5⟩ := hc
    have F1 := hide (fun W => L.flush 0 e ⟨by decide, by decide⟩ he ⟨by omega, by omega⟩ W)
    rw [flush_now e h1] at F1
    have V1 := hide (fun W => L.live { i with exp := 0 } ⟨e.now + later, e.seq, e.now, e.seq⟩ ⟨hi.key, hi.vl, i0, hi.sec, hi.seq⟩ ⟨⟨by show _ ≤ e.now + later; omega, by show e.now + later < _; omega⟩, he.seq, he.now, he.seq⟩ W)
    have hv := live_flush i.sec i.seq e.now e.seq later h1 h3 h5
    dsimp only at V1
    rw [hv] at V1
    have e1 : wrap64 (e.now + later) = e.now + later := wrap_id10 (by omega)
    clear L hi he hv
    obtain ⟨key, va, vl, vc, fl, ex, cas, sec, seq, st, won, seen⟩ := i
    obtain ⟨now, eseq, flush, fseq⟩ := e
    dsimp only at *
    rcases (show sec < now ∨ (sec = now ∧ seq < eseq) ∨ (sec = now ∧ eseq ≤ seq) by omega) with h6 | ⟨h6, h7⟩ | ⟨h6, h7⟩
    · have ed : decide (sec < now ∨ seq < eseq) = true := decide_eq_true (.inl h6)
      rw [ed] at V1
      unfold enC at V1 F1
      unfold itC at V1
      unfold itC enC
      dsimp only at *
      clear ed
      go_enter Try.func6, Try.ntmps6
      go_wp2_with (first
        | (go_at_call 9; refine (HA.out _).mono ?_; rintro e w1 ⟨rfl, g1⟩; have H1 := H0.out.step g1.grown; obtain ⟨k0, k1, k2, k3⟩ := en_cells H1.q.1; obtain ⟨c0, c1, c2, c3, c4, c5, c6, c7, c8, c9⟩ := it_cells H1.q.2.1.1; have f3 := frozen_of_row _ _ 3 _ _ H1.q.2.1.1; dsimp only at *; replace H1 := hide H1)
        | (go_at_call 19; refine (F1.out _).mono ?_; rintro e w2 ⟨rfl, g2⟩; have H2 := ((set_exp H1.out.rot 0).rot).step g2.grown; clear k0 k1 k2 k3 c0 c1 c2 c3 c4 c5 c6 c7 c8 c9 f3 H1; have Ha := H2.box (.cells (enC ⟨now, eseq, now, eseq⟩) 34); obtain ⟨k0, k1, k2, k3⟩ := en_cells Ha.q.2.1.1; have Hb := H2.box (.cells (enC ⟨now + later, eseq, now, eseq⟩) 34); obtain ⟨m0, m1, m2, m3⟩ := en_cells Hb.q.2.1.1; obtain ⟨c0, c1, c2, c3, c4, c5, c6, c7, c8, c9⟩ := it_cells Hb.q.2.1.2.1.1; unfold enC at *; dsimp only at *; replace Hb := hide Hb; clear Ha H2)
        | (go_at_call 17; refine (V1.out _).mono ?_; rintro e w3 ⟨rfl, g3⟩))
      go_ret
      refine ⟨?_, own0_below (Hb.out.step g3.grown)⟩
      first
        | rfl
        | (show Ending.returned (.bool (!decide _)) = _; rw [decide_eq_false (by omega)]; rfl)
    · have h6' : ¬ sec < now := by omega
      have ed : decide (sec < now ∨ seq < eseq) = true := decide_eq_true (.inr h7)
      rw [ed] at V1
      unfold enC at V1 F1
      unfold itC at V1
      unfold itC enC
      dsimp only at *
      clear ed h6
      go_enter Try.func6, Try.ntmps6
      go_wp2_with (first
        | (go_at_call 9; refine (HA.out _).mono ?_; rintro e w1 ⟨rfl, g1⟩; have H1 := H0.out.step g1.grown; obtain ⟨k0, k1, k2, k3⟩ := en_cells H1.q.1; obtain ⟨c0, c1, c2, c3, c4, c5, c6, c7, c8, c9⟩ := it_cells H1.q.2.1.1; have f3 := frozen_of_row _ _ 3 _ _ H1.q.2.1.1; dsimp only at *; replace H1 := hide H1)
        | (go_at_call 19; refine (F1.out _).mono ?_; rintro e w2 ⟨rfl, g2⟩; have H2 := ((set_exp H1.out.rot 0).rot).step g2.grown; clear k0 k1 k2 k3 c0 c1 c2 c3 c4 c5 c6 c7 c8 c9 f3 H1; have Ha := H2.box (.cells (enC ⟨now, eseq, now, eseq⟩) 34); obtain ⟨k0, k1, k2, k3⟩ := en_cells Ha.q.2.1.1; have Hb := H2.box (.cells (enC ⟨now + later, eseq, now, eseq⟩) 34); obtain ⟨m0, m1, m2, m3⟩ := en_cells Hb.q.2.1.1; obtain ⟨c0, c1, c2, c3, c4, c5, c6, c7, c8, c9⟩ := it_cells Hb.q.2.1.2.1.1; unfold enC at *; dsimp only at *; replace Hb := hide Hb; clear Ha H2)
        | (go_at_call 17; refine (V1.out _).mono ?_; rintro e w3 ⟨rfl, g3⟩))
      go_ret
      refine ⟨?_, own0_below (Hb.out.step g3.grown)⟩
      first
        | rfl
        | (show Ending.returned (.bool (!decide _)) = _; rw [decide_eq_false (by omega)]; rfl)
    · have h6' : ¬ sec < now := by omega
      have ed : decide (sec < now ∨ seq < eseq) = false := decide_eq_false (by omega)
      rw [ed] at V1
      unfold enC at V1 F1
      unfold itC at V1
      unfold itC enC
      dsimp only at *
      clear ed h6
      go_enter Try.func6, Try.ntmps6
      go_wp2_with (first
        | (go_at_call 9; refine (HA.out _).mono ?_; rintro e w1 ⟨rfl, g1⟩; have H1 := H0.out.step g1.grown; obtain ⟨k0, k1, k2, k3⟩ := en_cells H1.q.1; obtain ⟨c0, c1, c2, c3, c4, c5, c6, c7, c8, c9⟩ := it_cells H1.q.2.1.1; have f3 := frozen_of_row _ _ 3 _ _ H1.q.2.1.1; dsimp only at *; replace H1 := hide H1)
        | (go_at_call 19; refine (F1.out _).mono ?_; rintro e w2 ⟨rfl, g2⟩; have H2 := ((set_exp H1.out.rot 0).rot).step g2.grown; clear k0 k1 k2 k3 c0 c1 c2 c3 c4 c5 c6 c7 c8 c9 f3 H1; have Ha := H2.box (.cells (enC ⟨now, eseq, now, eseq⟩) 34); obtain ⟨k0, k1, k2, k3⟩ := en_cells Ha.q.2.1.1; have Hb := H2.box (.cells (enC ⟨now + later, eseq, now, eseq⟩) 34); obtain ⟨m0, m1, m2, m3⟩ := en_cells Hb.q.2.1.1; obtain ⟨c0, c1, c2, c3, c4, c5, c6, c7, c8, c9⟩ := it_cells Hb.q.2.1.2.1.1; unfold enC at *; dsimp only at *; replace Hb := hide Hb; clear Ha H2)
        | (go_at_call 17; refine (V1.out _).mono ?_; rintro e w3 ⟨rfl, g3⟩))
      go_ret
      refine ⟨?_, own0_below (Hb.out.step g3.grown)⟩
      first
        | rfl
        | (show Ending.returned (.bool (!decide _)) = _; rw [decide_eq_false (by omega)]; rfl)
  · clear L hi he
    obtain ⟨key, va, vl, vc, fl, ex, cas, sec, seq, st, won, seen⟩ := i
    obtain ⟨now, eseq, flush, fseq⟩ := e
    dsimp only at *
    unfold itC enC
    dsimp only
    go_enter Try.func6, Try.ntmps6
    go_wp2_with (go_at_call 9; refine (HA.out _).mono ?_; rintro e w1 ⟨rfl, g1⟩; have H1 := H0.out.step g1.grown; obtain ⟨k0, k1, k2, k3⟩ := en_cells H1.q.1; obtain ⟨c0, c1, c2, c3, c4, c5, c6, c7, c8, c9⟩ := it_cells H1.q.2.1.1; have f3 := frozen_of_row _ _ 3 _ _ H1.q.2.1.1; dsimp only at *; replace H1 := hide H1)
    all_goals first | (go_ret; exact ⟨rfl, own0_below H1.out⟩) | (exfalso; omega)
end Go.Proofs.Ytdfckiendingcaa
