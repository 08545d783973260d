/- The statement ItemEnds. Conditions: the contracts of package item. -/
import Derived.Test.YtdfckiendingcaaItemAwake
import Derived.Test.YtdfckiendingcaaItemBox
import Derived.Deep.CutBlock
import Derived.Deep.CutRange
import Derived.Deep.RegionHeld3
namespace Go.Proofs.Ytdfckiendingcaa
open Go.RowKit Go.Sort

theorem live_mono (exp sec seq now eseq flush fseq later : Int) (hl : 0 ≤ later) (h : liveN exp sec seq ⟨now, eseq, flush, fseq⟩ = false) : liveN exp sec seq ⟨now + later, eseq, flush, fseq⟩ = false := by
  unfold liveN at h ⊢
  dsimp only at *
  by_cases h1 : exp ≠ 0 ∧ exp ≤ now
  · rw [if_pos ⟨h1.1, by omega⟩]
  · rw [if_neg h1] at h
    by_cases h2 : flush = 0 ∨ now < flush
    · rw [if_pos h2] at h
      cases h
    · rw [if_neg h2] at h
      by_cases h3 : exp ≠ 0 ∧ exp ≤ now + later
      · rw [if_pos h3]
      · rw [if_neg h3, if_neg (by omega)]
        exact h
theorem at_soon (exp now : Int) (h1 : 1 ≤ now) (h2 : 1 ≤ exp) (h3 : exp ≤ 2592000) : atN exp now = now + exp := by
  unfold atN
  rw [if_neg (by omega), if_neg (by omega), if_pos h3, show max now 1 = now by omega]
theorem live_soon (exp now eseq later : Int) (h1 : 1 ≤ now) (h2 : 1 ≤ exp) : liveN (now + exp) now eseq ⟨now + later, 0, 0, 0⟩ = decide (later < exp) := by
  unfold liveN
  dsimp only
  by_cases h : later < exp
  · rw [if_neg (by omega), if_pos (.inl rfl), decide_eq_true h]
  · rw [if_pos (by omega), decide_eq_false h]
theorem ttl_soon (exp now : Int) (h1 : 1 ≤ now) (h2 : 1 ≤ exp) (h3 : exp ≤ 2592000) (h4 : now ≤ 1099511627776) : ttlN (now + exp) now = exp := by
  unfold ttlN
  rw [if_neg (by omega), if_neg (by omega), show now + exp - now = exp by omega]
  exact wrap_id10 (by omega)
theorem far_cell {k b : Nat} (h : k ≠ b) (W : World) (j i : Nat) (v : Value) : (W.setCell ⟨k, j, none⟩ v).cell? ⟨b, i, none⟩ = W.cell? ⟨b, i, none⟩ := World.cell?_setCell_far W _ _ v h
def itX (x now seq : Int) : It := ⟨⟨#[]⟩, none, 0, 0, 0, x, 0, now, seq, false, false, false⟩
section
variable {w W : World} {A : Part}
/-- A whole item is stored. -/
theorem set_item {F : Nat → Prop} {k : Nat} {i j : It} (H : LawF F w W ((ItB k i).and A)) :
    LawF F w ((((((((((W.setCell ⟨k, 0, none⟩ (.string j.key)).setCell ⟨k, 1, none⟩ (.slice j.va j.vl j.vc)).setCell ⟨k, 2, none⟩ (.int .u32 j.fl)).setCell ⟨k, 3, none⟩ (.int .i64 j.exp)).setCell ⟨k, 4, none⟩ (.int .u64 j.cas)).setCell ⟨k, 5, none⟩ (.int .i64 j.sec)).setCell ⟨k, 6, none⟩ (.int .u64 j.seq)).setCell ⟨k, 7, none⟩ (.bool j.st)).setCell ⟨k, 8, none⟩ (.bool j.won)).setCell ⟨k, 9, none⟩ (.bool j.seen)) ((ItB k j).and A) := by
  have h := (((((((((H.setAt 0 (.string j.key)).setAt 1 (.slice j.va j.vl j.vc)).setAt 2 (.int .u32 j.fl)).setAt 3 (.int .i64 j.exp)).setAt 4 (.int .u64 j.cas)).setAt 5 (.int .i64 j.sec)).setAt 6 (.int .u64 j.seq)).setAt 7 (.bool j.st)).setAt 8 (.bool j.won)).setAt 9 (.bool j.seen)
  have e : ((((((((((itC i).setIfInBounds 0 (.string j.key)).setIfInBounds 1 (.slice j.va j.vl j.vc)).setIfInBounds 2 (.int .u32 j.fl)).setIfInBounds 3 (.int .i64 j.exp)).setIfInBounds 4 (.int .u64 j.cas)).setIfInBounds 5 (.int .i64 j.sec)).setIfInBounds 6 (.int .u64 j.seq)).setIfInBounds 7 (.bool j.st)).setIfInBounds 8 (.bool j.won)).setIfInBounds 9 (.bool j.seen) = itC j := by simp [itC]
  rw [e] at h
  exact h
end
/-- Where the statement stands: the env, the later one, and the item. -/
abbrev midE (w : World) (nb : Nat) (e n : En) (i : It) : Part := (EnB nb n).and ((EnB (w.heap.size + 1) e).and ((ItB w.heap.size i).and Part.emp))
section
variable {w W : World} {A : Part} {nb : Nat}
theorem keepE1 {e n : En} (H : LawF Own0 w W ((EnB nb n).and ((EnB (w.heap.size + 1) e).and A))) : W.cell? ⟨w.heap.size + 1, 0, none⟩ = some (.int .i64 e.now) ∧ W.cell? ⟨w.heap.size + 1, 1, none⟩ = some (.int .u64 e.seq) := ⟨(en_cells H.q.2.1.1).1, (en_cells H.q.2.1.1).2.1⟩
theorem keepE2 {e n : En} {B : Part} (H : LawF Own0 w W (B.and ((EnB nb n).and ((EnB (w.heap.size + 1) e).and A)))) : W.cell? ⟨w.heap.size + 1, 0, none⟩ = some (.int .i64 e.now) ∧ W.cell? ⟨w.heap.size + 1, 1, none⟩ = some (.int .u64 e.seq) := keepE1 H.right
end
set_option maxRecDepth 100000 in
set_option maxHeartbeats 8000000 in
theorem itemEnds_walk (L : ItemLib) (i : It) (hi : i.ok) (e : En) (he : e.ok) (later : Int) (_hl : (Lit.int .i64 later).wf = true) (exp : Int) (_hx : (Lit.int .i64 exp).wf = true) (w : World) :
    Calls Try.prog 5 #[.agg (itC i), .agg (enC e), .int .i64 later, .int .i64 exp] w fun x w' => x = .returned (.bool true) ∧ Below w.heap.size w w' := by
  have HA := hide (fun W => awake_is L W)
  have H0 := hide (two_boxes w i e)
  by_cases ht : T40 exp ∧ N41 e.now
  · have HT := hide (fun W => times_yes exp e.now ht W)
    by_cases hc : 0 ≤ later ∧ later ≤ 1099511627776 ∧ 1 ≤ e.now ∧ e.now ≤ 1099511627776 ∧ 1 ≤ exp ∧ exp ≤ 2592000
    · obtain ⟨h1, h2, h3, h4, h5, h6⟩ := hc
      have A1 := hide (fun W => L.at_ exp e.now ht.1 ht.2 W)
      rw [at_soon exp e.now h3 h5 h6] at A1
      have hokn : (En.mk (e.now + later) e.seq e.flush e.fseq).ok := ⟨⟨by show _ ≤ e.now + later; omega, by show e.now + later < _; omega⟩, he.seq, he.flush, he.fseq⟩
      have hokx : (itX (e.now + exp) e.now e.seq).ok := ⟨Nat.zero_le _, Nat.zero_le _, ⟨by show _ ≤ e.now + exp; omega, by show e.now + exp < _; omega⟩, he.now, he.seq⟩
      have V1 := hide (fun W => L.live i e hi he W)
      have V2 := hide (fun W => L.live i ⟨e.now + later, e.seq, e.flush, e.fseq⟩ hi hokn W)
      have V3 := hide (fun W => L.live (itX (e.now + exp) e.now e.seq) ⟨e.now + later, 0, 0, 0⟩ hokx (eok (e.now + later) hokn.now) W)
      have T3 := hide (fun W => L.ttl (itX (e.now + exp) e.now e.seq) e.now hokx he.now W)
      have hm := live_mono i.exp i.sec i.seq e.now e.seq e.flush e.fseq later h1
      have hv := live_soon exp e.now e.seq later h3 h5
      have hq := ttl_soon exp e.now h3 h5 h6 h4
      unfold itX at V3 T3
      dsimp only at V3 T3
      rw [hv] at V3
      rw [hq] at T3
      have e1 : wrap64 (e.now + later) = e.now + later := wrap_id10 (by omega)
      clear L hi he hv hq hokn hokx ht
      obtain ⟨key, va, vl, vc, fl, ex, cas, sec, seq, st, won, seen⟩ := i
      obtain ⟨now, eseq, flush, fseq⟩ := e
      dsimp only at *
      generalize liveN ex sec seq ⟨now + later, eseq, flush, fseq⟩ = r2 at *
      generalize liveN ex sec seq ⟨now, eseq, flush, fseq⟩ = r1 at *
      unfold enC at V1 V2 V3
      unfold itC at V1 V2 V3 T3
      dsimp only at *
      cases r1 with
      | true =>
        clear V2 hm
        unfold itC enC
        dsimp only
        go_enter Try.func5, Try.ntmps5
        go_upto_region 9 with (first
          | (go_at_call 9; refine (HA.out _).mono ?_; rintro e w1 ⟨rfl, g1⟩; have H1 := H0.out.step g1.grown; obtain ⟨k0, k1, k2, k3⟩ := en_cells H1.q.1; have Ha := H1.box (.cells (enC ⟨now, eseq, flush, fseq⟩) 34); obtain ⟨m0, m1, m2, m3⟩ := en_cells Ha.q.2.1.1; have Hb := H1.box (.cells (enC ⟨now + later, eseq, flush, fseq⟩) 34); obtain ⟨n0, n1, n2, n3⟩ := en_cells Hb.q.2.1.1; obtain ⟨c0, c1, c2, c3, c4, c5, c6, c7, c8, c9⟩ := it_cells Hb.q.2.1.2.1.1; unfold enC at m0 m1 m2 m3 n0 n1 n2 n3 c0 c1 c2 c3 c4 c5 c6 c7 c8 c9; dsimp only at *; replace Hb := hide Hb; clear Ha H1)
          | (go_at_call 10; refine (HT.out _).mono ?_; rintro e w2 ⟨rfl, rfl⟩)
          | (go_at_call 17; refine (V1.out _).mono ?_; rintro e w3 ⟨rfl, g3⟩; have H := hide (Hb.out.step g3.grown); clear V1 k0 k1 k2 k3 m0 m1 m2 m3 n0 n1 n2 n3 c0 c1 c2 c3 c4 c5 c6 c7 c8 c9 Hb))
        have hne : w3.heap.size ≠ w.heap.size + 1 := Nat.ne_of_gt (H.out.lt _ (.inr (.inl rfl))).1
        replace H := hide H.out.drew
        go_cut [12] from 12 to 75 (fun s wx => ∃ k, s = .pointer (some ⟨k, 0, none⟩) ∧ Hid (LawF Own0 w wx ((ItB k (itX (now + exp) now eseq)).and (midE w w2.heap.size ⟨now, eseq, flush, fseq⟩ ⟨now + later, eseq, flush, fseq⟩ ⟨key, va, vl, vc, fl, ex, cas, sec, seq, st, won, seen⟩))))
        case first =>
          go_region_held3 (fun w' => w'.cell? ⟨w.heap.size + 1, 0, none⟩ = some (.int .i64 now) ∧ w'.cell? ⟨w.heap.size + 1, 1, none⟩ = some (.int .u64 eseq)) (first | (simp only [far_cell hne]; assumption) | exact keepE1 H.out | exact keepE2 H.out | exact keepE2 (H.out.box _))
            ((go_at_call 11; refine (A1.out _).mono ?_; rintro e w4 ⟨rfl, g4⟩; first | (have Hq := LawF.step (show LawF Own0 w (w3.drew.alloc (.cells (itC (it0 ⟨#[]⟩)) 26)) ((ItB w3.heap.size (it0 ⟨#[]⟩)).and _) from H.out.box _) g4.grown; obtain ⟨c0, c1, c2, c3, c4, c5, c6, c7, c8, c9⟩ := it_cells Hq.q.1; have fz := fun j => frozen_of_row w4 w3.heap.size j _ _ Hq.q.1; unfold it0 at c0 c1 c2 c3 c4 c5 c6 c7 c8 c9; dsimp only at c0 c1 c2 c3 c4 c5 c6 c7 c8 c9; replace H := hide Hq; clear Hq) | replace H := hide (H.out.step g4.grown)))
          all_goals
            go_wp2_with fail
            go_meet
            first
              | (have ht := set_item (j := itX (now + exp) now eseq) H.out; exact ⟨_, rfl, hide ht⟩)
              | exact ⟨_, rfl, hide (H.out.box (.cells (itC (itX (now + exp) now eseq)) 26))⟩
        case rest =>
          obtain ⟨k, rfl, H⟩ := hcut
          obtain ⟨n0, n1, n2, n3⟩ := en_cells H.out.q.2.1.1
          have Hn := H.out.box (.cells (enC ⟨now + later, 0, 0, 0⟩) 34)
          obtain ⟨c0, c1, c2, c3, c4, c5, c6, c7, c8, c9⟩ := it_cells Hn.q.2.1.1
          unfold enC at c0 c1 c2 c3 c4 c5 c6 c7 c8 c9
          unfold itX at c0 c1 c2 c3 c4 c5 c6 c7 c8 c9
          dsimp only at *
          replace Hn := hide Hn
          clear H A1 H0
          go_wp2_with (first
            | (go_at_call 17; refine (V3.out _).mono ?_; rintro e w5 ⟨rfl, g5⟩; have H5 := Hn.out.step g5.grown; clear n0 n1 n2 n3 c0 c1 c2 c3 c4 c5 c6 c7 c8 c9; obtain ⟨c0, c1, c2, c3, c4, c5, c6, c7, c8, c9⟩ := it_cells H5.q.2.1.1; obtain ⟨k0, k1, k2, k3⟩ := en_cells H5.q.2.1.2.1.2.1.1; unfold itX at c0 c1 c2 c3 c4 c5 c6 c7 c8 c9; dsimp only at *; replace H5 := hide H5)
            | (go_at_call 13; refine (T3.out _).mono ?_; rintro e w6 ⟨rfl, g6⟩))
          all_goals
            go_ret
            refine ⟨?_, own0_below (H5.out.step g6.grown)⟩
            first
              | rfl
              | simp
      | false =>
        obtain rfl := hm rfl
        clear hm
        unfold itC enC
        dsimp only
        go_enter Try.func5, Try.ntmps5
        go_upto_region 9 with (first
          | (go_at_call 9; refine (HA.out _).mono ?_; rintro e w1 ⟨rfl, g1⟩; have H1 := H0.out.step g1.grown; obtain ⟨k0, k1, k2, k3⟩ := en_cells H1.q.1; have Ha := H1.box (.cells (enC ⟨now, eseq, flush, fseq⟩) 34); obtain ⟨m0, m1, m2, m3⟩ := en_cells Ha.q.2.1.1; have Hb := H1.box (.cells (enC ⟨now + later, eseq, flush, fseq⟩) 34); obtain ⟨n0, n1, n2, n3⟩ := en_cells Hb.q.2.1.1; obtain ⟨c0, c1, c2, c3, c4, c5, c6, c7, c8, c9⟩ := it_cells Hb.q.2.1.2.1.1; unfold enC at m0 m1 m2 m3 n0 n1 n2 n3 c0 c1 c2 c3 c4 c5 c6 c7 c8 c9; dsimp only at *; replace Hb := hide Hb; clear Ha H1)
          | (go_at_call 10; refine (HT.out _).mono ?_; rintro e w2 ⟨rfl, rfl⟩)
          | (have t := V1; clear t; go_at_call 17; refine (V1.out _).mono ?_; rintro e w8 ⟨rfl, g8⟩; have Hc := Hb.out.step g8.grown; clear V1 k0 k1 k2 k3 m0 m1 m2 m3 n0 n1 n2 n3 c0 c1 c2 c3 c4 c5 c6 c7 c8 c9 Hb; obtain ⟨n0, n1, n2, n3⟩ := en_cells Hc.q.1; obtain ⟨c0, c1, c2, c3, c4, c5, c6, c7, c8, c9⟩ := it_cells Hc.q.2.1.2.1.1; dsimp only at *; replace Hc := hide Hc)
          | (have t := V2; clear t; go_at_call 17; refine (V2.out _).mono ?_; rintro e w3 ⟨rfl, g3⟩; have H := hide (Hc.out.step g3.grown); clear V2 n0 n1 n2 n3 c0 c1 c2 c3 c4 c5 c6 c7 c8 c9 Hc))
        have hne : w3.heap.size ≠ w.heap.size + 1 := Nat.ne_of_gt (H.out.lt _ (.inr (.inl rfl))).1
        replace H := hide H.out.drew
        go_cut [12] from 12 to 75 (fun s wx => ∃ k, s = .pointer (some ⟨k, 0, none⟩) ∧ Hid (LawF Own0 w wx ((ItB k (itX (now + exp) now eseq)).and (midE w w2.heap.size ⟨now, eseq, flush, fseq⟩ ⟨now + later, eseq, flush, fseq⟩ ⟨key, va, vl, vc, fl, ex, cas, sec, seq, st, won, seen⟩))))
        case first =>
          go_region_held3 (fun w' => w'.cell? ⟨w.heap.size + 1, 0, none⟩ = some (.int .i64 now) ∧ w'.cell? ⟨w.heap.size + 1, 1, none⟩ = some (.int .u64 eseq)) (first | (simp only [far_cell hne]; assumption) | exact keepE1 H.out | exact keepE2 H.out | exact keepE2 (H.out.box _))
            ((go_at_call 11; refine (A1.out _).mono ?_; rintro e w4 ⟨rfl, g4⟩; first | (have Hq := LawF.step (show LawF Own0 w (w3.drew.alloc (.cells (itC (it0 ⟨#[]⟩)) 26)) ((ItB w3.heap.size (it0 ⟨#[]⟩)).and _) from H.out.box _) g4.grown; obtain ⟨c0, c1, c2, c3, c4, c5, c6, c7, c8, c9⟩ := it_cells Hq.q.1; have fz := fun j => frozen_of_row w4 w3.heap.size j _ _ Hq.q.1; unfold it0 at c0 c1 c2 c3 c4 c5 c6 c7 c8 c9; dsimp only at c0 c1 c2 c3 c4 c5 c6 c7 c8 c9; replace H := hide Hq; clear Hq) | replace H := hide (H.out.step g4.grown)))
          all_goals
            go_wp2_with fail
            go_meet
            first
              | (have ht := set_item (j := itX (now + exp) now eseq) H.out; exact ⟨_, rfl, hide ht⟩)
              | exact ⟨_, rfl, hide (H.out.box (.cells (itC (itX (now + exp) now eseq)) 26))⟩
        case rest =>
          obtain ⟨k, rfl, H⟩ := hcut
          obtain ⟨n0, n1, n2, n3⟩ := en_cells H.out.q.2.1.1
          have Hn := H.out.box (.cells (enC ⟨now + later, 0, 0, 0⟩) 34)
          obtain ⟨c0, c1, c2, c3, c4, c5, c6, c7, c8, c9⟩ := it_cells Hn.q.2.1.1
          unfold enC at c0 c1 c2 c3 c4 c5 c6 c7 c8 c9
          unfold itX at c0 c1 c2 c3 c4 c5 c6 c7 c8 c9
          dsimp only at *
          replace Hn := hide Hn
          clear H A1 H0
          go_wp2_with (first
            | (go_at_call 17; refine (V3.out _).mono ?_; rintro e w5 ⟨rfl, g5⟩; have H5 := Hn.out.step g5.grown; clear n0 n1 n2 n3 c0 c1 c2 c3 c4 c5 c6 c7 c8 c9; obtain ⟨c0, c1, c2, c3, c4, c5, c6, c7, c8, c9⟩ := it_cells H5.q.2.1.1; obtain ⟨k0, k1, k2, k3⟩ := en_cells H5.q.2.1.2.1.2.1.1; unfold itX at c0 c1 c2 c3 c4 c5 c6 c7 c8 c9; dsimp only at *; replace H5 := hide H5)
            | (go_at_call 13; refine (T3.out _).mono ?_; rintro e w6 ⟨rfl, g6⟩))
          all_goals
            go_ret
            refine ⟨?_, own0_below (H5.out.step g6.grown)⟩
            first
              | rfl
              | simp
    · clear ht
      clear L hi he
      obtain ⟨key, va, vl, vc, fl, ex, cas, sec, seq, st, won, seen⟩ := i
      obtain ⟨now, eseq, flush, fseq⟩ := e
      dsimp only at *
      unfold itC enC
      dsimp only
      go_enter Try.func5, Try.ntmps5
      go_wp2_with (first
        | (go_at_call 9; refine (HA.out _).mono ?_; rintro e w1 ⟨rfl, g1⟩; have H1 := H0.out.step g1.grown; obtain ⟨k0, k1, k2, k3⟩ := en_cells H1.q.1; obtain ⟨c0, c1, c2, c3, c4, c5, c6, c7, c8, c9⟩ := it_cells H1.q.2.1.1; dsimp only at *; replace H1 := hide H1)
        | (go_at_call 10; refine (HT.out _).mono ?_; rintro e w2 ⟨rfl, rfl⟩))
      all_goals first | (go_ret; exact ⟨rfl, own0_below H1.out⟩) | (exfalso; omega)
  · have HT := hide (fun W => times_no exp e.now ht W)
    clear ht
    clear L hi he
    obtain ⟨key, va, vl, vc, fl, ex, cas, sec, seq, st, won, seen⟩ := i
    obtain ⟨now, eseq, flush, fseq⟩ := e
    dsimp only at *
    unfold itC enC
    dsimp only
    go_enter Try.func5, Try.ntmps5
    go_wp2_with (first
      | (go_at_call 9; refine (HA.out _).mono ?_; rintro e w1 ⟨rfl, g1⟩; have H1 := H0.out.step g1.grown; obtain ⟨k0, k1, k2, k3⟩ := en_cells H1.q.1; obtain ⟨c0, c1, c2, c3, c4, c5, c6, c7, c8, c9⟩ := it_cells H1.q.2.1.1; dsimp only at *; replace H1 := hide H1)
      | (go_at_call 10; refine (HT.out _).mono ?_; rintro e w2 ⟨rfl, rfl⟩))
    all_goals first | (go_ret; exact ⟨rfl, own0_below H1.out⟩) | (exfalso; omega)
end Go.Proofs.Ytdfckiendingcaa
