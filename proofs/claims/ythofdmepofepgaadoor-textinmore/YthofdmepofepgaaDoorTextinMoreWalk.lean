/- TextinMore returns true for every two rows of bytes, and writes nothing that was there. Conditions: the listed variables hold what the program's text lays. -/
import Derived.Test.YthofdmepofepgaaDoorG40Joined
import Derived.Test.YthofdmepofepgaaDoorTextMoreM
namespace Go.Proofs.YthofdmepofepgaaDoor
set_option linter.unusedVariables false
open Go.RowKit

theorem byU_two (u v : List UInt8) : byU (u ++ v) = byU u ++ byU v := by unfold byU byV ints; simp
theorem own_two {n0 n m c : Nat} {w : World} {a : Option Addr} {u v : List UInt8} (hu : u.length = n) (hv : v.length = m) (h : w.ownsRow n0 5 1 (.slice a (n + m) c) (n + m) ([] ++ byU u ++ byU v)) : Bu w a (n + m) c (u ++ v) := by
  have hl : (u ++ v).length = n + m := by rw [List.length_append, hu, hv]
  have q : ValAt n0 w a c (u ++ v) := by
    unfold ValAt
    rw [hl, byU_two]
    exact h
  have := q.bu
  rw [hl] at this
  exact this
theorem gr_own {a b c : World} {row : Option Nat} (h : a.grownBy b none) (k : b.grownBy c row) (hr : ∀ n, row = some n → a.heap.size ≤ n) : a.grownBy c none :=
  ⟨k.1.trans h.1, k.2.trans h.2, k.3.trans h.3, Nat.le_trans h.4 k.4, fun i hi _ => (k.5 i (Nat.lt_of_lt_of_le hi h.4) (fun e => by have := hr i e.symm; omega)).trans (h.5 i hi (by simp))⟩
theorem Bsz {W w1 w2 W2 : World} {o : Obj} (h : Below W.heap.size W w1) (g : w1.grownBy w2 none) (e : W2 = w2.alloc o) : W.heap.size ≤ W2.heap.size := by
  have h1 := h.size
  have h2 := g.size
  rw [e, World.size_alloc]
  omega
section
variable {W : World} {a a2 : Option Addr} {len cap len2 cap2 : Nat} {u v : List UInt8}
set_option maxRecDepth 100000 in
set_option maxHeartbeats 4000000 in
theorem more_in (hL : Laid W) (hu : Bu W a len cap u) (hv : Bu W a2 len2 cap2 v) (hl : len ≤ 5000) (hl2 : len2 ≤ 1000) : Calls Tryd.prog 4 #[.slice a len cap, .slice a2 len2 cap2] W fun e W' => e = .returned (.bool true) ∧ Below W.heap.size W W' := by
  have hli : (len : Int) ≤ 5000 := by omega
  have hli2 : (len2 : Int) ≤ 1000 := by omega
  have HN := hide hu.n
  have HM := hide hv.n
  have HU := hide (fun (w : World) (h : Below W.heap.size W w) => hu.on h)
  have HV := hide (fun (w : World) (h : Below W.heap.size W w) => hv.on h)
  have HP := hide (fun (w : World) (h : Below W.heap.size W w) => parse_any (hL.on h) (hu.on h) (by omega))
  have HP2 := hide (fun (w : World) (a3 : Option Addr) (c3 : Nat) (h : Below W.heap.size W w) (hb : Bu w a3 (len + len2) c3 (u ++ v)) => parse_any (hL.on h) hb (by omega))
  have HR := req_ok (u ++ v)
  have HW := more_ways u v (by rw [hu.n]; exact hl)
  rw [hu.n] at HW
  generalize parseN u = s1 at *
  generalize parseN (u ++ v) = s2 at *
  rcases HW with m1 | ⟨e3, e12, hf⟩ | ⟨m, b, m1, m2⟩
  · subst m1
    have HS := hide (fun (w : World) (cs ds : Array Value) (h1 : StepAt w moreS cs) (h2 : StepAt w s2 ds) => steps_some rfl HR h1 h2)
    clear HR hu hv hl hl2
    ·
      go_enter Tryd.func4, Tryd.ntmps4
      go_wp2_with (first
        | (go_at_call 8; refine (awake_any hL).mono ?_; rintro e w1 ⟨rfl, g1⟩; have B1 := hide (below_gr g1); clear g1)
        | (have t := B1; clear t; go_at_call 9; refine (HP.out _ B1.out).mono ?_; rintro e w2 ⟨ca, cc, ta, tc, ka, kc, rfl, q1, g2⟩; obtain ⟨W2, hW2⟩ : ∃ W2, W2 = w2.alloc (.cells (stC moreS ca cc ta tc ka kc) 33) := ⟨_, rfl⟩; obtain ⟨P1, hP1⟩ : ∃ P1, P1 = w2.heap.size := ⟨_, rfl⟩; replace q1 := hide q1; replace g2 := hide g2; have BW := hide B1.out; clear B1 HP; have N1 : Hid (W = W) := rfl)
        | (have t := N1; clear t; refine wpList_store_row rfl 33 _ _ rfl w2.heap.size (stC moreS ca cc ta tc ka kc) rfl rfl _ _ (World.alloc_heap_new w2 _) (step_size _ _ _ _ _ _ _) rfl (step_one _ _ _ _ _ _ _) ?_; rw [setRow_alloc, ← hW2, ← hP1]; clear N1; replace hW2 := hide hW2; replace hP1 := hide hP1; have GW : w1.grownBy W2 none := gr_trans g2.out (by rw [hW2.out]; exact World.grownBy_alloc _ _ _); have B2 := hide (Bt BW.out (below_gr GW)); clear GW)
        | (have t := B2; clear t; at_builtin; refine wpList_append_bs rfl _ _ rfl W2.heap.size _ 0 [] rfl (World.ownsRow_nil _ _ _ _) _ len cap u rfl HN.out (HU.out _ B2.out).b (by omega) (Nat.le_refl _) ?_; intro v3 w3 o3 g3 _; rw [Nat.zero_add] at o3; obtain ⟨a3, c3, rfl⟩ := own_shape o3; replace o3 := hide o3; have B3 := hide (Bt B2.out (below_gr g3)); have G3 := hide g3; have M3 := hide g3.size; clear g3 B2)
        | (have t := B3; clear t; at_builtin; refine wpList_append_bs rfl _ _ rfl W2.heap.size _ len _ rfl o3.out _ len2 cap2 v rfl HM.out (HV.out _ B3.out).b (by omega) M3.out ?_; intro v4 w4 o4 g4 _; obtain ⟨a4, c4, rfl⟩ := own_shape o4; have O4 := hide (own_two HN.out HM.out o4); have G4 := hide (gr_own G3.out g4 (fun j hj => (own_at o3.out hj).1)); have B4 := hide (gr_below B3.out g4 (fun j hj => Nat.le_trans (Bsz BW.out g2.out hW2.out) (own_at o3.out hj).1)); clear g4 o4 o3 B3 M3 G3)
        | (have t := B4; clear t; go_at_call 9; refine (HP2.out _ _ _ B4.out O4.out).mono ?_; rintro e w5 h5; obtain ⟨cb, cd, tb, td, kb, kd, rfl, q2, g5⟩ := h5.up G4.out; obtain ⟨W5, hW5⟩ : ∃ W5, W5 = w5.alloc (.cells (stC s2 cb cd tb td kb kd) 33) := ⟨_, rfl⟩; obtain ⟨P2, hP2⟩ : ∃ P2, P2 = w5.heap.size := ⟨_, rfl⟩; replace q2 := hide q2; replace g5 := hide g5; clear h5 B4 O4 G4 HP2; have N3 : Hid (W = W) := rfl)
        | (have t := N3; clear t; refine wpList_store_row rfl 33 _ _ rfl w5.heap.size (stC s2 cb cd tb td kb kd) rfl rfl _ _ (World.alloc_heap_new w5 _) (step_size _ _ _ _ _ _ _) rfl (step_one _ _ _ _ _ _ _) ?_; rw [setRow_alloc, ← hW5, ← hP2]; clear N3; have T2 := two_of q1.out g2.out hW2.out hP1.out q2.out g5.out hW5 hP2; clear hW5 hP2 hW2 hP1 q1 q2 g2 g5; have ST := hide (HS.out W5 _ _ T2.now.1 T2.now.2); replace T2 := hide T2; clear HS; have N4 : Hid (W = W) := rfl)
        | (have t := N4; clear t; refine wpList_load_row rfl 33 _ rfl P1 rfl _ _ _ _ T2.out.b1 Tryd.underlying33 rfl (step_size _ _ _ _ _ _ _) ?_; clear N4)
        | (refine wpList_load_row rfl 33 _ rfl P2 rfl _ _ _ _ T2.out.b2 Tryd.underlying33 rfl (step_size _ _ _ _ _ _ _) ?_)
        | (go_at_call 11; refine ST.out.mono ?_; rintro e w9 ⟨⟨b, rfl⟩, g9⟩; have X1 := (g9.block P1 (Nat.lt_trans T2.out.lt T2.out.hi) (by simp)).trans T2.out.b1; have X2 := (g9.block P2 T2.out.hi (by simp)).trans T2.out.b2; have y1 := (st_cells X1).1; have y2 := (st_cells X1).2.1; have y3 := (st_cells X1).2.2.2.1; have y4 := (st_cells X1).2.2.2.2; have z1 := (st_cells X2).1; have z4 := (st_cells X2).2.2.2.2; clear X1 X2; skip; replace g9 := hide g9))
      all_goals go_ret
      all_goals exact ⟨by first | rfl | (simp; done), Bt BW.out (below_gr (gr_trans T2.out.gr g9.out))⟩
  · have e21 := e12.symm
    clear e12
    subst e21
    have HS := hide (fun (w : World) (cs ds : Array Value) (h1 : StepAt w s1 cs) (h2 : StepAt w s1 ds) => steps_eq hf h1 h2)
    have b3 : (s1.e == 3) = false := by simpa using e3
    clear HR hf e3 hu hv hl hl2
    by_cases h2 : s1.e = 2
    · have HE := hide h2
      clear h2 b3
      rcases hline : s1.line with _ | _
      · have HLn := hide hline
        clear hline
        go_enter Tryd.func4, Tryd.ntmps4
        go_wp2_with (first
          | (go_at_call 8; refine (awake_any hL).mono ?_; rintro e w1 ⟨rfl, g1⟩; have B1 := hide (below_gr g1); clear g1)
          | (have t := B1; clear t; go_at_call 9; refine (HP.out _ B1.out).mono ?_; rintro e w2 ⟨ca, cc, ta, tc, ka, kc, rfl, q1, g2⟩; obtain ⟨W2, hW2⟩ : ∃ W2, W2 = w2.alloc (.cells (stC s1 ca cc ta tc ka kc) 33) := ⟨_, rfl⟩; obtain ⟨P1, hP1⟩ : ∃ P1, P1 = w2.heap.size := ⟨_, rfl⟩; replace q1 := hide q1; replace g2 := hide g2; have BW := hide B1.out; clear B1 HP; have N1 : Hid (W = W) := rfl)
          | (have t := N1; clear t; refine wpList_store_row rfl 33 _ _ rfl w2.heap.size (stC s1 ca cc ta tc ka kc) rfl rfl _ _ (World.alloc_heap_new w2 _) (step_size _ _ _ _ _ _ _) rfl (step_one _ _ _ _ _ _ _) ?_; rw [setRow_alloc, ← hW2, ← hP1]; clear N1; replace hW2 := hide hW2; replace hP1 := hide hP1; have GW : w1.grownBy W2 none := gr_trans g2.out (by rw [hW2.out]; exact World.grownBy_alloc _ _ _); have B2 := hide (Bt BW.out (below_gr GW)); clear GW)
          | (have t := B2; clear t; at_builtin; refine wpList_append_bs rfl _ _ rfl W2.heap.size _ 0 [] rfl (World.ownsRow_nil _ _ _ _) _ len cap u rfl HN.out (HU.out _ B2.out).b (by omega) (Nat.le_refl _) ?_; intro v3 w3 o3 g3 _; rw [Nat.zero_add] at o3; obtain ⟨a3, c3, rfl⟩ := own_shape o3; replace o3 := hide o3; have B3 := hide (Bt B2.out (below_gr g3)); have G3 := hide g3; have M3 := hide g3.size; clear g3 B2)
          | (have t := B3; clear t; at_builtin; refine wpList_append_bs rfl _ _ rfl W2.heap.size _ len _ rfl o3.out _ len2 cap2 v rfl HM.out (HV.out _ B3.out).b (by omega) M3.out ?_; intro v4 w4 o4 g4 _; obtain ⟨a4, c4, rfl⟩ := own_shape o4; have O4 := hide (own_two HN.out HM.out o4); have G4 := hide (gr_own G3.out g4 (fun j hj => (own_at o3.out hj).1)); have B4 := hide (gr_below B3.out g4 (fun j hj => Nat.le_trans (Bsz BW.out g2.out hW2.out) (own_at o3.out hj).1)); clear g4 o4 o3 B3 M3 G3)
          | (have t := B4; clear t; go_at_call 9; refine (HP2.out _ _ _ B4.out O4.out).mono ?_; rintro e w5 h5; obtain ⟨cb, cd, tb, td, kb, kd, rfl, q2, g5⟩ := h5.up G4.out; obtain ⟨W5, hW5⟩ : ∃ W5, W5 = w5.alloc (.cells (stC s1 cb cd tb td kb kd) 33) := ⟨_, rfl⟩; obtain ⟨P2, hP2⟩ : ∃ P2, P2 = w5.heap.size := ⟨_, rfl⟩; replace q2 := hide q2; replace g5 := hide g5; clear h5 B4 O4 G4 HP2; have N3 : Hid (W = W) := rfl)
          | (have t := N3; clear t; refine wpList_store_row rfl 33 _ _ rfl w5.heap.size (stC s1 cb cd tb td kb kd) rfl rfl _ _ (World.alloc_heap_new w5 _) (step_size _ _ _ _ _ _ _) rfl (step_one _ _ _ _ _ _ _) ?_; rw [setRow_alloc, ← hW5, ← hP2]; clear N3; have T2 := two_of q1.out g2.out hW2.out hP1.out q2.out g5.out hW5 hP2; clear hW5 hP2 hW2 hP1 q1 q2 g2 g5; have ST := hide (HS.out W5 _ _ T2.now.1 T2.now.2); replace T2 := hide T2; clear HS; have N4 : Hid (W = W) := rfl)
          | (have t := N4; clear t; refine wpList_load_row rfl 33 _ rfl P1 rfl _ _ _ _ T2.out.b1 Tryd.underlying33 rfl (step_size _ _ _ _ _ _ _) ?_; clear N4)
          | (refine wpList_load_row rfl 33 _ rfl P2 rfl _ _ _ _ T2.out.b2 Tryd.underlying33 rfl (step_size _ _ _ _ _ _ _) ?_)
          | (go_at_call 11; refine ST.out.mono ?_; rintro e w9 ⟨rfl, g9⟩; have X1 := (g9.block P1 (Nat.lt_trans T2.out.lt T2.out.hi) (by simp)).trans T2.out.b1; have X2 := (g9.block P2 T2.out.hi (by simp)).trans T2.out.b2; have y1 := (st_cells X1).1; have y2 := (st_cells X1).2.1; have y3 := (st_cells X1).2.2.2.1; have y4 := (st_cells X1).2.2.2.2; have z1 := (st_cells X2).1; have z4 := (st_cells X2).2.2.2.2; clear X1 X2; rw [HE.out] at y4; rw [HLn.out] at y3; replace g9 := hide g9))
        all_goals go_ret
        all_goals exact ⟨by first | rfl | (simp; done), Bt BW.out (below_gr (gr_trans T2.out.gr g9.out))⟩
      · have HLn := hide hline
        clear hline
        by_cases hq : s1.used = (len : Int)
        · have HQ := hide hq
          clear hq
          go_enter Tryd.func4, Tryd.ntmps4
          go_wp2_with (first
            | (go_at_call 8; refine (awake_any hL).mono ?_; rintro e w1 ⟨rfl, g1⟩; have B1 := hide (below_gr g1); clear g1)
            | (have t := B1; clear t; go_at_call 9; refine (HP.out _ B1.out).mono ?_; rintro e w2 ⟨ca, cc, ta, tc, ka, kc, rfl, q1, g2⟩; obtain ⟨W2, hW2⟩ : ∃ W2, W2 = w2.alloc (.cells (stC s1 ca cc ta tc ka kc) 33) := ⟨_, rfl⟩; obtain ⟨P1, hP1⟩ : ∃ P1, P1 = w2.heap.size := ⟨_, rfl⟩; replace q1 := hide q1; replace g2 := hide g2; have BW := hide B1.out; clear B1 HP; have N1 : Hid (W = W) := rfl)
            | (have t := N1; clear t; refine wpList_store_row rfl 33 _ _ rfl w2.heap.size (stC s1 ca cc ta tc ka kc) rfl rfl _ _ (World.alloc_heap_new w2 _) (step_size _ _ _ _ _ _ _) rfl (step_one _ _ _ _ _ _ _) ?_; rw [setRow_alloc, ← hW2, ← hP1]; clear N1; replace hW2 := hide hW2; replace hP1 := hide hP1; have GW : w1.grownBy W2 none := gr_trans g2.out (by rw [hW2.out]; exact World.grownBy_alloc _ _ _); have B2 := hide (Bt BW.out (below_gr GW)); clear GW)
            | (have t := B2; clear t; at_builtin; refine wpList_append_bs rfl _ _ rfl W2.heap.size _ 0 [] rfl (World.ownsRow_nil _ _ _ _) _ len cap u rfl HN.out (HU.out _ B2.out).b (by omega) (Nat.le_refl _) ?_; intro v3 w3 o3 g3 _; rw [Nat.zero_add] at o3; obtain ⟨a3, c3, rfl⟩ := own_shape o3; replace o3 := hide o3; have B3 := hide (Bt B2.out (below_gr g3)); have G3 := hide g3; have M3 := hide g3.size; clear g3 B2)
            | (have t := B3; clear t; at_builtin; refine wpList_append_bs rfl _ _ rfl W2.heap.size _ len _ rfl o3.out _ len2 cap2 v rfl HM.out (HV.out _ B3.out).b (by omega) M3.out ?_; intro v4 w4 o4 g4 _; obtain ⟨a4, c4, rfl⟩ := own_shape o4; have O4 := hide (own_two HN.out HM.out o4); have G4 := hide (gr_own G3.out g4 (fun j hj => (own_at o3.out hj).1)); have B4 := hide (gr_below B3.out g4 (fun j hj => Nat.le_trans (Bsz BW.out g2.out hW2.out) (own_at o3.out hj).1)); clear g4 o4 o3 B3 M3 G3)
            | (have t := B4; clear t; go_at_call 9; refine (HP2.out _ _ _ B4.out O4.out).mono ?_; rintro e w5 h5; obtain ⟨cb, cd, tb, td, kb, kd, rfl, q2, g5⟩ := h5.up G4.out; obtain ⟨W5, hW5⟩ : ∃ W5, W5 = w5.alloc (.cells (stC s1 cb cd tb td kb kd) 33) := ⟨_, rfl⟩; obtain ⟨P2, hP2⟩ : ∃ P2, P2 = w5.heap.size := ⟨_, rfl⟩; replace q2 := hide q2; replace g5 := hide g5; clear h5 B4 O4 G4 HP2; have N3 : Hid (W = W) := rfl)
            | (have t := N3; clear t; refine wpList_store_row rfl 33 _ _ rfl w5.heap.size (stC s1 cb cd tb td kb kd) rfl rfl _ _ (World.alloc_heap_new w5 _) (step_size _ _ _ _ _ _ _) rfl (step_one _ _ _ _ _ _ _) ?_; rw [setRow_alloc, ← hW5, ← hP2]; clear N3; have T2 := two_of q1.out g2.out hW2.out hP1.out q2.out g5.out hW5 hP2; clear hW5 hP2 hW2 hP1 q1 q2 g2 g5; have ST := hide (HS.out W5 _ _ T2.now.1 T2.now.2); replace T2 := hide T2; clear HS; have N4 : Hid (W = W) := rfl)
            | (have t := N4; clear t; refine wpList_load_row rfl 33 _ rfl P1 rfl _ _ _ _ T2.out.b1 Tryd.underlying33 rfl (step_size _ _ _ _ _ _ _) ?_; clear N4)
            | (refine wpList_load_row rfl 33 _ rfl P2 rfl _ _ _ _ T2.out.b2 Tryd.underlying33 rfl (step_size _ _ _ _ _ _ _) ?_)
            | (go_at_call 11; refine ST.out.mono ?_; rintro e w9 ⟨rfl, g9⟩; have X1 := (g9.block P1 (Nat.lt_trans T2.out.lt T2.out.hi) (by simp)).trans T2.out.b1; have X2 := (g9.block P2 T2.out.hi (by simp)).trans T2.out.b2; have y1 := (st_cells X1).1; have y2 := (st_cells X1).2.1; have y3 := (st_cells X1).2.2.2.1; have y4 := (st_cells X1).2.2.2.2; have z1 := (st_cells X2).1; have z4 := (st_cells X2).2.2.2.2; clear X1 X2; rw [HE.out] at y4; rw [HLn.out] at y3; rw [HQ.out] at y2; replace g9 := hide g9))
          all_goals go_ret
          all_goals exact ⟨by first | rfl | (simp; done), Bt BW.out (below_gr (gr_trans T2.out.gr g9.out))⟩
        · have bq : (s1.used == (len : Int)) = false := by simpa using hq
          clear hq
          go_enter Tryd.func4, Tryd.ntmps4
          go_wp2_with (first
            | (go_at_call 8; refine (awake_any hL).mono ?_; rintro e w1 ⟨rfl, g1⟩; have B1 := hide (below_gr g1); clear g1)
            | (have t := B1; clear t; go_at_call 9; refine (HP.out _ B1.out).mono ?_; rintro e w2 ⟨ca, cc, ta, tc, ka, kc, rfl, q1, g2⟩; obtain ⟨W2, hW2⟩ : ∃ W2, W2 = w2.alloc (.cells (stC s1 ca cc ta tc ka kc) 33) := ⟨_, rfl⟩; obtain ⟨P1, hP1⟩ : ∃ P1, P1 = w2.heap.size := ⟨_, rfl⟩; replace q1 := hide q1; replace g2 := hide g2; have BW := hide B1.out; clear B1 HP; have N1 : Hid (W = W) := rfl)
            | (have t := N1; clear t; refine wpList_store_row rfl 33 _ _ rfl w2.heap.size (stC s1 ca cc ta tc ka kc) rfl rfl _ _ (World.alloc_heap_new w2 _) (step_size _ _ _ _ _ _ _) rfl (step_one _ _ _ _ _ _ _) ?_; rw [setRow_alloc, ← hW2, ← hP1]; clear N1; replace hW2 := hide hW2; replace hP1 := hide hP1; have GW : w1.grownBy W2 none := gr_trans g2.out (by rw [hW2.out]; exact World.grownBy_alloc _ _ _); have B2 := hide (Bt BW.out (below_gr GW)); clear GW)
            | (have t := B2; clear t; at_builtin; refine wpList_append_bs rfl _ _ rfl W2.heap.size _ 0 [] rfl (World.ownsRow_nil _ _ _ _) _ len cap u rfl HN.out (HU.out _ B2.out).b (by omega) (Nat.le_refl _) ?_; intro v3 w3 o3 g3 _; rw [Nat.zero_add] at o3; obtain ⟨a3, c3, rfl⟩ := own_shape o3; replace o3 := hide o3; have B3 := hide (Bt B2.out (below_gr g3)); have G3 := hide g3; have M3 := hide g3.size; clear g3 B2)
            | (have t := B3; clear t; at_builtin; refine wpList_append_bs rfl _ _ rfl W2.heap.size _ len _ rfl o3.out _ len2 cap2 v rfl HM.out (HV.out _ B3.out).b (by omega) M3.out ?_; intro v4 w4 o4 g4 _; obtain ⟨a4, c4, rfl⟩ := own_shape o4; have O4 := hide (own_two HN.out HM.out o4); have G4 := hide (gr_own G3.out g4 (fun j hj => (own_at o3.out hj).1)); have B4 := hide (gr_below B3.out g4 (fun j hj => Nat.le_trans (Bsz BW.out g2.out hW2.out) (own_at o3.out hj).1)); clear g4 o4 o3 B3 M3 G3)
            | (have t := B4; clear t; go_at_call 9; refine (HP2.out _ _ _ B4.out O4.out).mono ?_; rintro e w5 h5; obtain ⟨cb, cd, tb, td, kb, kd, rfl, q2, g5⟩ := h5.up G4.out; obtain ⟨W5, hW5⟩ : ∃ W5, W5 = w5.alloc (.cells (stC s1 cb cd tb td kb kd) 33) := ⟨_, rfl⟩; obtain ⟨P2, hP2⟩ : ∃ P2, P2 = w5.heap.size := ⟨_, rfl⟩; replace q2 := hide q2; replace g5 := hide g5; clear h5 B4 O4 G4 HP2; have N3 : Hid (W = W) := rfl)
            | (have t := N3; clear t; refine wpList_store_row rfl 33 _ _ rfl w5.heap.size (stC s1 cb cd tb td kb kd) rfl rfl _ _ (World.alloc_heap_new w5 _) (step_size _ _ _ _ _ _ _) rfl (step_one _ _ _ _ _ _ _) ?_; rw [setRow_alloc, ← hW5, ← hP2]; clear N3; have T2 := two_of q1.out g2.out hW2.out hP1.out q2.out g5.out hW5 hP2; clear hW5 hP2 hW2 hP1 q1 q2 g2 g5; have ST := hide (HS.out W5 _ _ T2.now.1 T2.now.2); replace T2 := hide T2; clear HS; have N4 : Hid (W = W) := rfl)
            | (have t := N4; clear t; refine wpList_load_row rfl 33 _ rfl P1 rfl _ _ _ _ T2.out.b1 Tryd.underlying33 rfl (step_size _ _ _ _ _ _ _) ?_; clear N4)
            | (refine wpList_load_row rfl 33 _ rfl P2 rfl _ _ _ _ T2.out.b2 Tryd.underlying33 rfl (step_size _ _ _ _ _ _ _) ?_)
            | (go_at_call 11; refine ST.out.mono ?_; rintro e w9 ⟨rfl, g9⟩; have X1 := (g9.block P1 (Nat.lt_trans T2.out.lt T2.out.hi) (by simp)).trans T2.out.b1; have X2 := (g9.block P2 T2.out.hi (by simp)).trans T2.out.b2; have y1 := (st_cells X1).1; have y2 := (st_cells X1).2.1; have y3 := (st_cells X1).2.2.2.1; have y4 := (st_cells X1).2.2.2.2; have z1 := (st_cells X2).1; have z4 := (st_cells X2).2.2.2.2; clear X1 X2; rw [HE.out] at y4; rw [HLn.out] at y3; replace g9 := hide g9))
          all_goals go_ret
          all_goals exact ⟨by first | rfl | (simp; done), Bt BW.out (below_gr (gr_trans T2.out.gr g9.out))⟩
    · have b2 : (s1.e == 2) = false := by simpa using h2
      clear h2
      go_enter Tryd.func4, Tryd.ntmps4
      go_wp2_with (first
        | (go_at_call 8; refine (awake_any hL).mono ?_; rintro e w1 ⟨rfl, g1⟩; have B1 := hide (below_gr g1); clear g1)
        | (have t := B1; clear t; go_at_call 9; refine (HP.out _ B1.out).mono ?_; rintro e w2 ⟨ca, cc, ta, tc, ka, kc, rfl, q1, g2⟩; obtain ⟨W2, hW2⟩ : ∃ W2, W2 = w2.alloc (.cells (stC s1 ca cc ta tc ka kc) 33) := ⟨_, rfl⟩; obtain ⟨P1, hP1⟩ : ∃ P1, P1 = w2.heap.size := ⟨_, rfl⟩; replace q1 := hide q1; replace g2 := hide g2; have BW := hide B1.out; clear B1 HP; have N1 : Hid (W = W) := rfl)
        | (have t := N1; clear t; refine wpList_store_row rfl 33 _ _ rfl w2.heap.size (stC s1 ca cc ta tc ka kc) rfl rfl _ _ (World.alloc_heap_new w2 _) (step_size _ _ _ _ _ _ _) rfl (step_one _ _ _ _ _ _ _) ?_; rw [setRow_alloc, ← hW2, ← hP1]; clear N1; replace hW2 := hide hW2; replace hP1 := hide hP1; have GW : w1.grownBy W2 none := gr_trans g2.out (by rw [hW2.out]; exact World.grownBy_alloc _ _ _); have B2 := hide (Bt BW.out (below_gr GW)); clear GW)
        | (have t := B2; clear t; at_builtin; refine wpList_append_bs rfl _ _ rfl W2.heap.size _ 0 [] rfl (World.ownsRow_nil _ _ _ _) _ len cap u rfl HN.out (HU.out _ B2.out).b (by omega) (Nat.le_refl _) ?_; intro v3 w3 o3 g3 _; rw [Nat.zero_add] at o3; obtain ⟨a3, c3, rfl⟩ := own_shape o3; replace o3 := hide o3; have B3 := hide (Bt B2.out (below_gr g3)); have G3 := hide g3; have M3 := hide g3.size; clear g3 B2)
        | (have t := B3; clear t; at_builtin; refine wpList_append_bs rfl _ _ rfl W2.heap.size _ len _ rfl o3.out _ len2 cap2 v rfl HM.out (HV.out _ B3.out).b (by omega) M3.out ?_; intro v4 w4 o4 g4 _; obtain ⟨a4, c4, rfl⟩ := own_shape o4; have O4 := hide (own_two HN.out HM.out o4); have G4 := hide (gr_own G3.out g4 (fun j hj => (own_at o3.out hj).1)); have B4 := hide (gr_below B3.out g4 (fun j hj => Nat.le_trans (Bsz BW.out g2.out hW2.out) (own_at o3.out hj).1)); clear g4 o4 o3 B3 M3 G3)
        | (have t := B4; clear t; go_at_call 9; refine (HP2.out _ _ _ B4.out O4.out).mono ?_; rintro e w5 h5; obtain ⟨cb, cd, tb, td, kb, kd, rfl, q2, g5⟩ := h5.up G4.out; obtain ⟨W5, hW5⟩ : ∃ W5, W5 = w5.alloc (.cells (stC s1 cb cd tb td kb kd) 33) := ⟨_, rfl⟩; obtain ⟨P2, hP2⟩ : ∃ P2, P2 = w5.heap.size := ⟨_, rfl⟩; replace q2 := hide q2; replace g5 := hide g5; clear h5 B4 O4 G4 HP2; have N3 : Hid (W = W) := rfl)
        | (have t := N3; clear t; refine wpList_store_row rfl 33 _ _ rfl w5.heap.size (stC s1 cb cd tb td kb kd) rfl rfl _ _ (World.alloc_heap_new w5 _) (step_size _ _ _ _ _ _ _) rfl (step_one _ _ _ _ _ _ _) ?_; rw [setRow_alloc, ← hW5, ← hP2]; clear N3; have T2 := two_of q1.out g2.out hW2.out hP1.out q2.out g5.out hW5 hP2; clear hW5 hP2 hW2 hP1 q1 q2 g2 g5; have ST := hide (HS.out W5 _ _ T2.now.1 T2.now.2); replace T2 := hide T2; clear HS; have N4 : Hid (W = W) := rfl)
        | (have t := N4; clear t; refine wpList_load_row rfl 33 _ rfl P1 rfl _ _ _ _ T2.out.b1 Tryd.underlying33 rfl (step_size _ _ _ _ _ _ _) ?_; clear N4)
        | (refine wpList_load_row rfl 33 _ rfl P2 rfl _ _ _ _ T2.out.b2 Tryd.underlying33 rfl (step_size _ _ _ _ _ _ _) ?_)
        | (go_at_call 11; refine ST.out.mono ?_; rintro e w9 ⟨rfl, g9⟩; have X1 := (g9.block P1 (Nat.lt_trans T2.out.lt T2.out.hi) (by simp)).trans T2.out.b1; have X2 := (g9.block P2 T2.out.hi (by simp)).trans T2.out.b2; have y1 := (st_cells X1).1; have y2 := (st_cells X1).2.1; have y3 := (st_cells X1).2.2.2.1; have y4 := (st_cells X1).2.2.2.2; have z1 := (st_cells X2).1; have z4 := (st_cells X2).2.2.2.2; clear X1 X2; skip; replace g9 := hide g9))
      all_goals go_ret
      all_goals exact ⟨by first | rfl | (simp; done), Bt BW.out (below_gr (gr_trans T2.out.gr g9.out))⟩
  · have HC : Hid (s1.e = 2 ∧ s1.line = true ∧ s1.used = (len : Int) ∧ s2.e = 2 ∧ s2.reply = s1.reply) := by subst m1 m2; exact ⟨rfl, rfl, rfl, rfl, rfl⟩
    have r1 : s1.req = noQ := by subst m1; rfl
    have r2 : s2.req = noQ := by subst m2; rfl
    have HS := hide (fun (w : World) (cs ds : Array Value) (h1 : StepAt w s1 cs) (h2 : StepAt w s2 ds) => steps_some r1 (.inl r2) h1 h2)
    clear HR hu hv hl hl2 m1 m2 r1 r2
    ·
      go_enter Tryd.func4, Tryd.ntmps4
      go_wp2_with (first
        | (go_at_call 8; refine (awake_any hL).mono ?_; rintro e w1 ⟨rfl, g1⟩; have B1 := hide (below_gr g1); clear g1)
        | (have t := B1; clear t; go_at_call 9; refine (HP.out _ B1.out).mono ?_; rintro e w2 ⟨ca, cc, ta, tc, ka, kc, rfl, q1, g2⟩; obtain ⟨W2, hW2⟩ : ∃ W2, W2 = w2.alloc (.cells (stC s1 ca cc ta tc ka kc) 33) := ⟨_, rfl⟩; obtain ⟨P1, hP1⟩ : ∃ P1, P1 = w2.heap.size := ⟨_, rfl⟩; replace q1 := hide q1; replace g2 := hide g2; have BW := hide B1.out; clear B1 HP; have N1 : Hid (W = W) := rfl)
        | (have t := N1; clear t; refine wpList_store_row rfl 33 _ _ rfl w2.heap.size (stC s1 ca cc ta tc ka kc) rfl rfl _ _ (World.alloc_heap_new w2 _) (step_size _ _ _ _ _ _ _) rfl (step_one _ _ _ _ _ _ _) ?_; rw [setRow_alloc, ← hW2, ← hP1]; clear N1; replace hW2 := hide hW2; replace hP1 := hide hP1; have GW : w1.grownBy W2 none := gr_trans g2.out (by rw [hW2.out]; exact World.grownBy_alloc _ _ _); have B2 := hide (Bt BW.out (below_gr GW)); clear GW)
        | (have t := B2; clear t; at_builtin; refine wpList_append_bs rfl _ _ rfl W2.heap.size _ 0 [] rfl (World.ownsRow_nil _ _ _ _) _ len cap u rfl HN.out (HU.out _ B2.out).b (by omega) (Nat.le_refl _) ?_; intro v3 w3 o3 g3 _; rw [Nat.zero_add] at o3; obtain ⟨a3, c3, rfl⟩ := own_shape o3; replace o3 := hide o3; have B3 := hide (Bt B2.out (below_gr g3)); have G3 := hide g3; have M3 := hide g3.size; clear g3 B2)
        | (have t := B3; clear t; at_builtin; refine wpList_append_bs rfl _ _ rfl W2.heap.size _ len _ rfl o3.out _ len2 cap2 v rfl HM.out (HV.out _ B3.out).b (by omega) M3.out ?_; intro v4 w4 o4 g4 _; obtain ⟨a4, c4, rfl⟩ := own_shape o4; have O4 := hide (own_two HN.out HM.out o4); have G4 := hide (gr_own G3.out g4 (fun j hj => (own_at o3.out hj).1)); have B4 := hide (gr_below B3.out g4 (fun j hj => Nat.le_trans (Bsz BW.out g2.out hW2.out) (own_at o3.out hj).1)); clear g4 o4 o3 B3 M3 G3)
        | (have t := B4; clear t; go_at_call 9; refine (HP2.out _ _ _ B4.out O4.out).mono ?_; rintro e w5 h5; obtain ⟨cb, cd, tb, td, kb, kd, rfl, q2, g5⟩ := h5.up G4.out; obtain ⟨W5, hW5⟩ : ∃ W5, W5 = w5.alloc (.cells (stC s2 cb cd tb td kb kd) 33) := ⟨_, rfl⟩; obtain ⟨P2, hP2⟩ : ∃ P2, P2 = w5.heap.size := ⟨_, rfl⟩; replace q2 := hide q2; replace g5 := hide g5; clear h5 B4 O4 G4 HP2; have N3 : Hid (W = W) := rfl)
        | (have t := N3; clear t; refine wpList_store_row rfl 33 _ _ rfl w5.heap.size (stC s2 cb cd tb td kb kd) rfl rfl _ _ (World.alloc_heap_new w5 _) (step_size _ _ _ _ _ _ _) rfl (step_one _ _ _ _ _ _ _) ?_; rw [setRow_alloc, ← hW5, ← hP2]; clear N3; have T2 := two_of q1.out g2.out hW2.out hP1.out q2.out g5.out hW5 hP2; clear hW5 hP2 hW2 hP1 q1 q2 g2 g5; have ST := hide (HS.out W5 _ _ T2.now.1 T2.now.2); replace T2 := hide T2; clear HS; have N4 : Hid (W = W) := rfl)
        | (have t := N4; clear t; refine wpList_load_row rfl 33 _ rfl P1 rfl _ _ _ _ T2.out.b1 Tryd.underlying33 rfl (step_size _ _ _ _ _ _ _) ?_; clear N4)
        | (refine wpList_load_row rfl 33 _ rfl P2 rfl _ _ _ _ T2.out.b2 Tryd.underlying33 rfl (step_size _ _ _ _ _ _ _) ?_)
        | (go_at_call 11; refine ST.out.mono ?_; rintro e w9 ⟨⟨b9, rfl⟩, g9⟩; have X1 := (g9.block P1 (Nat.lt_trans T2.out.lt T2.out.hi) (by simp)).trans T2.out.b1; have X2 := (g9.block P2 T2.out.hi (by simp)).trans T2.out.b2; have y1 := (st_cells X1).1; have y2 := (st_cells X1).2.1; have y3 := (st_cells X1).2.2.2.1; have y4 := (st_cells X1).2.2.2.2; have z1 := (st_cells X2).1; have z4 := (st_cells X2).2.2.2.2; clear X1 X2; rw [HC.out.1] at y4; rw [HC.out.2.1] at y3; rw [HC.out.2.2.1] at y2; rw [HC.out.2.2.2.1] at z4; rw [HC.out.2.2.2.2] at z1; replace g9 := hide g9))
      all_goals go_ret
      all_goals exact ⟨by first | rfl | (simp; done) | (cases b9 <;> simp; done), Bt BW.out (below_gr (gr_trans T2.out.gr g9.out))⟩
set_option maxRecDepth 100000 in
set_option maxHeartbeats 1000000 in
theorem more_far (hL : Laid W) (h : 5000 < len ∨ 1000 < len2) : Calls Tryd.prog 4 #[.slice a len cap, .slice a2 len2 cap2] W fun e W' => e = .returned (.bool true) ∧ Below W.heap.size W W' := by
  by_cases h1 : 5000 < len
  · have hsi : (5000 : Int) < (len : Int) := by omega
    clear h
    go_enter Tryd.func4, Tryd.ntmps4
    go_wp2_with (go_at_call 8; refine (awake_any hL).mono ?_; rintro e w1 ⟨rfl, g1⟩; replace g1 := hide g1)
    go_ret
    exact ⟨rfl, below_gr g1.out⟩
  · have hsi : ¬ (5000 : Int) < (len : Int) := by omega
    have hsj : (1000 : Int) < (len2 : Int) := by omega
    clear h
    go_enter Tryd.func4, Tryd.ntmps4
    go_wp2_with (go_at_call 8; refine (awake_any hL).mono ?_; rintro e w1 ⟨rfl, g1⟩; replace g1 := hide g1)
    go_ret
    exact ⟨rfl, below_gr g1.out⟩
end
theorem textinMore_walk (W : World) (a0 : Option Addr) (len0 cap0 : Nat) (z0 : List Int) (w0 : IsRow .u8 W a0 len0 cap0 z0) (a1 : Option Addr) (len1 cap1 : Nat) (z1 : List Int) (w1 : IsRow .u8 W a1 len1 cap1 z1) (hL : Laid W) :
    Calls Tryd.prog 4 #[.slice a0 len0 cap0, .slice a1 len1 cap1] W fun e W' => e = .returned (.bool true) ∧ Below W.heap.size W W' := by
  obtain ⟨u, hu⟩ := Bu.of w0
  obtain ⟨v, hv⟩ := Bu.of w1
  by_cases h : 5000 < len0 ∨ 1000 < len1
  · exact more_far hL h
  · exact more_in hL hu hv (by omega) (by omega)
end Go.Proofs.YthofdmepofepgaaDoor
