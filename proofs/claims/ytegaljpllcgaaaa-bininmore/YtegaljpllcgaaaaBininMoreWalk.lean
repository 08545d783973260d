/- BininMore returns true for every two rows of bytes and every number, and writes nothing that was there. Conditions: none. -/
import Derived.Test.YtegaljpllcgaaaaBinTwo
namespace Go.Proofs.Ytegaljpllcgaaaa
set_option linter.unusedVariables false
open Go.RowKit

section
variable {W : World} {a a2 : Option Addr} {len cap len2 cap2 : Nat} {u v : List UInt8} {z : Int}
set_option maxRecDepth 100000 in
set_option maxHeartbeats 4000000 in
theorem more_a {s2 : Sv} (hu : Bu W a len cap u) (hv : Bu W a2 len2 cap2 v) (hl : len ≤ 5000) (hl2 : len2 ≤ 1000) (h1 : parse16 u = bareB 3) (h2 : parse16 (u ++ v) = s2) (hr : s2.req = noQ ∨ 0 < s2.req.cmds.length) : Calls Try.prog 5 #[.slice a len cap, .slice a2 len2 cap2, .int .i64 z] W fun e W' => e = .returned (.bool true) ∧ Below W.heap.size W W' := by
  have hli : (len : Int) ≤ 5000 := by omega
  have hli2 : (len2 : Int) ≤ 1000 := by omega
  have HN := hide hu.n
  have HM := hide hv.n
  have HU := hide (fun (w : World) (h : Below W.heap.size W w) => hu.on h)
  have HV := hide (fun (w : World) (h : Below W.heap.size W w) => hv.on h)
  have HP := hide (fun (w : World) (h : Below W.heap.size W w) => pcall (gr_refl w none) (hu.on h) (by omega) h1)
  have HP2 := hide (fun (w : World) (a3 : Option Addr) (c3 : Nat) (h : Below W.heap.size W w) (hb : Bu w a3 (len + len2) c3 (u ++ v)) => pcall (gr_refl w none) hb (by omega) h2)
  have HS := hide (fun (w : World) (cs ds : Array Value) (h1 : StepAt w (bareB 3) cs) (h2 : StepAt w s2 ds) => steps_some rfl hr h1 h2)
  clear hr hu hv hl hl2 h1 h2
  go_enter Try.func5, Try.ntmps5
  go_wp2_with (first
        | (go_at_call 9; refine awake_any.mono ?_; rintro e w1 ⟨rfl, g1⟩; have B1 := hide (below_gr g1); clear g1)
        | (have t := B1; clear t; go_at_call 11; refine (HP.out _ B1.out).mono ?_; rintro e w2 ⟨ca, cc, ta, tc, ka, kc, rfl, q1, g2⟩; obtain ⟨W2, hW2⟩ : ∃ W2, W2 = w2.alloc (.cells (stC (bareB 3) ca cc ta tc ka kc) 34) := ⟨_, rfl⟩; obtain ⟨P1, hP1⟩ : ∃ P1, P1 = w2.heap.size := ⟨_, rfl⟩; replace q1 := hide q1; replace g2 := hide g2; have BW := hide B1.out; clear B1 HP; have N1 : Hid (W = W) := rfl)
        | (have t := N1; clear t; refine wpList_store_row rfl 34 _ _ rfl w2.heap.size (stC (bareB 3) ca cc ta tc ka kc) rfl rfl _ _ (World.alloc_heap_new w2 _) (step_size _ _ _ _ _ _ _) rfl (step_one _ _ _ _ _ _ _) ?_; rw [setRow_alloc, ← hW2, ← hP1]; clear N1; replace hW2 := hide hW2; replace hP1 := hide hP1; have GW : w1.grownBy W2 none := gr_trans g2.out (by rw [hW2.out]; exact World.grownBy_alloc _ _ _); have B2 := hide (Bt BW.out (below_gr GW)); clear GW)
        | (have t := B2; clear t; at_builtin; refine wpList_append_bs rfl _ _ rfl W2.heap.size _ 0 [] rfl (World.ownsRow_nil _ _ _ _) _ len cap u rfl HN.out (HU.out _ B2.out).b (by omega) (Nat.le_refl _) ?_; intro v3 w3 o3 g3 _; rw [Nat.zero_add] at o3; obtain ⟨a3, c3, rfl⟩ := own_shape o3; replace o3 := hide o3; have B3 := hide (Bt B2.out (below_gr g3)); have G3 := hide g3; have M3 := hide g3.size; clear g3 B2)
        | (have t := B3; clear t; at_builtin; refine wpList_append_bs rfl _ _ rfl W2.heap.size _ len _ rfl o3.out _ len2 cap2 v rfl HM.out (HV.out _ B3.out).b (by omega) M3.out ?_; intro v4 w4 o4 g4 _; obtain ⟨a4, c4, rfl⟩ := own_shape o4; have O4 := hide (own_two HN.out HM.out o4); have G4 := hide (gr_own G3.out g4 (fun j hj => (own_at o3.out hj).1)); have B4 := hide (gr_below B3.out g4 (fun j hj => Nat.le_trans (Bsz BW.out g2.out hW2.out) (own_at o3.out hj).1)); clear g4 o4 o3 B3 M3 G3)
        | (have t := B4; clear t; go_at_call 11; refine (HP2.out _ _ _ B4.out O4.out).mono ?_; rintro e w5 ⟨cb, cd, tb, td, kb, kd, rfl, q2, g5⟩; obtain ⟨W5, hW5⟩ : ∃ W5, W5 = w5.alloc (.cells (stC s2 cb cd tb td kb kd) 34) := ⟨_, rfl⟩; obtain ⟨P2, hP2⟩ : ∃ P2, P2 = w5.heap.size := ⟨_, rfl⟩; replace q2 := hide q2; replace g5 := hide (gr_trans G4.out g5); clear B4 O4 G4 HP2; have N3 : Hid (W = W) := rfl)
        | (have t := N3; clear t; refine wpList_store_row rfl 34 _ _ rfl w5.heap.size (stC s2 cb cd tb td kb kd) rfl rfl _ _ (World.alloc_heap_new w5 _) (step_size _ _ _ _ _ _ _) rfl (step_one _ _ _ _ _ _ _) ?_; rw [setRow_alloc, ← hW5, ← hP2]; clear N3; have T2 := twoB_of q1.out g2.out hW2.out hP1.out q2.out g5.out hW5 hP2; clear hW5 hP2 hW2 hP1 q1 q2 g2 g5; have ST := hide (HS.out W5 _ _ T2.now.1 T2.now.2); replace T2 := hide T2; clear HS; have N4 : Hid (W = W) := rfl)
        | (have t := N4; clear t; refine wpList_load_row rfl 34 _ rfl P1 rfl _ _ _ _ T2.out.b1 Try.underlying34 rfl (step_size _ _ _ _ _ _ _) ?_; clear N4)
        | (refine wpList_load_row rfl 34 _ rfl P2 rfl _ _ _ _ T2.out.b2 Try.underlying34 rfl (step_size _ _ _ _ _ _ _) ?_)
        | (go_at_call 10; refine ST.out.mono ?_; rintro e w9 ⟨⟨b9, rfl⟩, g9⟩; have X1 := (g9.block P1 (Nat.lt_trans T2.out.lt T2.out.hi) (by simp)).trans T2.out.b1; have y2 := (st_cells X1).2.1; have y4 := (st_cells X1).2.2.2.2; clear X1; change w9.cell? ⟨P1, 15, none⟩ = some (.int .i64 3) at y4; replace g9 := hide g9))
  all_goals go_ret
  all_goals exact ⟨by first | rfl | (simp; done), Bt BW.out (below_gr (gr_trans T2.out.gr g9.out))⟩
set_option maxRecDepth 100000 in
set_option maxHeartbeats 4000000 in
theorem more_b {s1 : Sv} (hu : Bu W a len cap u) (hv : Bu W a2 len2 cap2 v) (hl : len ≤ 5000) (hl2 : len2 ≤ 1000) (h1 : parse16 u = s1) (h2 : parse16 (u ++ v) = s1) (hf : Few1 s1.req) (he : s1.e = 9) : Calls Try.prog 5 #[.slice a len cap, .slice a2 len2 cap2, .int .i64 z] W fun e W' => e = .returned (.bool true) ∧ Below W.heap.size W W' := by
  have hli : (len : Int) ≤ 5000 := by omega
  have hli2 : (len2 : Int) ≤ 1000 := by omega
  have HN := hide hu.n
  have HM := hide hv.n
  have HU := hide (fun (w : World) (h : Below W.heap.size W w) => hu.on h)
  have HV := hide (fun (w : World) (h : Below W.heap.size W w) => hv.on h)
  have HP := hide (fun (w : World) (h : Below W.heap.size W w) => pcall (gr_refl w none) (hu.on h) (by omega) h1)
  have HP2 := hide (fun (w : World) (a3 : Option Addr) (c3 : Nat) (h : Below W.heap.size W w) (hb : Bu w a3 (len + len2) c3 (u ++ v)) => pcall (gr_refl w none) hb (by omega) h2)
  have HS := hide (fun (w : World) (cs ds : Array Value) (h1 : StepAt w s1 cs) (h2 : StepAt w s1 ds) => steps_eq hf h1 h2)
  have HE := hide he
  clear hf hu hv hl hl2 h1 h2 he
  go_enter Try.func5, Try.ntmps5
  go_wp2_with (first
        | (go_at_call 9; refine awake_any.mono ?_; rintro e w1 ⟨rfl, g1⟩; have B1 := hide (below_gr g1); clear g1)
        | (have t := B1; clear t; go_at_call 11; refine (HP.out _ B1.out).mono ?_; rintro e w2 ⟨ca, cc, ta, tc, ka, kc, rfl, q1, g2⟩; obtain ⟨W2, hW2⟩ : ∃ W2, W2 = w2.alloc (.cells (stC s1 ca cc ta tc ka kc) 34) := ⟨_, rfl⟩; obtain ⟨P1, hP1⟩ : ∃ P1, P1 = w2.heap.size := ⟨_, rfl⟩; replace q1 := hide q1; replace g2 := hide g2; have BW := hide B1.out; clear B1 HP; have N1 : Hid (W = W) := rfl)
        | (have t := N1; clear t; refine wpList_store_row rfl 34 _ _ rfl w2.heap.size (stC s1 ca cc ta tc ka kc) rfl rfl _ _ (World.alloc_heap_new w2 _) (step_size _ _ _ _ _ _ _) rfl (step_one _ _ _ _ _ _ _) ?_; rw [setRow_alloc, ← hW2, ← hP1]; clear N1; replace hW2 := hide hW2; replace hP1 := hide hP1; have GW : w1.grownBy W2 none := gr_trans g2.out (by rw [hW2.out]; exact World.grownBy_alloc _ _ _); have B2 := hide (Bt BW.out (below_gr GW)); clear GW)
        | (have t := B2; clear t; at_builtin; refine wpList_append_bs rfl _ _ rfl W2.heap.size _ 0 [] rfl (World.ownsRow_nil _ _ _ _) _ len cap u rfl HN.out (HU.out _ B2.out).b (by omega) (Nat.le_refl _) ?_; intro v3 w3 o3 g3 _; rw [Nat.zero_add] at o3; obtain ⟨a3, c3, rfl⟩ := own_shape o3; replace o3 := hide o3; have B3 := hide (Bt B2.out (below_gr g3)); have G3 := hide g3; have M3 := hide g3.size; clear g3 B2)
        | (have t := B3; clear t; at_builtin; refine wpList_append_bs rfl _ _ rfl W2.heap.size _ len _ rfl o3.out _ len2 cap2 v rfl HM.out (HV.out _ B3.out).b (by omega) M3.out ?_; intro v4 w4 o4 g4 _; obtain ⟨a4, c4, rfl⟩ := own_shape o4; have O4 := hide (own_two HN.out HM.out o4); have G4 := hide (gr_own G3.out g4 (fun j hj => (own_at o3.out hj).1)); have B4 := hide (gr_below B3.out g4 (fun j hj => Nat.le_trans (Bsz BW.out g2.out hW2.out) (own_at o3.out hj).1)); clear g4 o4 o3 B3 M3 G3)
        | (have t := B4; clear t; go_at_call 11; refine (HP2.out _ _ _ B4.out O4.out).mono ?_; rintro e w5 ⟨cb, cd, tb, td, kb, kd, rfl, q2, g5⟩; obtain ⟨W5, hW5⟩ : ∃ W5, W5 = w5.alloc (.cells (stC s1 cb cd tb td kb kd) 34) := ⟨_, rfl⟩; obtain ⟨P2, hP2⟩ : ∃ P2, P2 = w5.heap.size := ⟨_, rfl⟩; replace q2 := hide q2; replace g5 := hide (gr_trans G4.out g5); clear B4 O4 G4 HP2; have N3 : Hid (W = W) := rfl)
        | (have t := N3; clear t; refine wpList_store_row rfl 34 _ _ rfl w5.heap.size (stC s1 cb cd tb td kb kd) rfl rfl _ _ (World.alloc_heap_new w5 _) (step_size _ _ _ _ _ _ _) rfl (step_one _ _ _ _ _ _ _) ?_; rw [setRow_alloc, ← hW5, ← hP2]; clear N3; have T2 := twoB_of q1.out g2.out hW2.out hP1.out q2.out g5.out hW5 hP2; clear hW5 hP2 hW2 hP1 q1 q2 g2 g5; have ST := hide (HS.out W5 _ _ T2.now.1 T2.now.2); replace T2 := hide T2; clear HS; have N4 : Hid (W = W) := rfl)
        | (have t := N4; clear t; refine wpList_load_row rfl 34 _ rfl P1 rfl _ _ _ _ T2.out.b1 Try.underlying34 rfl (step_size _ _ _ _ _ _ _) ?_; clear N4)
        | (refine wpList_load_row rfl 34 _ rfl P2 rfl _ _ _ _ T2.out.b2 Try.underlying34 rfl (step_size _ _ _ _ _ _ _) ?_)
        | (go_at_call 10; refine ST.out.mono ?_; rintro e w9 ⟨rfl, g9⟩; have X1 := (g9.block P1 (Nat.lt_trans T2.out.lt T2.out.hi) (by simp)).trans T2.out.b1; have y2 := (st_cells X1).2.1; have y4 := (st_cells X1).2.2.2.2; clear X1; rw [HE.out] at y4; replace g9 := hide g9))
  all_goals go_ret
  all_goals exact ⟨by first | rfl | (simp; done), Bt BW.out (below_gr (gr_trans T2.out.gr g9.out))⟩
set_option maxRecDepth 100000 in
set_option maxHeartbeats 4000000 in
theorem more_c {s1 : Sv} {n x : Int} (hu : Bu W a len cap u) (hv : Bu W a2 len2 cap2 v) (hl : len ≤ 5000) (hl2 : len2 ≤ 1000) (h1 : parse16 u = s1) (h2 : parse16 (u ++ v) = s1) (hf : Few1 s1.req) (he : s1.e = x) (hx3 : (x == 3) = false) (hx9 : (x == 9) = false) (hn : s1.used = n) (hc : z < 0) : Calls Try.prog 5 #[.slice a len cap, .slice a2 len2 cap2, .int .i64 z] W fun e W' => e = .returned (.bool true) ∧ Below W.heap.size W W' := by
  have hli : (len : Int) ≤ 5000 := by omega
  have hli2 : (len2 : Int) ≤ 1000 := by omega
  have HN := hide hu.n
  have HM := hide hv.n
  have HU := hide (fun (w : World) (h : Below W.heap.size W w) => hu.on h)
  have HV := hide (fun (w : World) (h : Below W.heap.size W w) => hv.on h)
  have HP := hide (fun (w : World) (h : Below W.heap.size W w) => pcall (gr_refl w none) (hu.on h) (by omega) h1)
  have HP2 := hide (fun (w : World) (a3 : Option Addr) (c3 : Nat) (h : Below W.heap.size W w) (hb : Bu w a3 (len + len2) c3 (u ++ v)) => pcall (gr_refl w none) hb (by omega) h2)
  have HS := hide (fun (w : World) (cs ds : Array Value) (h1 : StepAt w s1 cs) (h2 : StepAt w s1 ds) => steps_eq hf h1 h2)
  have HE := hide he
  have HQ := hide hn
  clear hf hu hv hl hl2 h1 h2 he hn
  go_enter Try.func5, Try.ntmps5
  go_wp2_with (first
        | (go_at_call 9; refine awake_any.mono ?_; rintro e w1 ⟨rfl, g1⟩; have B1 := hide (below_gr g1); clear g1)
        | (have t := B1; clear t; go_at_call 11; refine (HP.out _ B1.out).mono ?_; rintro e w2 ⟨ca, cc, ta, tc, ka, kc, rfl, q1, g2⟩; obtain ⟨W2, hW2⟩ : ∃ W2, W2 = w2.alloc (.cells (stC s1 ca cc ta tc ka kc) 34) := ⟨_, rfl⟩; obtain ⟨P1, hP1⟩ : ∃ P1, P1 = w2.heap.size := ⟨_, rfl⟩; replace q1 := hide q1; replace g2 := hide g2; have BW := hide B1.out; clear B1 HP; have N1 : Hid (W = W) := rfl)
        | (have t := N1; clear t; refine wpList_store_row rfl 34 _ _ rfl w2.heap.size (stC s1 ca cc ta tc ka kc) rfl rfl _ _ (World.alloc_heap_new w2 _) (step_size _ _ _ _ _ _ _) rfl (step_one _ _ _ _ _ _ _) ?_; rw [setRow_alloc, ← hW2, ← hP1]; clear N1; replace hW2 := hide hW2; replace hP1 := hide hP1; have GW : w1.grownBy W2 none := gr_trans g2.out (by rw [hW2.out]; exact World.grownBy_alloc _ _ _); have B2 := hide (Bt BW.out (below_gr GW)); clear GW)
        | (have t := B2; clear t; at_builtin; refine wpList_append_bs rfl _ _ rfl W2.heap.size _ 0 [] rfl (World.ownsRow_nil _ _ _ _) _ len cap u rfl HN.out (HU.out _ B2.out).b (by omega) (Nat.le_refl _) ?_; intro v3 w3 o3 g3 _; rw [Nat.zero_add] at o3; obtain ⟨a3, c3, rfl⟩ := own_shape o3; replace o3 := hide o3; have B3 := hide (Bt B2.out (below_gr g3)); have G3 := hide g3; have M3 := hide g3.size; clear g3 B2)
        | (have t := B3; clear t; at_builtin; refine wpList_append_bs rfl _ _ rfl W2.heap.size _ len _ rfl o3.out _ len2 cap2 v rfl HM.out (HV.out _ B3.out).b (by omega) M3.out ?_; intro v4 w4 o4 g4 _; obtain ⟨a4, c4, rfl⟩ := own_shape o4; have O4 := hide (own_two HN.out HM.out o4); have G4 := hide (gr_own G3.out g4 (fun j hj => (own_at o3.out hj).1)); have B4 := hide (gr_below B3.out g4 (fun j hj => Nat.le_trans (Bsz BW.out g2.out hW2.out) (own_at o3.out hj).1)); clear g4 o4 o3 B3 M3 G3)
        | (have t := B4; clear t; go_at_call 11; refine (HP2.out _ _ _ B4.out O4.out).mono ?_; rintro e w5 ⟨cb, cd, tb, td, kb, kd, rfl, q2, g5⟩; obtain ⟨W5, hW5⟩ : ∃ W5, W5 = w5.alloc (.cells (stC s1 cb cd tb td kb kd) 34) := ⟨_, rfl⟩; obtain ⟨P2, hP2⟩ : ∃ P2, P2 = w5.heap.size := ⟨_, rfl⟩; replace q2 := hide q2; replace g5 := hide (gr_trans G4.out g5); clear B4 O4 G4 HP2; have N3 : Hid (W = W) := rfl)
        | (have t := N3; clear t; refine wpList_store_row rfl 34 _ _ rfl w5.heap.size (stC s1 cb cd tb td kb kd) rfl rfl _ _ (World.alloc_heap_new w5 _) (step_size _ _ _ _ _ _ _) rfl (step_one _ _ _ _ _ _ _) ?_; rw [setRow_alloc, ← hW5, ← hP2]; clear N3; have T2 := twoB_of q1.out g2.out hW2.out hP1.out q2.out g5.out hW5 hP2; clear hW5 hP2 hW2 hP1 q1 q2 g2 g5; have ST := hide (HS.out W5 _ _ T2.now.1 T2.now.2); replace T2 := hide T2; clear HS; have N4 : Hid (W = W) := rfl)
        | (have t := N4; clear t; refine wpList_load_row rfl 34 _ rfl P1 rfl _ _ _ _ T2.out.b1 Try.underlying34 rfl (step_size _ _ _ _ _ _ _) ?_; clear N4)
        | (refine wpList_load_row rfl 34 _ rfl P2 rfl _ _ _ _ T2.out.b2 Try.underlying34 rfl (step_size _ _ _ _ _ _ _) ?_)
        | (go_at_call 10; refine ST.out.mono ?_; rintro e w9 ⟨rfl, g9⟩; have X1 := (g9.block P1 (Nat.lt_trans T2.out.lt T2.out.hi) (by simp)).trans T2.out.b1; have y2 := (st_cells X1).2.1; have y4 := (st_cells X1).2.2.2.2; clear X1; rw [HE.out] at y4; rw [HQ.out] at y2; replace g9 := hide g9))
  all_goals go_ret
  all_goals exact ⟨by first | rfl | (simp; done), Bt BW.out (below_gr (gr_trans T2.out.gr g9.out))⟩
set_option maxRecDepth 100000 in
set_option maxHeartbeats 4000000 in
theorem more_d {s1 : Sv} {n x : Int} (hu : Bu W a len cap u) (hv : Bu W a2 len2 cap2 v) (hl : len ≤ 5000) (hl2 : len2 ≤ 1000) (h1 : parse16 u = s1) (h2 : parse16 (u ++ v) = s1) (hf : Few1 s1.req) (he : s1.e = x) (hx3 : (x == 3) = false) (hx9 : (x == 9) = false) (hn : s1.used = n) (hc0 : ¬ z < 0) (hc : n ≤ z) : Calls Try.prog 5 #[.slice a len cap, .slice a2 len2 cap2, .int .i64 z] W fun e W' => e = .returned (.bool true) ∧ Below W.heap.size W W' := by
  have hli : (len : Int) ≤ 5000 := by omega
  have hli2 : (len2 : Int) ≤ 1000 := by omega
  have HN := hide hu.n
  have HM := hide hv.n
  have HU := hide (fun (w : World) (h : Below W.heap.size W w) => hu.on h)
  have HV := hide (fun (w : World) (h : Below W.heap.size W w) => hv.on h)
  have HP := hide (fun (w : World) (h : Below W.heap.size W w) => pcall (gr_refl w none) (hu.on h) (by omega) h1)
  have HP2 := hide (fun (w : World) (a3 : Option Addr) (c3 : Nat) (h : Below W.heap.size W w) (hb : Bu w a3 (len + len2) c3 (u ++ v)) => pcall (gr_refl w none) hb (by omega) h2)
  have HS := hide (fun (w : World) (cs ds : Array Value) (h1 : StepAt w s1 cs) (h2 : StepAt w s1 ds) => steps_eq hf h1 h2)
  have HE := hide he
  have HQ := hide hn
  clear hf hu hv hl hl2 h1 h2 he hn
  go_enter Try.func5, Try.ntmps5
  go_wp2_with (first
        | (go_at_call 9; refine awake_any.mono ?_; rintro e w1 ⟨rfl, g1⟩; have B1 := hide (below_gr g1); clear g1)
        | (have t := B1; clear t; go_at_call 11; refine (HP.out _ B1.out).mono ?_; rintro e w2 ⟨ca, cc, ta, tc, ka, kc, rfl, q1, g2⟩; obtain ⟨W2, hW2⟩ : ∃ W2, W2 = w2.alloc (.cells (stC s1 ca cc ta tc ka kc) 34) := ⟨_, rfl⟩; obtain ⟨P1, hP1⟩ : ∃ P1, P1 = w2.heap.size := ⟨_, rfl⟩; replace q1 := hide q1; replace g2 := hide g2; have BW := hide B1.out; clear B1 HP; have N1 : Hid (W = W) := rfl)
        | (have t := N1; clear t; refine wpList_store_row rfl 34 _ _ rfl w2.heap.size (stC s1 ca cc ta tc ka kc) rfl rfl _ _ (World.alloc_heap_new w2 _) (step_size _ _ _ _ _ _ _) rfl (step_one _ _ _ _ _ _ _) ?_; rw [setRow_alloc, ← hW2, ← hP1]; clear N1; replace hW2 := hide hW2; replace hP1 := hide hP1; have GW : w1.grownBy W2 none := gr_trans g2.out (by rw [hW2.out]; exact World.grownBy_alloc _ _ _); have B2 := hide (Bt BW.out (below_gr GW)); clear GW)
        | (have t := B2; clear t; at_builtin; refine wpList_append_bs rfl _ _ rfl W2.heap.size _ 0 [] rfl (World.ownsRow_nil _ _ _ _) _ len cap u rfl HN.out (HU.out _ B2.out).b (by omega) (Nat.le_refl _) ?_; intro v3 w3 o3 g3 _; rw [Nat.zero_add] at o3; obtain ⟨a3, c3, rfl⟩ := own_shape o3; replace o3 := hide o3; have B3 := hide (Bt B2.out (below_gr g3)); have G3 := hide g3; have M3 := hide g3.size; clear g3 B2)
        | (have t := B3; clear t; at_builtin; refine wpList_append_bs rfl _ _ rfl W2.heap.size _ len _ rfl o3.out _ len2 cap2 v rfl HM.out (HV.out _ B3.out).b (by omega) M3.out ?_; intro v4 w4 o4 g4 _; obtain ⟨a4, c4, rfl⟩ := own_shape o4; have O4 := hide (own_two HN.out HM.out o4); have G4 := hide (gr_own G3.out g4 (fun j hj => (own_at o3.out hj).1)); have B4 := hide (gr_below B3.out g4 (fun j hj => Nat.le_trans (Bsz BW.out g2.out hW2.out) (own_at o3.out hj).1)); clear g4 o4 o3 B3 M3 G3)
        | (have t := B4; clear t; go_at_call 11; refine (HP2.out _ _ _ B4.out O4.out).mono ?_; rintro e w5 ⟨cb, cd, tb, td, kb, kd, rfl, q2, g5⟩; obtain ⟨W5, hW5⟩ : ∃ W5, W5 = w5.alloc (.cells (stC s1 cb cd tb td kb kd) 34) := ⟨_, rfl⟩; obtain ⟨P2, hP2⟩ : ∃ P2, P2 = w5.heap.size := ⟨_, rfl⟩; replace q2 := hide q2; replace g5 := hide (gr_trans G4.out g5); clear B4 O4 G4 HP2; have N3 : Hid (W = W) := rfl)
        | (have t := N3; clear t; refine wpList_store_row rfl 34 _ _ rfl w5.heap.size (stC s1 cb cd tb td kb kd) rfl rfl _ _ (World.alloc_heap_new w5 _) (step_size _ _ _ _ _ _ _) rfl (step_one _ _ _ _ _ _ _) ?_; rw [setRow_alloc, ← hW5, ← hP2]; clear N3; have T2 := twoB_of q1.out g2.out hW2.out hP1.out q2.out g5.out hW5 hP2; clear hW5 hP2 hW2 hP1 q1 q2 g2 g5; have ST := hide (HS.out W5 _ _ T2.now.1 T2.now.2); replace T2 := hide T2; clear HS; have N4 : Hid (W = W) := rfl)
        | (have t := N4; clear t; refine wpList_load_row rfl 34 _ rfl P1 rfl _ _ _ _ T2.out.b1 Try.underlying34 rfl (step_size _ _ _ _ _ _ _) ?_; clear N4)
        | (refine wpList_load_row rfl 34 _ rfl P2 rfl _ _ _ _ T2.out.b2 Try.underlying34 rfl (step_size _ _ _ _ _ _ _) ?_)
        | (go_at_call 10; refine ST.out.mono ?_; rintro e w9 ⟨rfl, g9⟩; have X1 := (g9.block P1 (Nat.lt_trans T2.out.lt T2.out.hi) (by simp)).trans T2.out.b1; have y2 := (st_cells X1).2.1; have y4 := (st_cells X1).2.2.2.2; clear X1; rw [HE.out] at y4; rw [HQ.out] at y2; replace g9 := hide g9))
  all_goals go_ret
  all_goals exact ⟨by first | rfl | (simp; done), Bt BW.out (below_gr (gr_trans T2.out.gr g9.out))⟩
set_option maxRecDepth 100000 in
set_option maxHeartbeats 4000000 in
theorem more_e {s1 : Sv} {n x : Int} {g off k : Nat} (hu : Bu W (some ⟨g, off, none⟩) len cap u) (hv : Bu W a2 len2 cap2 v) (hl : len ≤ 5000) (hl2 : len2 ≤ 1000) (h1 : parse16 u = s1) (h2 : parse16 (u ++ v) = s1) (hf : Few1 s1.req) (he : s1.e = x) (hx3 : (x == 3) = false) (hx9 : (x == 9) = false) (hy3 : ¬ x = 3) (hy9 : ¬ x = 9) (hn : s1.used = n) (hc : (k : Int) < n) (hk : k ≤ len) (h3 : parse16 (u.take k) = bareB 3) : Calls Try.prog 5 #[.slice (some ⟨g, off, none⟩) len cap, .slice a2 len2 cap2, .int .i64 (k : Int)] W fun e W' => e = .returned (.bool true) ∧ Below W.heap.size W W' := by
  have hli : (len : Int) ≤ 5000 := by omega
  have hli2 : (len2 : Int) ≤ 1000 := by omega
  have HN := hide hu.n
  have HM := hide hv.n
  have HU := hide (fun (w : World) (h : Below W.heap.size W w) => hu.on h)
  have HV := hide (fun (w : World) (h : Below W.heap.size W w) => hv.on h)
  have HP := hide (fun (w : World) (h : Below W.heap.size W w) => pcall (gr_refl w none) (hu.on h) (by omega) h1)
  have HP2 := hide (fun (w : World) (a3 : Option Addr) (c3 : Nat) (h : Below W.heap.size W w) (hb : Bu w a3 (len + len2) c3 (u ++ v)) => pcall (gr_refl w none) hb (by omega) h2)
  have HS := hide (fun (w : World) (cs ds : Array Value) (h1 : StepAt w s1 cs) (h2 : StepAt w s1 ds) => steps_eq hf h1 h2)
  have hcc := hu.c
  have hck : (k : Int) ≤ (cap : Int) := by omega
  have HP3 := hide (fun (w : World) (h : Below W.heap.size W w) => pcall (gr_refl w none) ((hu.on h).front (j := k) (c := cap) hk (by omega) (Nat.le_refl _)) (by omega) h3)
  have HE := hide he
  have HQ := hide hn
  clear hf hu hv hl hl2 h1 h2 he hn hk h3 hcc
  go_enter Try.func5, Try.ntmps5
  go_wp2_with (first
        | (go_at_call 9; refine awake_any.mono ?_; rintro e w1 ⟨rfl, g1⟩; have B1 := hide (below_gr g1); clear g1)
        | (have t := B1; clear t; go_at_call 11; refine (HP.out _ B1.out).mono ?_; rintro e w2 ⟨ca, cc, ta, tc, ka, kc, rfl, q1, g2⟩; obtain ⟨W2, hW2⟩ : ∃ W2, W2 = w2.alloc (.cells (stC s1 ca cc ta tc ka kc) 34) := ⟨_, rfl⟩; obtain ⟨P1, hP1⟩ : ∃ P1, P1 = w2.heap.size := ⟨_, rfl⟩; replace q1 := hide q1; replace g2 := hide g2; have BW := hide B1.out; clear B1 HP; have N1 : Hid (W = W) := rfl)
        | (have t := N1; clear t; refine wpList_store_row rfl 34 _ _ rfl w2.heap.size (stC s1 ca cc ta tc ka kc) rfl rfl _ _ (World.alloc_heap_new w2 _) (step_size _ _ _ _ _ _ _) rfl (step_one _ _ _ _ _ _ _) ?_; rw [setRow_alloc, ← hW2, ← hP1]; clear N1; replace hW2 := hide hW2; replace hP1 := hide hP1; have GW : w1.grownBy W2 none := gr_trans g2.out (by rw [hW2.out]; exact World.grownBy_alloc _ _ _); have B2 := hide (Bt BW.out (below_gr GW)); clear GW)
        | (have t := B2; clear t; at_builtin; refine wpList_append_bs rfl _ _ rfl W2.heap.size _ 0 [] rfl (World.ownsRow_nil _ _ _ _) _ len cap u rfl HN.out (HU.out _ B2.out).b (by omega) (Nat.le_refl _) ?_; intro v3 w3 o3 g3 _; rw [Nat.zero_add] at o3; obtain ⟨a3, c3, rfl⟩ := own_shape o3; replace o3 := hide o3; have B3 := hide (Bt B2.out (below_gr g3)); have G3 := hide g3; have M3 := hide g3.size; clear g3 B2)
        | (have t := B3; clear t; at_builtin; refine wpList_append_bs rfl _ _ rfl W2.heap.size _ len _ rfl o3.out _ len2 cap2 v rfl HM.out (HV.out _ B3.out).b (by omega) M3.out ?_; intro v4 w4 o4 g4 _; obtain ⟨a4, c4, rfl⟩ := own_shape o4; have O4 := hide (own_two HN.out HM.out o4); have G4 := hide (gr_own G3.out g4 (fun j hj => (own_at o3.out hj).1)); have B4 := hide (gr_below B3.out g4 (fun j hj => Nat.le_trans (Bsz BW.out g2.out hW2.out) (own_at o3.out hj).1)); clear g4 o4 o3 B3 M3 G3)
        | (have t := B4; clear t; go_at_call 11; refine (HP2.out _ _ _ B4.out O4.out).mono ?_; rintro e w5 ⟨cb, cd, tb, td, kb, kd, rfl, q2, g5⟩; obtain ⟨W5, hW5⟩ : ∃ W5, W5 = w5.alloc (.cells (stC s1 cb cd tb td kb kd) 34) := ⟨_, rfl⟩; obtain ⟨P2, hP2⟩ : ∃ P2, P2 = w5.heap.size := ⟨_, rfl⟩; replace q2 := hide q2; replace g5 := hide (gr_trans G4.out g5); clear B4 O4 G4 HP2; have N3 : Hid (W = W) := rfl)
        | (have t := N3; clear t; refine wpList_store_row rfl 34 _ _ rfl w5.heap.size (stC s1 cb cd tb td kb kd) rfl rfl _ _ (World.alloc_heap_new w5 _) (step_size _ _ _ _ _ _ _) rfl (step_one _ _ _ _ _ _ _) ?_; rw [setRow_alloc, ← hW5, ← hP2]; clear N3; have T2 := twoB_of q1.out g2.out hW2.out hP1.out q2.out g5.out hW5 hP2; clear hW5 hP2 hW2 hP1 q1 q2 g2 g5; have ST := hide (HS.out W5 _ _ T2.now.1 T2.now.2); replace T2 := hide T2; clear HS; have N4 : Hid (W = W) := rfl)
        | (have t := N4; clear t; refine wpList_load_row rfl 34 _ rfl P1 rfl _ _ _ _ T2.out.b1 Try.underlying34 rfl (step_size _ _ _ _ _ _ _) ?_; clear N4)
        | (refine wpList_load_row rfl 34 _ rfl P2 rfl _ _ _ _ T2.out.b2 Try.underlying34 rfl (step_size _ _ _ _ _ _ _) ?_)
        | (go_at_call 10; refine ST.out.mono ?_; rintro e w9 ⟨rfl, g9⟩; have X1 := (g9.block P1 (Nat.lt_trans T2.out.lt T2.out.hi) (by simp)).trans T2.out.b1; have y2 := (st_cells X1).2.1; have y4 := (st_cells X1).2.2.2.2; clear X1; rw [HE.out] at y4; rw [HQ.out] at y2; have N5 : Hid (W = W) := rfl; replace g9 := hide g9)
        | (have t := N5; clear t; go_at_call 11; refine (HP3.out _ (Bt BW.out (below_gr (gr_trans T2.out.gr g9.out)))).mono ?_; rintro e w6 ⟨cf, cg, tf, tg, kf, kg, rfl, q3, g6⟩; obtain ⟨W6, hW6⟩ : ∃ W6, W6 = w6.alloc (.cells (stC (bareB 3) cf cg tf tg kf kg) 34) := ⟨_, rfl⟩; obtain ⟨P3, hP3⟩ : ∃ P3, P3 = w6.heap.size := ⟨_, rfl⟩; have GZ := hide (Bt (Bt BW.out (below_gr (gr_trans T2.out.gr g9.out))) (below_gr (gr_trans g6 (by rw [hW6]; exact World.grownBy_alloc _ _ _ : w6.grownBy W6 none)))); clear q3 g6 N5; have N6 : Hid (W = W) := rfl)
        | (have t := N6; clear t; refine wpList_store_row rfl 34 _ _ rfl w6.heap.size (stC (bareB 3) cf cg tf tg kf kg) rfl rfl _ _ (World.alloc_heap_new w6 _) (step_size _ _ _ _ _ _ _) rfl (step_one _ _ _ _ _ _ _) ?_; have X6 : W6.heap[P3]? = some (.cells (stC (bareB 3) cf cg tf tg kf kg) 34 (0, 0)) := (by rw [hW6, hP3]; exact World.alloc_heap_new _ _); rw [setRow_alloc, ← hW6, ← hP3]; have y6 : W6.cell? ⟨P3, 15, none⟩ = some (.int .i64 3) := st_at X6 15 _ rfl; clear X6 N6 hW6 hP3))
  all_goals go_ret
  all_goals exact ⟨by first | rfl | (simp; done), GZ.out⟩
set_option maxRecDepth 100000 in
set_option maxHeartbeats 1000000 in
theorem more_far (h : 5000 < len ∨ 1000 < len2) : Calls Try.prog 5 #[.slice a len cap, .slice a2 len2 cap2, .int .i64 z] W fun e W' => e = .returned (.bool true) ∧ Below W.heap.size W W' := by
  by_cases h1 : 5000 < len
  · have hsi : (5000 : Int) < (len : Int) := by omega
    clear h
    go_enter Try.func5, Try.ntmps5
    go_wp2_with (go_at_call 9; refine awake_any.mono ?_; rintro e w1 ⟨rfl, g1⟩; replace g1 := hide g1)
    go_ret
    exact ⟨rfl, below_gr g1.out⟩
  · have hsi : ¬ (5000 : Int) < (len : Int) := by omega
    have hsj : (1000 : Int) < (len2 : Int) := by omega
    clear h
    go_enter Try.func5, Try.ntmps5
    go_wp2_with (go_at_call 9; refine awake_any.mono ?_; rintro e w1 ⟨rfl, g1⟩; replace g1 := hide g1)
    go_ret
    exact ⟨rfl, below_gr g1.out⟩
end
theorem bininMore_walk (W : World) (a0 : Option Addr) (len0 cap0 : Nat) (z0 : List Int) (w0 : IsRow .u8 W a0 len0 cap0 z0) (a1 : Option Addr) (len1 cap1 : Nat) (z1 : List Int) (w1 : IsRow .u8 W a1 len1 cap1 z1) (a2 : Int) (w2 : (Lit.int .i64 a2).wf = true) :
    Calls Try.prog 5 #[.slice a0 len0 cap0, .slice a1 len1 cap1, .int .i64 a2] W fun e W' => e = .returned (.bool true) ∧ Below W.heap.size W W' := by
  obtain ⟨u, hu⟩ := Bu.of w0
  obtain ⟨v, hv⟩ := Bu.of w1
  have hn := hu.n
  by_cases h : 5000 < len0 ∨ 1000 < len1
  · exact more_far h
  · rcases more16 u v with h1 | ⟨h3, h12, h9 | ⟨l, hw, hused, he⟩⟩
    · exact more_a hu hv (by omega) (by omega) h1 rfl (few16 (u ++ v)).2
    · exact more_b hu hv (by omega) (by omega) rfl h12 (few16 u).1 h9
    · obtain ⟨x, hx⟩ : ∃ x, (parse16 u).e = x := ⟨_, rfl⟩
      have hx3 : (x == 3) = false := by rw [beq_eq_false_iff_ne]; omega
      have hx9 : (x == 9) = false := by rw [beq_eq_false_iff_ne]; omega
      have hf := hw.fit
      by_cases c0 : a2 < 0
      · exact more_c hu hv (by omega) (by omega) rfl h12 (few16 u).1 hx hx3 hx9 hused c0
      · by_cases c1 : 24 + (l : Int) ≤ a2
        · exact more_d hu hv (by omega) (by omega) rfl h12 (few16 u).1 hx hx3 hx9 hused c0 c1
        · obtain ⟨g, off, rfl⟩ : ∃ g off, a0 = some ⟨g, off, none⟩ := by
            rcases hu.b with ⟨q1, _, _⟩ | ⟨g, off, r⟩
            · omega
            · exact ⟨g, off, r.at_⟩
          obtain ⟨k, rfl⟩ : ∃ k : Nat, a2 = (k : Int) := ⟨a2.toNat, by omega⟩
          exact more_e hu hv (by omega) (by omega) rfl h12 (few16 u).1 hx hx3 hx9 (by omega) (by omega) hused (by omega) (by omega) (cut16 hw (by omega))
end Go.Proofs.Ytegaljpllcgaaaa
