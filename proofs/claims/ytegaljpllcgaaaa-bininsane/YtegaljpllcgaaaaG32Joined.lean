/- BininSane, where nothing is asked for. Conditions: none. BininSane, where an error is told. Conditions: none. BininSane, where a request is told. Conditions: none. -/
import Derived.Test.YtegaljpllcgaaaaBinAw
import Derived.Test.YtegaljpllcgaaaaG33Joined
import Derived.Test.YtegaljpllcgaaaaClassPut
namespace Go.Proofs.Ytegaljpllcgaaaa
set_option linter.unusedVariables false
open Go.RowKit

section
variable {W : World} {a : Option Addr} {len cap : Nat} {u : List UInt8}
set_option maxRecDepth 100000 in
set_option maxHeartbeats 2000000 in
theorem sane_more (hu : Bu W a len cap u) (hl : len ≤ 5000) (hm : parse16 u = bareB 3) : Calls Try.prog 4 #[.slice a len cap] W fun e W' => e = .returned (.bool true) ∧ Below W.heap.size W W' := by
  have hli : ¬ (5000 : Int) < (len : Int) := by omega
  have HP := hide (fun (w : World) (h : Below W.heap.size W w) => pcall (gr_refl w none) (hu.on h) (by omega) hm)
  clear hm hu hl
  go_enter Try.func4, Try.ntmps4
  go_wp2_with (first
    | (go_at_call 9; refine awake_any.mono ?_; rintro e w1 ⟨rfl, g1⟩; have B1 := hide (below_gr g1); clear g1)
    | (have t := B1; clear t; go_at_call 11; refine (HP.out _ B1.out).mono ?_; rintro e w2 ⟨ca, cc, ta, tc, ka, kc, rfl, q1, g2⟩; obtain ⟨W2, hW2⟩ : ∃ W2, W2 = w2.alloc (.cells (stC (bareB 3) ca cc ta tc ka kc) 34) := ⟨_, rfl⟩; obtain ⟨P1, hP1⟩ : ∃ P1, P1 = w2.heap.size := ⟨_, rfl⟩; have GA := World.grownBy_alloc w2 (.cells (stC (bareB 3) ca cc ta tc ka kc) 34) none; rw [← hW2] at GA; have Q2 := hide (q1.on (below_gr GA)); have BW := hide (Bt B1.out (below_gr (gr_trans g2 GA))); clear q1 GA B1 HP g2; have N1 : Hid (W = W) := rfl)
    | (have t := N1; clear t; refine wpList_store_row rfl 34 _ _ rfl w2.heap.size (stC (bareB 3) ca cc ta tc ka kc) rfl rfl _ _ (World.alloc_heap_new w2 _) (step_size _ _ _ _ _ _ _) rfl (step_one _ _ _ _ _ _ _) ?_; have X1 : W2.heap[P1]? = some (.cells (stC (bareB 3) ca cc ta tc ka kc) 34 (0, 0)) := (by rw [hW2, hP1]; exact World.alloc_heap_new _ _); rw [setRow_alloc, ← hW2, ← hP1]; clear N1 hW2 hP1; have y0 : W2.cell? ⟨P1, 0, none⟩ = some (.slice ca 0 cc) := st_at X1 0 _ rfl; have y11 : W2.cell? ⟨P1, 11, none⟩ = some (.string ⟨#[]⟩) := st_at X1 11 _ rfl; have y12 : W2.cell? ⟨P1, 12, none⟩ = some (.int .i64 0) := st_at X1 12 _ rfl; have y13 : W2.cell? ⟨P1, 13, none⟩ = some (.int .i64 0) := st_at X1 13 _ rfl; have y14 : W2.cell? ⟨P1, 14, none⟩ = some (.bool false) := st_at X1 14 _ rfl; have y15 : W2.cell? ⟨P1, 15, none⟩ = some (.int .i64 3) := st_at X1 15 _ rfl; clear X1 Q2))
  go_ret
  exact ⟨by first | rfl | (simp; done), BW.out⟩
set_option maxRecDepth 100000 in
set_option maxHeartbeats 2000000 in
theorem sane_quit (hu : Bu W a len cap u) (hl : len ≤ 5000) (hm : parse16 u = bareB 9) (h0 : 0 < len) : Calls Try.prog 4 #[.slice a len cap] W fun e W' => e = .returned (.bool true) ∧ Below W.heap.size W W' := by
  have hli : ¬ (5000 : Int) < (len : Int) := by omega
  have HP := hide (fun (w : World) (h : Below W.heap.size W w) => pcall (gr_refl w none) (hu.on h) (by omega) hm)
  have hl0 : (0 : Int) < (len : Int) := by omega
  clear hm hu hl
  go_enter Try.func4, Try.ntmps4
  go_wp2_with (first
    | (go_at_call 9; refine awake_any.mono ?_; rintro e w1 ⟨rfl, g1⟩; have B1 := hide (below_gr g1); clear g1)
    | (have t := B1; clear t; go_at_call 11; refine (HP.out _ B1.out).mono ?_; rintro e w2 ⟨ca, cc, ta, tc, ka, kc, rfl, q1, g2⟩; obtain ⟨W2, hW2⟩ : ∃ W2, W2 = w2.alloc (.cells (stC (bareB 9) ca cc ta tc ka kc) 34) := ⟨_, rfl⟩; obtain ⟨P1, hP1⟩ : ∃ P1, P1 = w2.heap.size := ⟨_, rfl⟩; have GA := World.grownBy_alloc w2 (.cells (stC (bareB 9) ca cc ta tc ka kc) 34) none; rw [← hW2] at GA; have Q2 := hide (q1.on (below_gr GA)); have BW := hide (Bt B1.out (below_gr (gr_trans g2 GA))); clear q1 GA B1 HP g2; have N1 : Hid (W = W) := rfl)
    | (have t := N1; clear t; refine wpList_store_row rfl 34 _ _ rfl w2.heap.size (stC (bareB 9) ca cc ta tc ka kc) rfl rfl _ _ (World.alloc_heap_new w2 _) (step_size _ _ _ _ _ _ _) rfl (step_one _ _ _ _ _ _ _) ?_; have X1 : W2.heap[P1]? = some (.cells (stC (bareB 9) ca cc ta tc ka kc) 34 (0, 0)) := (by rw [hW2, hP1]; exact World.alloc_heap_new _ _); rw [setRow_alloc, ← hW2, ← hP1]; clear N1 hW2 hP1; have y0 : W2.cell? ⟨P1, 0, none⟩ = some (.slice ca 0 cc) := st_at X1 0 _ rfl; have y11 : W2.cell? ⟨P1, 11, none⟩ = some (.string ⟨#[]⟩) := st_at X1 11 _ rfl; have y12 : W2.cell? ⟨P1, 12, none⟩ = some (.int .i64 0) := st_at X1 12 _ rfl; have y13 : W2.cell? ⟨P1, 13, none⟩ = some (.int .i64 0) := st_at X1 13 _ rfl; have y14 : W2.cell? ⟨P1, 14, none⟩ = some (.bool false) := st_at X1 14 _ rfl; have y15 : W2.cell? ⟨P1, 15, none⟩ = some (.int .i64 9) := st_at X1 15 _ rfl; clear X1 Q2))
  go_ret
  exact ⟨by first | rfl | (simp; done), BW.out⟩
set_option maxRecDepth 100000 in
set_option maxHeartbeats 1000000 in
theorem sane_far (h : 5000 < len) : Calls Try.prog 4 #[.slice a len cap] W fun e W' => e = .returned (.bool true) ∧ Below W.heap.size W W' := by
  have hsi : (5000 : Int) < (len : Int) := by omega
  clear h
  go_enter Try.func4, Try.ntmps4
  go_wp2_with (go_at_call 9; refine awake_any.mono ?_; rintro e w1 ⟨rfl, g1⟩; replace g1 := hide g1)
  go_ret
  exact ⟨rfl, below_gr g1.out⟩
end
end Go.Proofs.Ytegaljpllcgaaaa

namespace Go.Proofs.Ytegaljpllcgaaaa
set_option linter.unusedVariables false
open Go.RowKit

theorem gr_drewN (w : World) (n : Nat) : w.grownBy (w.drewN n) none := ⟨rfl, rfl, rfl, Nat.le_refl _, fun _ _ _ => rfl⟩
section
variable {W : World} {a : Option Addr} {len cap : Nat} {u : List UInt8}
set_option maxRecDepth 100000 in
set_option maxHeartbeats 4000000 in
theorem sane_error {c st o used : Int} {g off : Nat} {R V : ByteArray} (HR : Hid (strOf (faultZ c st o) = R)) (hR : R.size = 24) (u0 : 24 ≤ used) (u1 : used ≤ (len : Int)) (u2 : used ≤ 2072)
    (r0 : ((R[0]'(by omega)).toNat : Int) = 129) (r1 : ((R[1]'(by omega)).toNat : Int) = c) (rv : R.extract 12 16 = V)
    (hu : Bu W (some ⟨g, off, none⟩) len cap u) (hl : len ≤ 5000) (hm : parse16 u = faultB c st o used)
    (HB : Hid (∀ w : World, Below W.heap.size W w → w.cell? ⟨g, off, none⟩ = some (.int .u8 128) ∧ w.cell? ⟨g, off + 1, none⟩ = some (.int .u8 c) ∧ (convert 22 9 (.slice (some ⟨g, off + 12, none⟩) 4 (cap - 12))).run Try.prog w = .ok (.string V) w)) :
    Calls Try.prog 4 #[.slice (some ⟨g, off, none⟩) len cap] W fun e W' => e = .returned (.bool true) ∧ Below W.heap.size W W' := by
  have hli : ¬ (5000 : Int) < (len : Int) := by omega
  have HP := hide (fun (w : World) (h : Below W.heap.size W w) => pcall (gr_refl w none) (hu.on h) (by omega) hm)
  have hn0 : ¬ used < 24 := by omega
  have hn1 : ¬ (len : Int) < used := by omega
  have hn2 : ¬ 2072 < used := by omega
  have hcc := hu.c
  have hc16 : (16 : Int) ≤ (cap : Int) := by omega
  clear hm hu hl u0 u1 u2 hcc
  go_enter Try.func4, Try.ntmps4
  go_wp2_with (first
    | (go_at_call 9; refine awake_any.mono ?_; rintro e w1 ⟨rfl, g1⟩; have B1 := hide (below_gr g1); clear g1)
    | (have t := B1; clear t; go_at_call 11; refine (HP.out _ B1.out).mono ?_; rintro e w2 ⟨ca, cc, ta, tc, ka, kc, rfl, q1, g2⟩; obtain ⟨W2, hW2⟩ : ∃ W2, W2 = w2.alloc (.cells (stC (faultB c st o used) ca cc ta tc ka kc) 34) := ⟨_, rfl⟩; obtain ⟨P1, hP1⟩ : ∃ P1, P1 = w2.heap.size := ⟨_, rfl⟩; have GA := World.grownBy_alloc w2 (.cells (stC (faultB c st o used) ca cc ta tc ka kc) 34) none; rw [← hW2] at GA; have Q2 := hide (q1.on (below_gr GA)); have BW := hide (Bt B1.out (below_gr (gr_trans g2 GA))); clear q1 GA B1 HP g2; have N1 : Hid (W = W) := rfl)
    | (have t := N1; clear t; refine wpList_store_row rfl 34 _ _ rfl w2.heap.size (stC (faultB c st o used) ca cc ta tc ka kc) rfl rfl _ _ (World.alloc_heap_new w2 _) (step_size _ _ _ _ _ _ _) rfl (step_one _ _ _ _ _ _ _) ?_; have X1 : W2.heap[P1]? = some (.cells (stC (faultB c st o used) ca cc ta tc ka kc) 34 (0, 0)) := (by rw [hW2, hP1]; exact World.alloc_heap_new _ _); rw [setRow_alloc, ← hW2, ← hP1]; clear N1 hW2 hP1; have y0 : W2.cell? ⟨P1, 0, none⟩ = some (.slice ca 0 cc) := st_at X1 0 _ rfl; have y11 : W2.cell? ⟨P1, 11, none⟩ = some (.string R) := (by rw [← HR.out]; exact st_at X1 11 _ rfl); have y12 : W2.cell? ⟨P1, 12, none⟩ = some (.int .i64 used) := st_at X1 12 _ rfl; have y13 : W2.cell? ⟨P1, 13, none⟩ = some (.int .i64 0) := st_at X1 13 _ rfl; have y14 : W2.cell? ⟨P1, 14, none⟩ = some (.bool false) := st_at X1 14 _ rfl; have y15 : W2.cell? ⟨P1, 15, none⟩ = some (.int .i64 2) := st_at X1 15 _ rfl; obtain ⟨z0, z1, _⟩ := HB.out W2 BW.out; have z2 := (fun n => (HB.out (W2.drewN n) (Bt BW.out (below_gr (gr_drewN W2 n)))).2.2); clear X1 Q2))
  go_quiet (fail)
  go_wp2
  go_ret
  exact ⟨by first | rfl | (simp; done), Bt BW.out (below_gr (gr_drewN _ _))⟩
end
end Go.Proofs.Ytegaljpllcgaaaa

namespace Go.Proofs.Ytegaljpllcgaaaa
set_option linter.unusedVariables false
open Go.RowKit Go.Shelf

theorem rng0 {W : World} {b off : Nat} {l : List Value} (h : W.rangeAt b (off + 0 * 10) l) : W.rangeAt b off l := by
  rw [show off + 0 * 10 = off by omega] at h
  exact h
theorem cu_one {w : World} {ca : Option Addr} {cc : Nat} {x : Cv} (h : Cu w ca 1 cc [x]) : ∃ cb co, ca = some ⟨cb, co, none⟩ ∧ ∃ va vc, w.rangeAt cb co (cmC x va vc).toList ∧ Bu w va x.val.length vc x.val := by
  obtain ⟨b, off, e, va, vc, h1, h2⟩ := h.get (i := 0) (by decide)
  exact ⟨b, off, e, va, vc, rng0 h1, h2⟩
section
variable {W : World} {a : Option Addr} {len cap : Nat} {u : List UInt8}
set_option maxRecDepth 100000 in
set_option maxHeartbeats 4000000 in
theorem sane_ok {x : Cv} {f : Fv} {used : Int} {g off : Nat} (hmay : MayB x) (f0 : 0 ≤ f.code) (f1 : f.code ≤ 255) (u0 : 24 ≤ used) (u1 : used ≤ (len : Int)) (u2 : used ≤ 2072)
    (hu : Bu W (some ⟨g, off, none⟩) len cap u) (hl : len ≤ 5000) (hm : parse16 u = ⟨⟨[x], f⟩, ⟨#[]⟩, used, 0, false, 0⟩)
    (HB : Hid (∀ w : World, Below W.heap.size W w → w.cell? ⟨g, off, none⟩ = some (.int .u8 128) ∧ w.cell? ⟨g, off + 1, none⟩ = some (.int .u8 f.code))) :
    Calls Try.prog 4 #[.slice (some ⟨g, off, none⟩) len cap] W fun e W' => e = .returned (.bool true) ∧ Below W.heap.size W W' := by
  have hli : ¬ (5000 : Int) < (len : Int) := by omega
  have HP := hide (fun (w : World) (h : Below W.heap.size W w) => pcall (gr_refl w none) (hu.on h) (by omega) hm)
  have HM := hide (fun (w : World) (va : Option Addr) (vc : Nat) => mayB_any (w := w) (va := va) (vc := vc) hmay)
  have hn0 : ¬ used < 24 := by omega
  have hn1 : ¬ (len : Int) < used := by omega
  have hn2 : ¬ 2072 < used := by omega
  have hl1 : (1 : Int) < (len : Int) := by omega
  have cw : IntKind.i64.wrap f.code = f.code := i64_id f0 (by omega)
  clear hm hu hl u0 u1 u2 hmay f0 f1
  go_enter Try.func4, Try.ntmps4
  go_wp2_with (first
    | (go_at_call 9; refine awake_any.mono ?_; rintro e w1 ⟨rfl, g1⟩; have B1 := hide (below_gr g1); clear g1)
    | (have t := B1; clear t; go_at_call 11; refine (HP.out _ B1.out).mono ?_; rintro e w2 ⟨ca, cc, ta, tc, ka, kc, rfl, q1, g2⟩; obtain ⟨W2, hW2⟩ : ∃ W2, W2 = w2.alloc (.cells (stC (⟨⟨[x], f⟩, ⟨#[]⟩, used, 0, false, 0⟩ : Sv) ca cc ta tc ka kc) 34) := ⟨_, rfl⟩; obtain ⟨P1, hP1⟩ : ∃ P1, P1 = w2.heap.size := ⟨_, rfl⟩; have GA := World.grownBy_alloc w2 (.cells (stC (⟨⟨[x], f⟩, ⟨#[]⟩, used, 0, false, 0⟩ : Sv) ca cc ta tc ka kc) 34) none; rw [← hW2] at GA; have Q2 := hide (q1.on (below_gr GA)); have BW := hide (Bt B1.out (below_gr (gr_trans g2 GA))); clear q1 GA B1 HP g2; have N1 : Hid (W = W) := rfl)
    | (have t := N1; clear t; refine wpList_store_row rfl 34 _ _ rfl w2.heap.size (stC (⟨⟨[x], f⟩, ⟨#[]⟩, used, 0, false, 0⟩ : Sv) ca cc ta tc ka kc) rfl rfl _ _ (World.alloc_heap_new w2 _) (step_size _ _ _ _ _ _ _) rfl (step_one _ _ _ _ _ _ _) ?_; have X1 : W2.heap[P1]? = some (.cells (stC (⟨⟨[x], f⟩, ⟨#[]⟩, used, 0, false, 0⟩ : Sv) ca cc ta tc ka kc) 34 (0, 0)) := (by rw [hW2, hP1]; exact World.alloc_heap_new _ _); rw [setRow_alloc, ← hW2, ← hP1]; clear N1 hW2 hP1; have y0 : W2.cell? ⟨P1, 0, none⟩ = some (.slice ca 1 cc) := st_at X1 0 _ rfl; have y11 : W2.cell? ⟨P1, 11, none⟩ = some (.string ⟨#[]⟩) := st_at X1 11 _ rfl; have y12 : W2.cell? ⟨P1, 12, none⟩ = some (.int .i64 used) := st_at X1 12 _ rfl; have y13 : W2.cell? ⟨P1, 13, none⟩ = some (.int .i64 0) := st_at X1 13 _ rfl; have y14 : W2.cell? ⟨P1, 14, none⟩ = some (.bool false) := st_at X1 14 _ rfl; have y15 : W2.cell? ⟨P1, 15, none⟩ = some (.int .i64 0) := st_at X1 15 _ rfl; have y3 : W2.cell? ⟨P1, 3, none⟩ = some (.int .i64 f.code) := st_at X1 3 _ rfl; obtain ⟨z0, z1⟩ := HB.out W2 BW.out; obtain ⟨cb, co, hca, va, vc, r1, r2⟩ := cu_one Q2.out.cmds; subst hca; obtain ⟨W4, hW4⟩ : ∃ W4, W4 = W2.alloc (.cells (cmC x va vc) 39) := ⟨_, rfl⟩; obtain ⟨P2, hP2⟩ : ∃ P2, P2 = W2.heap.size := ⟨_, rfl⟩; have GB := World.grownBy_alloc W2 (.cells (cmC x va vc) 39) none; rw [← hW4] at GB; replace GB := hide GB; have X3 := hide ((GB.out.block P1 (Array.getElem?_eq_some_iff.1 X1).1 (by simp)).trans X1); clear r2; clear X1 Q2; have N2 : Hid (W = W) := rfl)
    | (have t := N2; clear t; refine wpList_load_mid rfl 39 _ rfl cb co rfl (cmC x va vc).toList _ r1 Try.underlying39 rfl (by rw [cmd_size x va vc, Array.length_toList]) ?_)
    | (have t := N2; clear t; refine wpList_store_row rfl 39 _ _ rfl W2.heap.size (cmC x va vc) rfl rfl _ _ (World.alloc_heap_new W2 _) (cmd_size _ _ _) rfl (cmd_one _ _ _) ?_; have X2 : Hid (W4.heap[P2]? = some (.cells (cmC x va vc) 39 (0, 0))) := (by show _ = _; rw [hW4, hP2]; exact World.alloc_heap_new _ _); rw [setRow_alloc, ← hW4, ← hP2]; clear N2 hW4 hP2))
  clear y0 y3 y11 y12 y13 y14 y15 z0 z1 r1
  refine region_cl (C := fun W' => W4.grownBy W' none) (by kernel_rfl) (by kernel_rfl) (gr_of_below (Below.drew (Below.refl _ _))) ?_
  refine class_put (a' := ?fr0) (.agg (cmC x va vc)) rfl (fun W hC => by have gC : W4.grownBy W none := hC; exact quiet_row 39 _ rfl P2 rfl (((gC.block P2 (Array.getElem?_eq_some_iff.1 X2.out).1 (by simp)).trans X2.out)) Try.underlying39 rfl (cmd_size x va vc)) (by simp only [Act.put, List.setIfInBounds_toArray, List.set_cons_zero, List.set_cons_succ]; rfl) ?nx0
  refine class_put (a' := ?fr1) (.bool true) rfl (fun W hC => by have gC : W4.grownBy W none := hC; unfold Oper.quietAt; go_simp; exact (HM.out W va vc).mono fun e w' h => ⟨h.1, gr_trans gC h.2⟩) (by simp only [Act.put, List.setIfInBounds_toArray, List.set_cons_zero, List.set_cons_succ]; rfl) ?nx1
  refine class_put (a' := ?fr2) (.bool true) rfl (fun W hC => by unfold Oper.quietAt; go_simp) (by simp only [Act.put, List.setIfInBounds_toArray, List.set_cons_zero, List.set_cons_succ]; rfl) ?nx2
  refine class_put (a' := ?fr3) (.pointer (some ⟨P1, 0, none⟩)) rfl (fun W hC => by unfold Oper.quietAt; go_simp) (by simp only [Act.put, List.setIfInBounds_toArray, List.set_cons_zero, List.set_cons_succ]; rfl) ?nx3
  refine class_put (a' := ?fr4) (.pointer (some ⟨P1, 1, none⟩)) rfl (fun W hC => by unfold Oper.quietAt; go_simp) (by simp only [Act.put, List.setIfInBounds_toArray, List.set_cons_zero, List.set_cons_succ]; rfl) ?nx4
  refine class_put (a' := ?fr5) (.pointer (some ⟨P1, 3, none⟩)) rfl (fun W hC => by unfold Oper.quietAt; go_simp) (by simp only [Act.put, List.setIfInBounds_toArray, List.set_cons_zero, List.set_cons_succ]; rfl) ?nx5
  refine class_put (a' := ?fr6) (.int .i64 f.code) rfl (fun W hC => by have gC : W4.grownBy W none := hC; have c3 := st_at ((gC.block P1 (Array.getElem?_eq_some_iff.1 X3.out).1 (by simp)).trans X3.out) 3 (.int .i64 f.code) rfl; unfold Oper.quietAt; go_simp) (by simp only [Act.put, List.setIfInBounds_toArray, List.set_cons_zero, List.set_cons_succ]; rfl) ?nx6
  refine class_put (a' := ?fr7) (.slice (some ⟨g, off, none⟩) len cap) rfl (fun W hC => by unfold Oper.quietAt; go_simp) (by simp only [Act.put, List.setIfInBounds_toArray, List.set_cons_zero, List.set_cons_succ]; rfl) ?nx7
  refine class_put (a' := ?fr8) (.pointer (some ⟨g, off + 1, none⟩)) rfl (fun W hC => by unfold Oper.quietAt; go_simp) (by simp only [Act.put, List.setIfInBounds_toArray, List.set_cons_zero, List.set_cons_succ]; rfl) ?nx8
  refine class_put (a' := ?fr9) (.int .u8 f.code) rfl (fun W hC => by have gC : W4.grownBy W none := hC; obtain ⟨_, c1⟩ := HB.out W (Bt BW.out (below_gr (gr_trans GB.out gC))); unfold Oper.quietAt; go_simp) (by simp only [Act.put, List.setIfInBounds_toArray, List.set_cons_zero, List.set_cons_succ]; rfl) ?nx9
  refine class_put (a' := ?fr10) (.int .i64 f.code) rfl (fun W hC => by unfold Oper.quietAt; go_simp) (by simp only [Act.put, List.setIfInBounds_toArray, List.set_cons_zero, List.set_cons_succ]; rfl) ?nx10
  refine class_put (a' := ?fr11) (.bool true) rfl (fun W hC => by unfold Oper.quietAt; go_simp) (by simp only [Act.put, List.setIfInBounds_toArray, List.set_cons_zero, List.set_cons_succ]; rfl) ?nx11
  refine class_put (a' := ?fr12) (.bool true) rfl (fun W hC => by unfold Oper.quietAt; go_simp) (by simp only [Act.put, List.setIfInBounds_toArray, List.set_cons_zero, List.set_cons_succ]; rfl) ?nx12
  refine class_put (a' := ?frz) (.bool true) rfl (fun W hC => by unfold Oper.quietAt; go_simp) (by simp only [Act.put, List.setIfInBounds_toArray, List.set_cons_zero, List.set_cons_succ]; rfl) ?nxz
  refine wpQuiet_nil ?_
  intro W5 B5
  have GE := hide (Bt BW.out (below_gr (gr_trans GB.out B5)))
  clear B5
  go_wp2
  go_ret
  exact ⟨by first | rfl | (simp; done), GE.out⟩
end
end Go.Proofs.Ytegaljpllcgaaaa
