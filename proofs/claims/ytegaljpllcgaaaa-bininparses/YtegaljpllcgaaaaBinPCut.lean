/- Package binin's parts of a body. Conditions: the parts lie within it. -/
import Derived.Test.YtegaljpllcgaaaaBinPHead
namespace Go.Proofs.Ytegaljpllcgaaaa
set_option linter.unusedVariables false
open Go.RowKit Go.Shelf

/-- 'b[i:j:j]' of bytes, as an equation of every world. -/
theorem Bu.sub3 {w : World} {g off len cap : Nat} {l : List UInt8} (h : Bu w (some ⟨g, off, none⟩) len cap l) {i m : Nat} (hm : i + m ≤ len) (zi zj : Int) (hi : zi = (i : Int)) (hj : zj = (i : Int) + (m : Int)) : ∃ o', (∀ W : World, (Instr.sliceAt 22 (.slice (some ⟨g, off, none⟩) len cap) (some (.int .i64 zi)) (some (.int .i64 zj)) (some (.int .i64 zj))).run Try.prog W = .ok (.slice (some ⟨g, o', none⟩) m m) W) ∧
    ∀ W : World, Bu W (some ⟨g, off, none⟩) len cap l → Bu W (some ⟨g, o', none⟩) m m ((l.drop i).take m) := by
  have hc := h.c
  obtain ⟨j, hjj⟩ : ∃ j, j = i + m := ⟨_, rfl⟩
  obtain rfl : zj = (j : Int) := by omega
  subst hi
  have h1 : (j : Int) ≤ (cap : Int) := by omega
  have h2 : (i : Int) ≤ (j : Int) := by omega
  have h4 : j - i = m := by omega
  by_cases e : j = i
  · obtain rfl : m = 0 := by omega
    refine ⟨off, fun W => ?_, fun W H => ⟨by simp, .inl ⟨rfl, by rw [List.take_zero]; rfl, fun e => by cases e⟩, by omega, by have := H.m; omega⟩⟩
    subst e
    clear hj hjj
    go_simp
  · refine ⟨off + i, fun W => ?_, fun W H => ?_⟩
    · clear hj hjj
      go_simp
    · have := (H.part i m hm).front (j := m) (c := m) (Nat.le_refl _) (Nat.le_refl _) (by omega)
      rwa [List.take_take, Nat.min_self] at this
/-- 'b[:m:m]' of bytes. -/
theorem Bu.pre3 {w : World} {g off len cap : Nat} {l : List UInt8} (h : Bu w (some ⟨g, off, none⟩) len cap l) {m : Nat} (hm : m ≤ len) (zj : Int) (hj : zj = (m : Int)) : (∀ W : World, (Instr.sliceAt 22 (.slice (some ⟨g, off, none⟩) len cap) none (some (.int .i64 zj)) (some (.int .i64 zj))).run Try.prog W = .ok (.slice (some ⟨g, off, none⟩) m m) W) ∧
    ∀ W : World, Bu W (some ⟨g, off, none⟩) len cap l → Bu W (some ⟨g, off, none⟩) m m (l.take m) := by
  have hc := h.c
  subst hj
  have h1 : (m : Int) ≤ (cap : Int) := by omega
  refine ⟨fun W => ?_, fun W H => H.front hm (Nat.le_refl _) (by omega)⟩
  go_simp
theorem run_sub3 {P : Program} {o : Oper} {a : Act} {w : World} {v : Value} (ty : TypeId) (x lo hi mx : Operand) (ho : o.op = .slice ty x (some lo) (some hi) (some mx)) (h : (Instr.sliceAt ty (a.eval x) (some (a.eval lo)) (some (a.eval hi)) (some (a.eval mx))).run P w = .ok v w) : (execOp a.eval o).run P w = .ok (.value v) w := by
  unfold execOp
  simp only [ho, Option.map_some, Sem.run_bind, Sem.run_pure, Result.andThen_ok, h]
theorem run_pre3 {P : Program} {o : Oper} {a : Act} {w : World} {v : Value} (ty : TypeId) (x hi mx : Operand) (ho : o.op = .slice ty x none (some hi) (some mx)) (h : (Instr.sliceAt ty (a.eval x) none (some (a.eval hi)) (some (a.eval mx))).run P w = .ok v w) : (execOp a.eval o).run P w = .ok (.value v) w := by
  unfold execOp
  simp only [ho, Option.map_some, Option.map_none, Sem.run_bind, Sem.run_pure, Result.andThen_ok, h]
section
variable {w : World} {g off len cap : Nat} {b : List UInt8}
set_option maxRecDepth 100000 in
set_option maxHeartbeats 4000000 in
theorem cut_any {c o s : Int} {x k v : Nat} {o2 o3 : Nat} (hl : len = x + k + v) (hlm : len ≤ 100000)
    (s1 : ∀ W : World, (Instr.sliceAt 22 (.slice (some ⟨g, off, none⟩) len cap) none (some (.int .i64 (x : Int))) (some (.int .i64 (x : Int)))).run Try.prog W = .ok (.slice (some ⟨g, off, none⟩) x x) W)
    (s2 : ∀ W : World, (Instr.sliceAt 22 (.slice (some ⟨g, off, none⟩) len cap) (some (.int .i64 (x : Int))) (some (.int .i64 ((x : Int) + (k : Int)))) (some (.int .i64 ((x : Int) + (k : Int))))).run Try.prog W = .ok (.slice (some ⟨g, o2, none⟩) k k) W)
    (s3 : ∀ W : World, (Instr.sliceAt 22 (.slice (some ⟨g, off, none⟩) len cap) (some (.int .i64 ((x : Int) + (k : Int)))) (some (.int .i64 (len : Int))) (some (.int .i64 (len : Int)))).run Try.prog W = .ok (.slice (some ⟨g, o3, none⟩) v v) W) :
    Calls Try.prog 33 #[.agg (hdC c (k : Int) (x : Int) o s), .slice (some ⟨g, off, none⟩) len cap] w fun e w' => e = .returned (.tuple #[.slice (some ⟨g, off, none⟩) x x, .slice (some ⟨g, o2, none⟩) k k, .slice (some ⟨g, o3, none⟩) v v]) ∧ w.grownBy w' none := by
  have e1 : wrap64 ((x : Int) + (k : Int)) = (x : Int) + (k : Int) := by unfold wrap64; omega
  obtain ⟨V, hV⟩ : ∃ V, V = w.alloc (.cells (hdC c (k : Int) (x : Int) o s) 54) := ⟨_, rfl⟩
  obtain ⟨B, hB⟩ : ∃ B, B = w.heap.size := ⟨_, rfl⟩
  have gV : w.grownBy V none := by rw [hV]; exact World.grownBy_alloc _ _ _
  have rV : V.heap[B]? = some (.cells (hdC c (k : Int) (x : Int) o s) 54 (0, 0)) := by rw [hV, hB]; exact World.alloc_heap_new w _
  have bx := hide (fun (W : World) (hW : V.grownBy W none) => (show W.cell? ⟨B, 2, none⟩ = some (.int .i64 (x : Int)) by
    have e := (hW.block B (Array.getElem?_eq_some_iff.1 rV).1 (by simp)).trans rV
    unfold World.cell?
    rw [e]
    rfl))
  have S1 := hide s1
  have S2 := hide s2
  have S3 := hide s3
  replace gV := hide gV
  clear rV s1 s2 s3 hlm hl
  simp only [hdC] at hV ⊢
  go_enter Try.func33, Try.ntmps33
  go_upto_region 2 with fail
  rw [← hV, ← hB]
  clear hV hB
  have S0 : V.grownBy V.drew none := gr_of_below (Below.drew (Below.refl _ _))
  refine wp_region_quiet (C := fun W' => V.grownBy W' none) (by kernel_rfl) (by kernel_rfl) S0 ?_
  refine class_putB (a' := ?fr0) (.slice (some ⟨g, off, none⟩) len cap) rfl (fun W hC => by unfold Oper.quietAt; go_simp) (by simp only [Act.put, List.setIfInBounds_toArray, List.set_cons_zero, List.set_cons_succ]; rfl) ?nx0
  refine class_putB (a' := ?fr1) (.pointer (some ⟨B, 2, none⟩)) rfl (fun W hC => by unfold Oper.quietAt; go_simp) (by simp only [Act.put, List.setIfInBounds_toArray, List.set_cons_zero, List.set_cons_succ]; rfl) ?nx1
  refine class_putB (a' := ?fr2) (.int .i64 (x : Int)) rfl (fun W hC => by have cc := bx.out W hC; unfold Oper.quietAt; go_simp) (by simp only [Act.put, List.setIfInBounds_toArray, List.set_cons_zero, List.set_cons_succ]; rfl) ?nx2
  refine class_putB (a' := ?fr3) (.pointer (some ⟨B, 2, none⟩)) rfl (fun W hC => by unfold Oper.quietAt; go_simp) (by simp only [Act.put, List.setIfInBounds_toArray, List.set_cons_zero, List.set_cons_succ]; rfl) ?nx3
  refine class_putB (a' := ?fr4) (.int .i64 (x : Int)) rfl (fun W hC => by have cc := bx.out W hC; unfold Oper.quietAt; go_simp) (by simp only [Act.put, List.setIfInBounds_toArray, List.set_cons_zero, List.set_cons_succ]; rfl) ?nx4
  refine class_putB (a' := ?fr5) (.slice (some ⟨g, off, none⟩) x x) rfl (fun W hC => by unfold Oper.quietAt; rw [run_pre3 22 _ _ _ rfl (S1.out W)]; exact ⟨rfl, rfl⟩) (by simp only [Act.put, List.setIfInBounds_toArray, List.set_cons_zero, List.set_cons_succ]; rfl) ?nx5
  refine class_putB (a' := ?fr6) (.slice (some ⟨g, off, none⟩) len cap) rfl (fun W hC => by unfold Oper.quietAt; go_simp) (by simp only [Act.put, List.setIfInBounds_toArray, List.set_cons_zero, List.set_cons_succ]; rfl) ?nx6
  refine class_putB (a' := ?fr7) (.pointer (some ⟨B, 2, none⟩)) rfl (fun W hC => by unfold Oper.quietAt; go_simp) (by simp only [Act.put, List.setIfInBounds_toArray, List.set_cons_zero, List.set_cons_succ]; rfl) ?nx7
  refine class_putB (a' := ?fr8) (.int .i64 (x : Int)) rfl (fun W hC => by have cc := bx.out W hC; unfold Oper.quietAt; go_simp) (by simp only [Act.put, List.setIfInBounds_toArray, List.set_cons_zero, List.set_cons_succ]; rfl) ?nx8
  refine class_putB (a' := ?fr9) (.int .i64 ((x : Int) + (k : Int))) rfl (fun W hC => by unfold Oper.quietAt; go_simp) (by simp only [Act.put, List.setIfInBounds_toArray, List.set_cons_zero, List.set_cons_succ]; rfl) ?nx9
  refine class_putB (a' := ?fr10) (.int .i64 ((x : Int) + (k : Int))) rfl (fun W hC => by unfold Oper.quietAt; go_simp) (by simp only [Act.put, List.setIfInBounds_toArray, List.set_cons_zero, List.set_cons_succ]; rfl) ?nx10
  refine class_putB (a' := ?fr11) (.slice (some ⟨g, o2, none⟩) k k) rfl (fun W hC => by unfold Oper.quietAt; rw [run_sub3 22 _ _ _ _ rfl (S2.out W)]; exact ⟨rfl, rfl⟩) (by simp only [Act.put, List.setIfInBounds_toArray, List.set_cons_zero, List.set_cons_succ]; rfl) ?nx11
  refine class_putB (a' := ?fr12) (.slice (some ⟨g, off, none⟩) len cap) rfl (fun W hC => by unfold Oper.quietAt; go_simp) (by simp only [Act.put, List.setIfInBounds_toArray, List.set_cons_zero, List.set_cons_succ]; rfl) ?nx12
  refine class_putB (a' := ?fr13) (.int .i64 ((x : Int) + (k : Int))) rfl (fun W hC => by unfold Oper.quietAt; go_simp) (by simp only [Act.put, List.setIfInBounds_toArray, List.set_cons_zero, List.set_cons_succ]; rfl) ?nx13
  refine class_putB (a' := ?fr14) (.int .i64 (len : Int)) rfl (fun W hC => by unfold Oper.quietAt; go_simp) (by simp only [Act.put, List.setIfInBounds_toArray, List.set_cons_zero, List.set_cons_succ]; rfl) ?nx14
  refine class_putB (a' := ?fr15) (.int .i64 (len : Int)) rfl (fun W hC => by unfold Oper.quietAt; go_simp) (by simp only [Act.put, List.setIfInBounds_toArray, List.set_cons_zero, List.set_cons_succ]; rfl) ?nx15
  refine class_putB (a' := ?fr16) (.slice (some ⟨g, o3, none⟩) v v) rfl (fun W hC => by unfold Oper.quietAt; rw [run_sub3 22 _ _ _ _ rfl (S3.out W)]; exact ⟨rfl, rfl⟩) (by simp only [Act.put, List.setIfInBounds_toArray, List.set_cons_zero, List.set_cons_succ]; rfl) ?nx16
  refine class_putB (a' := ?fr17) (.slice (some ⟨g, off, none⟩) x x) rfl (fun W hC => by unfold Oper.quietAt; go_simp) (by simp only [Act.put, List.setIfInBounds_toArray, List.set_cons_zero, List.set_cons_succ]; rfl) ?nx17
  refine class_putB (a' := ?fr18) (.slice (some ⟨g, o2, none⟩) k k) rfl (fun W hC => by unfold Oper.quietAt; go_simp) (by simp only [Act.put, List.setIfInBounds_toArray, List.set_cons_zero, List.set_cons_succ]; rfl) ?nx18
  refine class_putB (a' := ?fr19) (.slice (some ⟨g, o3, none⟩) v v) rfl (fun W hC => by unfold Oper.quietAt; go_simp) (by simp only [Act.put, List.setIfInBounds_toArray, List.set_cons_zero, List.set_cons_succ]; rfl) ?nx19
  refine wpQuiet_nil ?_
  intro W2 C2
  replace C2 := hide C2
  clear bx S1 S2 S3 S0
  go_wp2
  go_ret3
  exact ⟨rfl, gr_trans gV.out C2.out⟩
end
end Go.Proofs.Ytegaljpllcgaaaa
