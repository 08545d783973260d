/- Package binout keeps what the statements of layer 17 ask of it. Conditions: none beyond theirs. -/
import Derived.Test.YtaafkefgpgoepaaPoEnc
import Derived.Test.YtaafkefgpgoepaaG36Joined
namespace Go.Proofs.Ytaafkefgpgoepaa
set_option linter.unusedVariables false
open Go.RowKit Go.Shelf

section
variable {w : World} {r : Qv} {ca ta ka la : Option Addr} {cc tc kc lc : Nat} {xs : List Rv}
set_option maxRecDepth 100000 in
set_option maxHeartbeats 2000000 in
theorem penc_no {f : Fv} {n m : Nat} (h : n = 0 ∨ m = 0) : Calls Try.prog 10 #[.agg (rqG f n ca cc ta tc ka kc), .slice la m lc] w fun e w' => EncE [] w e w' := by
  have hh : ((n : Int) == 0) = true ∨ ((n : Int) == 0) = false ∧ ((m : Int) == 0) = true := by
    by_cases hn : n = 0
    · left; rw [hn]; rfl
    · right
      refine ⟨by rw [beq_eq_false_iff_ne]; omega, ?_⟩
      have : m = 0 := by omega
      rw [this]; rfl
  obtain ⟨V, hV⟩ : ∃ V, V = w.alloc (.cells (rqG f n ca cc ta tc ka kc) 28) := ⟨_, rfl⟩
  obtain ⟨q, hqq⟩ : ∃ q, q = w.heap.size := ⟨_, rfl⟩
  have gV : w.grownBy V none := by rw [hV]; exact World.grownBy_alloc _ _ _
  have rV : V.heap[q]? = some (.cells (rqG f n ca cc ta tc ka kc) 28 (0, 0)) := by rw [hV, hqq]; exact World.alloc_heap_new _ _
  have a0 := cellE rV 0 (.slice ca n cc) rfl
  replace gV := hide gV
  simp only [rqG] at hV ⊢
  clear rV h
  rcases hh with z1 | ⟨z1, z2⟩
  all_goals
    go_enter Try.func10, Try.ntmps10
    go_upto_region 1 with fail
    rw [← hV, ← hqq]
    clear hV hqq
    go_wp2
    go_ret
    exact EncE.nil gV.out
theorem penc_any (hq : QAt w r ca cc ta tc ka kc) (hx : Ru w la xs.length lc xs) (hf : FewR r xs) (o0 : 0 ≤ r.form.opq) (o1 : r.form.opq < 4294967296) : Calls Try.prog 10 #[.agg (rqC r ca cc ta tc ka kc), .slice la xs.length lc] w fun e w' => EncE (encA r xs) w e w' := by
  rw [rqG_of]
  by_cases hn : r.cmds.length = 0 ∨ xs.length = 0
  · have e : encA r xs = [] := by
      unfold encA
      match hc : r.cmds, xs, hn with
      | [], _, _ => rfl
      | _ :: _, [], _ => rfl
      | _ :: _, _ :: _, h => simp at h
    rw [e]
    exact penc_no hn
  · have hl : 0 < r.cmds.length := by omega
    have hm : 0 < xs.length := by omega
    obtain ⟨cb, co, rfl, va, vc, c_, cv_⟩ := hq.cmds.get (i := 0) hl
    obtain ⟨lb, lo, rfl, _, ya, yc, x_, v_⟩ := hx.get (i := 0) hm
    have hk := hf.k _ (List.getElem_mem hl)
    have hv := hf.v _ (List.getElem_mem hm)
    have ok := hx.ok _ (List.getElem_mem hm)
    have e : encA r xs = oneA r.form (r.cmds[0]'hl) (xs[0]'hm) := by
      unfold encA
      match hc : r.cmds, xs, hl, hm with
      | c :: cs, x :: xs, _, _ => simp
    rw [e]
    rw [show co + 0 * 10 = co by omega] at c_
    rw [show lo + 0 * 9 = lo by omega] at x_
    have H : EncH w r.form r.cmds.length xs.length (r.cmds[0]'hl) (xs[0]'hm) (some ⟨cb, co, none⟩) cb co va vc lb lo ya yc := ⟨hl, hm, hk, hv, o0, o1, ok, c_, x_, v_⟩
    generalize r.cmds[0]'hl = c at *
    generalize xs[0]'hm = x at *
    generalize r.cmds.length = n at *
    generalize xs.length = m at *
    cases hqu : r.form.quiet with
    | false => exact penc_loud H hqu
    | true =>
      cases hw : wontA c.op x.s with
      | false => exact penc_said H hqu hw
      | true => exact penc_hush H hqu hw
end
/-- The package. -/
theorem bo_lib : BoLib :=
  ⟨fun s w => pcode_any s w, fun w r ca cc ta tc ka kc la lc xs hq hx hf o0 o1 => penc_any hq hx hf o0 o1, fun w a len cap b v h hm hv => pread_any w a len cap b v h hm hv⟩
end Go.Proofs.Ytaafkefgpgoepaa
