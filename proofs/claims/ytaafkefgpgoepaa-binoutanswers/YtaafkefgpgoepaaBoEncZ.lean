/- The document's own answers of the binary dialect: all of them. Conditions: keys of at most 1000 bytes, values of at most 2000. -/
import Derived.Test.YtaafkefgpgoepaaG39Joined
import Derived.Test.YtaafkefgpgoepaaG40Joined
import Derived.Test.YtaafkefgpgoepaaG41Joined
import Derived.Test.YtaafkefgpgoepaaBoEncS
namespace Go.Proofs.Ytaafkefgpgoepaa
set_option linter.unusedVariables false
open Go.RowKit

section
variable {w : World} {r : Qv} {xs : List Rv} {ca ta ka la : Option Addr} {cc tc kc lc : Nat}
set_option maxRecDepth 100000 in
set_option maxHeartbeats 2000000 in
theorem renc_no {f : Fv} {n m : Nat} (h : n = 0 ∨ m = 0) : Calls Try.prog 11 #[.agg (rqG f n ca cc ta tc ka kc), .slice la m lc] w fun e w' => EncE [] w e w' := by
  have hh : ((n : Int) == 0) = true ∨ ((n : Int) == 0) = false ∧ ((m : Int) == 0) = true := by
    by_cases hn : n = 0
    · left; rw [hn]; rfl
    · right
      refine ⟨by rw [beq_eq_false_iff_ne]; omega, ?_⟩
      have : m = 0 := by omega
      rw [this]; rfl
  obtain ⟨V, hV⟩ : ∃ V, V = w.alloc (.cells (rqG f n ca cc ta tc ka kc) 28) := ⟨_, rfl⟩
  obtain ⟨q, hqq⟩ : ∃ q, q = w.heap.size := ⟨_, rfl⟩
  have gV : w.grownBy V none := by rw [hV]; exact World.grownBy_alloc _ _ _
  have rV : V.heap[q]? = some (.cells (rqG f n ca cc ta tc ka kc) 28 (0, 0)) := by rw [hV, hqq]; exact World.alloc_heap_new _ _
  have a0 := cellE rV 0 (.slice ca n cc) rfl
  replace gV := hide gV
  simp only [rqG] at hV ⊢
  clear rV h
  rcases hh with z1 | ⟨z1, z2⟩
  all_goals
    go_enter Try.func11, Try.ntmps11
    go_upto_region 1 with fail
    rw [← hV, ← hqq]
    clear hV hqq
    go_wp2
    go_ret
    exact EncE.nil gV.out
theorem renc_any (hq : QAt w r ca cc ta tc ka kc) (hx : Ru w la xs.length lc xs) (hf : FewR r xs) (o0 : 0 ≤ r.form.opq) (o1 : r.form.opq < 4294967296) : Calls Try.prog 11 #[.agg (rqC r ca cc ta tc ka kc), .slice la xs.length lc] w fun e w' => EncE (encA r xs) w e w' := by
  rw [rqG_of]
  by_cases hn : r.cmds.length = 0 ∨ xs.length = 0
  · have e : encA r xs = [] := by
      unfold encA
      match hc : r.cmds, xs, hn with
      | [], _, _ => rfl
      | _ :: _, [], _ => rfl
      | _ :: _, _ :: _, h => simp at h
    rw [e]
    exact renc_no hn
  · have hl : 0 < r.cmds.length := by omega
    have hm : 0 < xs.length := by omega
    obtain ⟨cb, co, rfl, va, vc, c_, cv_⟩ := hq.cmds.get (i := 0) hl
    obtain ⟨lb, lo, rfl, _, ya, yc, x_, v_⟩ := hx.get (i := 0) hm
    have hk := hf.k _ (List.getElem_mem hl)
    have hv := hf.v _ (List.getElem_mem hm)
    have ok := hx.ok _ (List.getElem_mem hm)
    have e : encA r xs = oneA r.form (r.cmds[0]'hl) (xs[0]'hm) := by
      unfold encA
      match hc : r.cmds, xs, hl, hm with
      | c :: cs, x :: xs, _, _ => simp
    rw [e]
    rw [show co + 0 * 10 = co by omega] at c_
    rw [show lo + 0 * 9 = lo by omega] at x_
    have H : EncH w r.form r.cmds.length xs.length (r.cmds[0]'hl) (xs[0]'hm) (some ⟨cb, co, none⟩) cb co va vc lb lo ya yc := ⟨hl, hm, hk, hv, o0, o1, ok, c_, x_, v_⟩
    generalize r.cmds[0]'hl = c at *
    generalize xs[0]'hm = x at *
    generalize r.cmds.length = n at *
    generalize xs.length = m at *
    obtain ⟨op, key, cval, cfl, cexp, ccas, cdel, cini, cmk, cse⟩ := c
    obtain ⟨s, val, fl, cas, ttl, num, st, won, lost⟩ := x
    by_cases h0 : op = 0
    · subst h0
      cases hqu : r.form.quiet with
      | false => exact renc_H1 H hqu
      | true =>
        by_cases hs : s = 1
        · subst hs; exact renc_S1 H hqu
        · exact renc_H4 H hqu hs
    · by_cases h1 : op = 1
      · subst h1
        cases hqu : r.form.quiet with
        | false => exact renc_H2 H hqu
        | true =>
          by_cases hs : s = 1
          · subst hs; exact renc_S2 H hqu
          · exact renc_H5 H hqu hs
      · have hop : ¬ (op = 0 ∨ op = 1) := by omega
        cases hqu : r.form.quiet with
        | false => exact renc_H3 H hqu hop
        | true =>
          by_cases hs : codeN s = 0
          · exact renc_S3 H hqu hop hs
          · exact renc_H6 H hqu hop hs
end
end Go.Proofs.Ytaafkefgpgoepaa
