/- Package binout's Encode, where there is a command and a result. Conditions: a key of at most 1000 bytes, a value of at most 2000. -/
import Derived.Test.YtaafkefgpgoepaaPoEnc0
namespace Go.Proofs.Ytaafkefgpgoepaa
set_option linter.unusedVariables false
set_option linter.unusedSimpArgs false
open Go.RowKit Go.Shelf

set_option maxRecDepth 100000 in
theorem act58 (z : Nat → Value) : actOf 58 z = { tmps := #[z 0, z 1, z 2, z 3, z 4, z 5, z 6, z 7, z 8, z 9, z 10, z 11, z 12, z 13, z 14, z 15, z 16, z 17, z 18, z 19, z 20, z 21, z 22, z 23, z 24, z 25, z 26, z 27, z 28, z 29, z 30, z 31, z 32, z 33, z 34, z 35, z 36, z 37, z 38, z 39, z 40, z 41, z 42, z 43, z 44, z 45, z 46, z 47, z 48, z 49, z 50, z 51, z 52, z 53, z 54, z 55, z 56, z 57], defers := [] } := rfl
section
set_option maxRecDepth 100000 in
set_option maxHeartbeats 8000000 in
theorem penc_loud {w : World} {f : Fv} {n m cc tc kc lc : Nat} {ta ka va ya : Option Addr} {cb co vc lb lo yc : Nat} {c : Cv} {x : Rv} (H : EncH w f n m c x (some ⟨cb, co, none⟩) cb co va vc lb lo ya yc) (hq : f.quiet = false) :
    Calls Try.prog 10 #[.agg (rqG f n (some ⟨cb, co, none⟩) cc ta tc ka kc), .slice (some ⟨lb, lo, none⟩) m lc] w fun e w' => EncE (oneA f c x) w e w' := by
  obtain ⟨n0, m0, hk, hv, o0, o1, ok, c_, x_, v_⟩ := H
  have z1 : ((n : Int) == 0) = false := by rw [beq_eq_false_iff_ne]; omega
  have z2 : ((m : Int) == 0) = false := by rw [beq_eq_false_iff_ne]; omega
  have z3 : (0 : Int) < (n : Int) := by omega
  have z4 : (0 : Int) < (m : Int) := by omega
  have z5 : ¬ n = 0 := by omega
  have z6 : ¬ m = 0 := by omega
  have HX : Hid (oneA f c x = packA f.code f.opq (codeN x.s) (toldC x) (toldX x) (toldK f c x) (toldV x)) := by
    show _ = _
    exact oneA_told (by rw [hush_is, hq]; rfl)
  have XL := hide (toldX_le x)
  have KL := hide (toldK_le f x hk)
  have VL := hide (toldV_le hv)
  have CB := hide (toldC_bd ok)
  have HO : Hid (0 ≤ f.opq ∧ f.opq < 4294967296) := ⟨o0, o1⟩
  have HK := hide hk
  have HOK := hide ok
  obtain ⟨V, hV⟩ : ∃ V, V = w.alloc (.cells (rqG f n (some ⟨cb, co, none⟩) cc ta tc ka kc) 28) := ⟨_, rfl⟩
  obtain ⟨q, hqq⟩ : ∃ q, q = w.heap.size := ⟨_, rfl⟩
  have gV : w.grownBy V none := by rw [hV]; exact World.grownBy_alloc _ _ _
  have rV : V.heap[q]? = some (.cells (rqG f n (some ⟨cb, co, none⟩) cc ta tc ka kc) 28 (0, 0)) := by rw [hV, hqq]; exact World.alloc_heap_new _ _
  have a0 := cellE rV 0 (.slice (some ⟨cb, co, none⟩) n cc) rfl
  have A0 := hide (fun (W : World) (hW : V.grownBy W none) => keep_cell hW a0)
  have RC := hide (fun (W : World) (hW : V.grownBy W none) => rngE (gr_trans gV hW) c_)
  have RX := hide (fun (W : World) (hW : V.grownBy W none) => rngE (gr_trans gV hW) x_)
  have HY := hide (fun (W : World) (hW : w.grownBy W none) => v_.on (below_gr hW))
  have GV := hide gV
  have RV := hide rV
  have HQ := hide hq
  skip
  clear n0 m0 hk hv o0 o1 ok c_ x_ v_ gV rV hq 
  simp only [rqG] at hV ⊢
  go_enter Try.func10, Try.ntmps10
  go_upto_region 1 with fail
  rw [← hV, ← hqq]
  clear hV hqq
  go_upto_region 3 with fail
  clear a0
  refine Code.wp_mono (Q := fun e a w' => e = .normal ∧ ∃ P K, ∃ z : Nat → Value, a = actOf 58 z ∧ z 2 = .pointer (some ⟨q, 0, none⟩) ∧ z 5 = .pointer (some ⟨P, 0, none⟩) ∧ z 6 = .pointer (some ⟨K, 0, none⟩) ∧ EB w w' q P K f n (some ⟨cb, co, none⟩) cc ta tc ka kc c va vc x ya yc) ?tail ?heads
  case heads =>
    refine wp_region_held (S := fun W' => V.grownBy W' none) (by kernel_rfl) ?_
    have S0 : V.grownBy V.drew none := gr_of_below (Below.drew (Below.refl _ _))
    change wpAnyH _ _ _ _ _ 11 (Array.replicate 11 false) _ V.drew
    generalize V.drew = W3 at *
    refine take_at 0 18 (v := .pointer (some ⟨q, 0, none⟩)) rfl rfl (by kernel_rfl) (by kernel_rfl) (by kernel_rfl) (fun _ _ _ h => by cases h.1) (Or.inl ⟨by rfl, fun W hW => by go_simp⟩) S0 ?_
    simp only [Act.put, List.setIfInBounds_toArray, List.set_cons_zero, List.set_cons_succ]
    refine take_at 1 19 (v := .slice (some ⟨cb, co, none⟩) n cc) rfl rfl (by kernel_rfl) (by kernel_rfl) (by kernel_rfl) (fun _ _ _ h => by cases h.1) (Or.inl ⟨by rfl, fun W hW => by have c0 := A0.out W hW; go_simp⟩) S0 ?_
    simp only [Act.put, List.setIfInBounds_toArray, List.set_cons_zero, List.set_cons_succ]
    refine take_at 2 20 (v := .pointer (some ⟨cb, co, none⟩)) rfl rfl (by kernel_rfl) (by kernel_rfl) (by kernel_rfl) (fun _ _ _ h => by cases h.1) (Or.inl ⟨by rfl, fun W hW => by go_simp⟩) S0 ?_
    simp only [Act.put, List.setIfInBounds_toArray, List.set_cons_zero, List.set_cons_succ]
    refine take_at 3 21 (v := .agg (cmC c va vc)) rfl rfl (by kernel_rfl) (by kernel_rfl) (by kernel_rfl) (fun _ _ _ h => by cases h.1) (yieldsIf_load_mid (by rfl) 48 _ rfl cb co rfl (cmC c va vc).toList _ (fun W hW => RC.out W hW) Try.underlying48 rfl (by rw [cmd_size c va vc, Array.length_toList])) S0 ?_
    simp only [Act.put, List.setIfInBounds_toArray, List.set_cons_zero, List.set_cons_succ]
    refine take_at 4 22 (v := .slice (some ⟨lb, lo, none⟩) m lc) rfl rfl (by kernel_rfl) (by kernel_rfl) (by kernel_rfl) (fun _ _ _ h => by cases h.1) (Or.inl ⟨by rfl, fun W hW => by go_simp⟩) S0 ?_
    simp only [Act.put, List.setIfInBounds_toArray, List.set_cons_zero, List.set_cons_succ]
    refine take_at 5 23 (v := .pointer (some ⟨lb, lo, none⟩)) rfl rfl (by kernel_rfl) (by kernel_rfl) (by kernel_rfl) (fun _ _ _ h => by cases h.1) (Or.inl ⟨by rfl, fun W hW => by go_simp⟩) S0 ?_
    simp only [Act.put, List.setIfInBounds_toArray, List.set_cons_zero, List.set_cons_succ]
    refine take_at 6 24 (v := .agg (rsC x ya yc)) rfl rfl (by kernel_rfl) (by kernel_rfl) (by kernel_rfl) (fun _ _ _ h => by cases h.1) (yieldsIf_load_mid (by rfl) 46 _ rfl lb lo rfl (rsC x ya yc).toList _ (fun W hW => RX.out W hW) Try.underlying46 rfl (by rw [res_size x ya yc, Array.length_toList])) S0 ?_
    simp only [Act.put, List.setIfInBounds_toArray, List.set_cons_zero, List.set_cons_succ]
    refine wpAnyH_all (rs := [7, 8]) (by kernel_rfl) (by simp) fun j hj => ?_
    rcases (by simpa using hj : j = 7 ∨ j = 8) with rfl | rfl
    · obtain ⟨g2, h1, h2, l1, l2, ne⟩ := al_two (W := W3) (z1 := zC) (z2 := zR) (t1 := 48) (t2 := 46) S0
      have g1 : V.grownBy (W3.alloc (.cells zC 48)) none := gr_trans S0 (World.grownBy_alloc _ _ _)
      obtain ⟨p1, hp1⟩ : ∃ p, p = W3.heap.size := ⟨_, rfl⟩
      obtain ⟨p2, hp2⟩ : ∃ p, p = (W3.alloc (.cells zC 48)).heap.size := ⟨_, rfl⟩
      obtain ⟨U2, hU2⟩ : ∃ U, U = (W3.alloc (.cells zC 48)).alloc (.cells zR 46) := ⟨_, rfl⟩
      rw [← hU2] at g2 h1 h2
      rw [← hp1] at h1 l1 ne
      rw [← hp2] at h2 l2 ne
      obtain ⟨k1, k2, k3, k4, k5⟩ := st_two (cmC c va vc) (rsC x ya yc) g2 h1 h2 l1 l2 ne
      have hc := h1
      refine wpOp_plain rfl rfl ?_
      refine oper_value 5 rfl (v := .pointer (some ⟨p1, 0, none⟩)) (w' := W3.alloc (.cells zC 48)) (by rw [hp1]; unfold zC; go_simp) ?_
      refine ⟨g1, ?_⟩
      simp only [Act.put, List.setIfInBounds_toArray, List.set_cons_zero, List.set_cons_succ]
      refine one_at 8 (by kernel_rfl) rfl rfl ?_
      refine oper_value 6 rfl (v := .pointer (some ⟨p2, 0, none⟩)) (w' := U2) (by rw [hp2, hU2]; unfold zC zR; go_simp) ?_
      refine ⟨g2, ?_⟩
      simp only [Act.put, List.setIfInBounds_toArray, List.set_cons_zero, List.set_cons_succ]
      refine one_at 9 (by kernel_rfl) rfl rfl ?_
      refine wp_store_row 48 _ _ rfl p1 (cmC c va vc) rfl rfl _ _ hc (cmd_size _ _ _) rfl (cmd_one _ _ _) ?_
      refine ⟨k1, ?_⟩
      simp only [Act.put, List.setIfInBounds_toArray, List.set_cons_zero, List.set_cons_succ]
      refine one_at 10 (by kernel_rfl) rfl rfl ?_
      refine wp_store_row 46 _ _ rfl p2 (rsC x ya yc) rfl rfl _ _ k2 (res_size _ _ _) rfl (res_one _ _ _) ?_
      refine ⟨k3, ?_⟩
      simp only [Act.put, List.setIfInBounds_toArray, List.set_cons_zero, List.set_cons_succ]
      refine wpAnyH_done (by kernel_rfl) ?_ _
      exact ⟨rfl, p1, p2, _, act_as 58 _ rfl, rfl, rfl, rfl, gr_trans GV.out k3, (k3.block _ (Array.getElem?_eq_some_iff.1 RV.out).1 (by simp)).trans RV.out, k4, k5, HY.out _ (gr_trans GV.out k3)⟩
    · obtain ⟨g2, h1, h2, l1, l2, ne⟩ := al_two (W := W3) (z1 := zR) (z2 := zC) (t1 := 46) (t2 := 48) S0
      have g1 : V.grownBy (W3.alloc (.cells zR 46)) none := gr_trans S0 (World.grownBy_alloc _ _ _)
      obtain ⟨p1, hp1⟩ : ∃ p, p = W3.heap.size := ⟨_, rfl⟩
      obtain ⟨p2, hp2⟩ : ∃ p, p = (W3.alloc (.cells zR 46)).heap.size := ⟨_, rfl⟩
      obtain ⟨U2, hU2⟩ : ∃ U, U = (W3.alloc (.cells zR 46)).alloc (.cells zC 48) := ⟨_, rfl⟩
      rw [← hU2] at g2 h1 h2
      rw [← hp1] at h1 l1 ne
      rw [← hp2] at h2 l2 ne
      obtain ⟨k1, k2, k3, k4, k5⟩ := st_two (cmC c va vc) (rsC x ya yc) g2 h2 h1 l2 l1 ne.symm
      have hc := h2
      refine wpOp_plain rfl rfl ?_
      refine oper_value 6 rfl (v := .pointer (some ⟨p1, 0, none⟩)) (w' := W3.alloc (.cells zR 46)) (by rw [hp1]; unfold zR; go_simp) ?_
      refine ⟨g1, ?_⟩
      simp only [Act.put, List.setIfInBounds_toArray, List.set_cons_zero, List.set_cons_succ]
      refine one_at 7 (by kernel_rfl) rfl rfl ?_
      refine oper_value 5 rfl (v := .pointer (some ⟨p2, 0, none⟩)) (w' := U2) (by rw [hp2, hU2]; unfold zC zR; go_simp) ?_
      refine ⟨g2, ?_⟩
      simp only [Act.put, List.setIfInBounds_toArray, List.set_cons_zero, List.set_cons_succ]
      refine one_at 9 (by kernel_rfl) rfl rfl ?_
      refine wp_store_row 48 _ _ rfl p2 (cmC c va vc) rfl rfl _ _ hc (cmd_size _ _ _) rfl (cmd_one _ _ _) ?_
      refine ⟨k1, ?_⟩
      simp only [Act.put, List.setIfInBounds_toArray, List.set_cons_zero, List.set_cons_succ]
      refine one_at 10 (by kernel_rfl) rfl rfl ?_
      refine wp_store_row 46 _ _ rfl p1 (rsC x ya yc) rfl rfl _ _ k2 (res_size _ _ _) rfl (res_one _ _ _) ?_
      refine ⟨k3, ?_⟩
      simp only [Act.put, List.setIfInBounds_toArray, List.set_cons_zero, List.set_cons_succ]
      refine wpAnyH_done (by kernel_rfl) ?_ _
      exact ⟨rfl, p2, p1, _, act_as 58 _ rfl, rfl, rfl, rfl, gr_trans GV.out k3, (k3.block _ (Array.getElem?_eq_some_iff.1 RV.out).1 (by simp)).trans RV.out, k4, k5, HY.out _ (gr_trans GV.out k3)⟩
  case tail =>
    rintro e a W4 ⟨rfl, P, K, z, rfl, h2, h5, h6, E4⟩
    rw [act58, h2, h5, h6]
    clear h2 h5 h6
    have a3 := cellE E4.q 5 (.bool f.quiet) rfl
    rw [HQ.out] at a3
    have a1 := cellE E4.p 0 (.int .i64 c.op) rfl
    have a2 := cellE E4.k 0 (.int .i64 x.s) rfl
    have rf := E4.form
    replace E4 := hide E4
    clear A0 RC RX RV GV HY
    have PT := hide (fun (U : World) => ptold_any (w := U) (f := f) (ta := ta) (ka := ka) (tc := tc) (kc := kc) (c := c) (va := va) (vc := vc) (x := x) (ya := ya) (yc := yc))
    go_upto_region 7 with (first
      | fail
      | (refine wpList_load_mid rfl 26 _ rfl q 1 rfl (fmC f ta tc ka kc).toList _ rf Try.underlying26 rfl (by rw [fmE_size f ta tc ka kc, Array.length_toList]) ?_; clear rf)
      | (refine wpList_load_row rfl 48 _ rfl P rfl _ _ _ _ E4.out.p Try.underlying48 rfl (cmd_size c va vc) ?_)
      | (refine wpList_load_row rfl 46 _ rfl K rfl _ _ _ _ E4.out.k Try.underlying46 rfl (res_size x ya yc) ?_)
      | (go_at_call 17; go_loud (refine (PT.out _ E4.out.v HK.out HOK.out).mono ?_; rintro e w5 ⟨xa, xn, xc, kb, kn, kd, wa, wn, wc, rfl, b1, b2, b3, g5⟩; obtain ⟨U, hU⟩ : ∃ U, U = w5.alloc (.cells (pt3 xa xn xc kb kn kd wa wn wc) 38) := ⟨_, rfl⟩; obtain ⟨B, hB⟩ : ∃ B, B = w5.heap.size := ⟨_, rfl⟩; have gU : w5.grownBy U none := (by rw [hU]; exact World.grownBy_alloc _ _ _); have RB : Hid (U.heap[B]? = some (.cells (pt3 xa xn xc kb kn kd wa wn wc) 38 (0, 0))) := (by rw [hU, hB]; exact World.alloc_heap_new _ _); have BX := hide (b1.on (below_gr gU)); have BK := hide (b2.on (below_gr gU)); have BW := hide (b3.on (below_gr gU)); have GU := hide (gr_trans E4.out.gr (gr_trans g5 gU)); have EU := hide (E4.out.on (gr_trans g5 gU)); have nx := hide b1.n; have nk := hide b2.n; have nw := hide b3.n; replace hU := hide hU; replace hB := hide hB; clear b1 b2 b3 g5 gU PT a1 a2 a3))
      | (refine wpList_store_row rfl 38 _ _ rfl w5.heap.size (pt3 xa xn xc kb kn kd wa wn wc) rfl rfl _ _ (World.alloc_heap_new w5 _) (pt3_size _ _ _ _ _ _ _ _ _) rfl (pt3_one _ _ _ _ _ _ _ _ _) ?_; rw [setRow_alloc, ← hU.out, ← hB.out]; clear hU hB))
    have RF := hide EU.out.form
    have A6 := hide (cellE EU.out.k 0 (.int .i64 x.s) rfl)
    have PH := hide (fun (u : World) => phead_any (w := u) (f := f) (ta := ta) (ka := ka) (tc := tc) (kc := kc) (s := x.s) (cas := toldC x) (xa := xa) (kb := kb) (va := wa) (xn := xn) (xc := xc) (kn := kn) (kd := kd) (vn := wn) (vc := wc) (by rw [← nx.out]; exact XL.out) (by rw [← nk.out]; exact KL.out) (by rw [← nw.out]; exact VL.out) CB.out.1 CB.out.2 HO.out.1 HO.out.2)
    have LT : Hid ([headL f.code f.opq (codeN x.s) (toldC x) xn kn wn, toldX x, toldK f c x, toldV x].flatten.length = 24 + xn + kn + wn ∧ 24 + xn + kn + wn ≤ 50000) := by
      have h1 := XL.out
      have h2 := KL.out
      have h3 := VL.out
      rw [nx.out] at h1
      rw [nk.out] at h2
      rw [nw.out] at h3
      refine ⟨?_, by omega⟩
      simp only [List.flatten_cons, List.flatten_nil, List.length_append, List.length_nil, headL_len, nx.out, nk.out, nw.out]
      omega
    have FL : Hid (packA f.code f.opq (codeN x.s) (toldC x) (toldX x) (toldK f c x) (toldV x) = [headL f.code f.opq (codeN x.s) (toldC x) xn kn wn, toldX x, toldK f c x, toldV x].flatten) := by
      show _ = _
      rw [packA_head, nx.out, nk.out, nw.out]
      simp [List.flatten, List.append_assoc]
    clear nx nk nw XL KL VL
    refine wp_region_inv (N := 58) (Sp := SpL [EqV (.pointer (some ⟨q, 1, none⟩)), EqV (.agg (fmC f ta tc ka kc)), EqV (.pointer (some ⟨K, 0, none⟩)), EqV (.int .i64 x.s), EqV (.int .u64 (toldC x)), EqV (.agg (pt3 xa xn xc kb kn kd wa wn wc)), IsR 24 (headL f.code f.opq (codeN x.s) (toldC x) xn kn wn), EqV (.pointer (some ⟨B, 0, none⟩)), EqV (.slice xa xn xc), EqV (.pointer (some ⟨B, 1, none⟩)), EqV (.slice kb kn kd), EqV (.pointer (some ⟨B, 2, none⟩)), EqV (.slice wa wn wc), IsRs 4 [headL f.code f.opq (codeN x.s) (toldC x) xn kn wn, toldX x, toldK f c x, toldV x], IsR (24 + xn + kn + wn) ([headL f.code f.opq (codeN x.s) (toldC x) xn kn wn, toldX x, toldK f c x, toldV x].flatten), IsR (24 + xn + kn + wn) ([headL f.code f.opq (codeN x.s) (toldC x) xn kn wn, toldX x, toldK f c x, toldV x].flatten)]) (by kernel_rfl) (by rfl) (by kernel_rfl) (spL_mono (mono_cons (mono_eq _) (mono_cons (mono_eq _) (mono_cons (mono_eq _) (mono_cons (mono_eq _) (mono_cons (mono_eq _) (mono_cons (mono_eq _) (mono_cons (mono_r _ _) (mono_cons (mono_eq _) (mono_cons (mono_eq _) (mono_cons (mono_eq _) (mono_cons (mono_eq _) (mono_cons (mono_eq _) (mono_cons (mono_eq _) (mono_cons (mono_rs _ _) (mono_cons (mono_r _ _) (mono_cons (mono_r _ _) (mono_nil)))))))))))))))))) ?_ ?_
    · refine ⟨?_, ?_, ?_, ?_, ?_, ?_, ?_, ?_, ?_, ?_, ?_, ?_, ?_, ?_, ?_, ?_, trivial⟩
      · intro z u hg hfix dep
        have e2 : z 2 = .pointer (some ⟨q, 0, none⟩) := hfix 2 (by kernel_rfl)
        refine .inl ⟨rfl, ?_⟩
        refine oper_value 43 rfl (v := .pointer (some ⟨q, 1, none⟩)) (w' := u) (by rw [act58]; go_simp) ⟨_, rfl, gr_refl _ _, spL_at rfl rfl⟩
      · intro z u hg hfix dep
        have d43 : (EqV (.pointer (some ⟨q, 1, none⟩))) (z 43) u := dep 0 (by kernel_rfl) _ rfl
        have q43 : z 43 = (.pointer (some ⟨q, 1, none⟩)) := d43
        refine .inl ⟨rfl, ?_⟩
        refine wp_load_mid 26 _ rfl q 1 q43 (fmC f ta tc ka kc).toList _ (rngE hg (RF.out)) Try.underlying26 rfl (by rw [fmE_size f ta tc ka kc, Array.length_toList]) ?_
        exact ⟨_, rfl, gr_refl _ _, spL_at rfl rfl⟩
      · intro z u hg hfix dep
        have e6 : z 6 = .pointer (some ⟨K, 0, none⟩) := hfix 6 (by kernel_rfl)
        refine .inl ⟨rfl, ?_⟩
        refine oper_value 45 rfl (v := .pointer (some ⟨K, 0, none⟩)) (w' := u) (by rw [act58]; go_simp) ⟨_, rfl, gr_refl _ _, spL_at rfl rfl⟩
      · intro z u hg hfix dep
        have d45 : (EqV (.pointer (some ⟨K, 0, none⟩))) (z 45) u := dep 2 (by kernel_rfl) _ rfl
        have q45 : z 45 = (.pointer (some ⟨K, 0, none⟩)) := d45
        refine .inl ⟨rfl, ?_⟩
        have c0 := keep_cell hg A6.out
        refine oper_value 46 rfl (v := .int .i64 x.s) (w' := u) (by rw [act58]; go_simp) ⟨_, rfl, gr_refl _ _, spL_at rfl rfl⟩
      · intro z u hg hfix dep
        have e8 : z 8 = .int .u64 (toldC x) := hfix 8 (by kernel_rfl)
        refine .inl ⟨rfl, ?_⟩
        refine oper_value 47 rfl (v := .int .u64 (toldC x)) (w' := u) (by rw [act58]; go_simp) ⟨_, rfl, gr_refl _ _, spL_at rfl rfl⟩
      · intro z u hg hfix dep
        have e7 : z 7 = .pointer (some ⟨B, 0, none⟩) := hfix 7 (by kernel_rfl)
        refine .inl ⟨rfl, ?_⟩
        refine wp_load_row 38 _ rfl B e7 _ _ _ _ ((hg.block _ (Array.getElem?_eq_some_iff.1 RB.out).1 (by simp)).trans RB.out) Try.underlying38 rfl (pt3_size _ _ _ _ _ _ _ _ _) ?_
        exact ⟨_, rfl, gr_refl _ _, spL_at rfl rfl⟩
      · intro z u hg hfix dep
        have d44 : (EqV (.agg (fmC f ta tc ka kc))) (z 44) u := dep 1 (by kernel_rfl) _ rfl
        have q44 : z 44 = (.agg (fmC f ta tc ka kc)) := d44
        have d46 : (EqV (.int .i64 x.s)) (z 46) u := dep 3 (by kernel_rfl) _ rfl
        have q46 : z 46 = (.int .i64 x.s) := d46
        have d47 : (EqV (.int .u64 (toldC x))) (z 47) u := dep 4 (by kernel_rfl) _ rfl
        have q47 : z 47 = (.int .u64 (toldC x)) := d47
        have d48 : (EqV (.agg (pt3 xa xn xc kb kn kd wa wn wc))) (z 48) u := dep 5 (by kernel_rfl) _ rfl
        have q48 : z 48 = (.agg (pt3 xa xn xc kb kn kd wa wn wc)) := d48
        refine .inl ⟨rfl, ?_⟩
        refine oper_call 49 rfl (by rw [act58]; go_simp) (PH.out u) ?_
        rintro e w' ⟨a, c, rfl, b9, g9⟩; exact ⟨_, rfl, _, rfl, g9, spL_at rfl ⟨a, c, rfl, b9⟩⟩
      · intro z u hg hfix dep
        have e7 : z 7 = .pointer (some ⟨B, 0, none⟩) := hfix 7 (by kernel_rfl)
        refine .inl ⟨rfl, ?_⟩
        refine oper_value 50 rfl (v := .pointer (some ⟨B, 0, none⟩)) (w' := u) (by rw [act58]; go_simp) ⟨_, rfl, gr_refl _ _, spL_at rfl rfl⟩
      · intro z u hg hfix dep
        have d50 : (EqV (.pointer (some ⟨B, 0, none⟩))) (z 50) u := dep 7 (by kernel_rfl) _ rfl
        have q50 : z 50 = (.pointer (some ⟨B, 0, none⟩)) := d50
        refine .inl ⟨rfl, ?_⟩
        have c0 := keep_cell hg (cellE RB.out 0 (.slice xa xn xc) rfl)
        refine oper_value 51 rfl (v := .slice xa xn xc) (w' := u) (by rw [act58]; go_simp) ⟨_, rfl, gr_refl _ _, spL_at rfl rfl⟩
      · intro z u hg hfix dep
        have e7 : z 7 = .pointer (some ⟨B, 0, none⟩) := hfix 7 (by kernel_rfl)
        refine .inl ⟨rfl, ?_⟩
        refine oper_value 52 rfl (v := .pointer (some ⟨B, 1, none⟩)) (w' := u) (by rw [act58]; go_simp) ⟨_, rfl, gr_refl _ _, spL_at rfl rfl⟩
      · intro z u hg hfix dep
        have d52 : (EqV (.pointer (some ⟨B, 1, none⟩))) (z 52) u := dep 9 (by kernel_rfl) _ rfl
        have q52 : z 52 = (.pointer (some ⟨B, 1, none⟩)) := d52
        refine .inl ⟨rfl, ?_⟩
        have c0 := keep_cell hg (cellE RB.out 1 (.slice kb kn kd) rfl)
        refine oper_value 53 rfl (v := .slice kb kn kd) (w' := u) (by rw [act58]; go_simp) ⟨_, rfl, gr_refl _ _, spL_at rfl rfl⟩
      · intro z u hg hfix dep
        have e7 : z 7 = .pointer (some ⟨B, 0, none⟩) := hfix 7 (by kernel_rfl)
        refine .inl ⟨rfl, ?_⟩
        refine oper_value 54 rfl (v := .pointer (some ⟨B, 2, none⟩)) (w' := u) (by rw [act58]; go_simp) ⟨_, rfl, gr_refl _ _, spL_at rfl rfl⟩
      · intro z u hg hfix dep
        have d54 : (EqV (.pointer (some ⟨B, 2, none⟩))) (z 54) u := dep 11 (by kernel_rfl) _ rfl
        have q54 : z 54 = (.pointer (some ⟨B, 2, none⟩)) := d54
        refine .inl ⟨rfl, ?_⟩
        have c0 := keep_cell hg (cellE RB.out 2 (.slice wa wn wc) rfl)
        refine oper_value 55 rfl (v := .slice wa wn wc) (w' := u) (by rw [act58]; go_simp) ⟨_, rfl, gr_refl _ _, spL_at rfl rfl⟩
      · intro z u hg hfix dep
        have d49 : (IsR 24 (headL f.code f.opq (codeN x.s) (toldC x) xn kn wn)) (z 49) u := dep 6 (by kernel_rfl) _ rfl
        have d51 : (EqV (.slice xa xn xc)) (z 51) u := dep 8 (by kernel_rfl) _ rfl
        have q51 : z 51 = (.slice xa xn xc) := d51
        have d53 : (EqV (.slice kb kn kd)) (z 53) u := dep 10 (by kernel_rfl) _ rfl
        have q53 : z 53 = (.slice kb kn kd) := d53
        have d55 : (EqV (.slice wa wn wc)) (z 55) u := dep 12 (by kernel_rfl) _ rfl
        have q55 : z 55 = (.slice wa wn wc) := d55
        refine .inl ⟨rfl, ?_⟩
        obtain ⟨a9, c9, h49, b9⟩ := d49
        refine oper_value 56 rfl (v := .slice (some ⟨u.heap.size, 0, none⟩) 4 4) (w' := u.alloc (.cells #[.slice a9 24 c9, .slice xa xn xc, .slice kb kn kd, .slice wa wn wc] 32)) (by rw [act58]; go_simp) ⟨_, rfl, World.grownBy_alloc _ _ _, spL_at rfl ⟨_, rfl, rws_of (World.alloc_heap_new _ _) fun i hi => ?_⟩⟩
        have gn : u.grownBy (u.alloc (.cells #[.slice a9 24 c9, .slice xa xn xc, .slice kb kn kd, .slice wa wn wc] 32)) none := World.grownBy_alloc _ _ _
        match i, hi with
        | 0, _ => exact ⟨_, _, _, rfl, b9.on (below_gr gn)⟩
        | 1, _ => exact ⟨_, _, _, rfl, BX.out.on (below_gr (gr_trans hg gn))⟩
        | 2, _ => exact ⟨_, _, _, rfl, BK.out.on (below_gr (gr_trans hg gn))⟩
        | 3, _ => exact ⟨_, _, _, rfl, BW.out.on (below_gr (gr_trans hg gn))⟩
      · intro z u hg hfix dep
        have d56 : (IsRs 4 [headL f.code f.opq (codeN x.s) (toldC x) xn kn wn, toldX x, toldK f c x, toldV x]) (z 56) u := dep 13 (by kernel_rfl) _ rfl
        refine .inl ⟨rfl, ?_⟩
        obtain ⟨g56, h56, b56⟩ := d56
        refine oper_call 57 rfl (by rw [act58]; go_simp) (cat_r (n := 4) (m := 24 + xn + kn + wn) b56 rfl (by decide) LT.out.1 LT.out.2) ?_
        rintro e w' h; obtain ⟨v, rfl, hg2, hi⟩ := h; exact ⟨v, rfl, v, rfl, hg2, spL_at rfl hi⟩
      · intro z u hg hfix dep
        have d57 : (IsR (24 + xn + kn + wn) ([headL f.code f.opq (codeN x.s) (toldC x) xn kn wn, toldX x, toldK f c x, toldV x].flatten)) (z 57) u := dep 14 (by kernel_rfl) _ rfl
        refine .inl ⟨rfl, ?_⟩
        obtain ⟨a, c, h57, b57⟩ := d57
        refine oper_value 4 rfl (v := .slice a (24 + xn + kn + wn) c) (w' := u) (by rw [act58]; go_simp) ⟨_, rfl, gr_refl _ _, spL_at rfl ⟨a, c, rfl, b57⟩⟩
    · intro z u hg hfix h
      have h8 : IsR (24 + xn + kn + wn) ([headL f.code f.opq (codeN x.s) (toldC x) xn kn wn, toldX x, toldK f c x, toldV x].flatten) (z 4) u := h 15 (by decide) _ rfl
      obtain ⟨a, c0, h8, b8⟩ := h8
      rw [act58]
      go_wp2
      go_ret
      rw [HX.out]
      exact ⟨a, _, c0, by first | rfl | exact congrArg Ending.returned h8, Nat.le_trans LT.out.2 (by decide), by rw [FL.out]; exact b8, gr_trans GU.out hg⟩
set_option maxRecDepth 100000 in
set_option maxHeartbeats 8000000 in
theorem penc_said {w : World} {f : Fv} {n m cc tc kc lc : Nat} {ta ka va ya : Option Addr} {cb co vc lb lo yc : Nat} {c : Cv} {x : Rv} (H : EncH w f n m c x (some ⟨cb, co, none⟩) cb co va vc lb lo ya yc) (hq : f.quiet = true) (hw : wontA c.op x.s = false) :
    Calls Try.prog 10 #[.agg (rqG f n (some ⟨cb, co, none⟩) cc ta tc ka kc), .slice (some ⟨lb, lo, none⟩) m lc] w fun e w' => EncE (oneA f c x) w e w' := by
  obtain ⟨n0, m0, hk, hv, o0, o1, ok, c_, x_, v_⟩ := H
  have z1 : ((n : Int) == 0) = false := by rw [beq_eq_false_iff_ne]; omega
  have z2 : ((m : Int) == 0) = false := by rw [beq_eq_false_iff_ne]; omega
  have z3 : (0 : Int) < (n : Int) := by omega
  have z4 : (0 : Int) < (m : Int) := by omega
  have z5 : ¬ n = 0 := by omega
  have z6 : ¬ m = 0 := by omega
  have HX : Hid (oneA f c x = packA f.code f.opq (codeN x.s) (toldC x) (toldX x) (toldK f c x) (toldV x)) := by
    show _ = _
    exact oneA_told (by rw [hush_is, hq, hw]; rfl)
  have XL := hide (toldX_le x)
  have KL := hide (toldK_le f x hk)
  have VL := hide (toldV_le hv)
  have CB := hide (toldC_bd ok)
  have HO : Hid (0 ≤ f.opq ∧ f.opq < 4294967296) := ⟨o0, o1⟩
  have HK := hide hk
  have HOK := hide ok
  obtain ⟨V, hV⟩ : ∃ V, V = w.alloc (.cells (rqG f n (some ⟨cb, co, none⟩) cc ta tc ka kc) 28) := ⟨_, rfl⟩
  obtain ⟨q, hqq⟩ : ∃ q, q = w.heap.size := ⟨_, rfl⟩
  have gV : w.grownBy V none := by rw [hV]; exact World.grownBy_alloc _ _ _
  have rV : V.heap[q]? = some (.cells (rqG f n (some ⟨cb, co, none⟩) cc ta tc ka kc) 28 (0, 0)) := by rw [hV, hqq]; exact World.alloc_heap_new _ _
  have a0 := cellE rV 0 (.slice (some ⟨cb, co, none⟩) n cc) rfl
  have A0 := hide (fun (W : World) (hW : V.grownBy W none) => keep_cell hW a0)
  have RC := hide (fun (W : World) (hW : V.grownBy W none) => rngE (gr_trans gV hW) c_)
  have RX := hide (fun (W : World) (hW : V.grownBy W none) => rngE (gr_trans gV hW) x_)
  have HY := hide (fun (W : World) (hW : w.grownBy W none) => v_.on (below_gr hW))
  have GV := hide gV
  have RV := hide rV
  have HQ := hide hq
  have HW := hide hw
  clear n0 m0 hk hv o0 o1 ok c_ x_ v_ gV rV hq hw
  simp only [rqG] at hV ⊢
  go_enter Try.func10, Try.ntmps10
  go_upto_region 1 with fail
  rw [← hV, ← hqq]
  clear hV hqq
  go_upto_region 3 with fail
  clear a0
  refine Code.wp_mono (Q := fun e a w' => e = .normal ∧ ∃ P K, ∃ z : Nat → Value, a = actOf 58 z ∧ z 2 = .pointer (some ⟨q, 0, none⟩) ∧ z 5 = .pointer (some ⟨P, 0, none⟩) ∧ z 6 = .pointer (some ⟨K, 0, none⟩) ∧ EB w w' q P K f n (some ⟨cb, co, none⟩) cc ta tc ka kc c va vc x ya yc) ?tail ?heads
  case heads =>
    refine wp_region_held (S := fun W' => V.grownBy W' none) (by kernel_rfl) ?_
    have S0 : V.grownBy V.drew none := gr_of_below (Below.drew (Below.refl _ _))
    change wpAnyH _ _ _ _ _ 11 (Array.replicate 11 false) _ V.drew
    generalize V.drew = W3 at *
    refine take_at 0 18 (v := .pointer (some ⟨q, 0, none⟩)) rfl rfl (by kernel_rfl) (by kernel_rfl) (by kernel_rfl) (fun _ _ _ h => by cases h.1) (Or.inl ⟨by rfl, fun W hW => by go_simp⟩) S0 ?_
    simp only [Act.put, List.setIfInBounds_toArray, List.set_cons_zero, List.set_cons_succ]
    refine take_at 1 19 (v := .slice (some ⟨cb, co, none⟩) n cc) rfl rfl (by kernel_rfl) (by kernel_rfl) (by kernel_rfl) (fun _ _ _ h => by cases h.1) (Or.inl ⟨by rfl, fun W hW => by have c0 := A0.out W hW; go_simp⟩) S0 ?_
    simp only [Act.put, List.setIfInBounds_toArray, List.set_cons_zero, List.set_cons_succ]
    refine take_at 2 20 (v := .pointer (some ⟨cb, co, none⟩)) rfl rfl (by kernel_rfl) (by kernel_rfl) (by kernel_rfl) (fun _ _ _ h => by cases h.1) (Or.inl ⟨by rfl, fun W hW => by go_simp⟩) S0 ?_
    simp only [Act.put, List.setIfInBounds_toArray, List.set_cons_zero, List.set_cons_succ]
    refine take_at 3 21 (v := .agg (cmC c va vc)) rfl rfl (by kernel_rfl) (by kernel_rfl) (by kernel_rfl) (fun _ _ _ h => by cases h.1) (yieldsIf_load_mid (by rfl) 48 _ rfl cb co rfl (cmC c va vc).toList _ (fun W hW => RC.out W hW) Try.underlying48 rfl (by rw [cmd_size c va vc, Array.length_toList])) S0 ?_
    simp only [Act.put, List.setIfInBounds_toArray, List.set_cons_zero, List.set_cons_succ]
    refine take_at 4 22 (v := .slice (some ⟨lb, lo, none⟩) m lc) rfl rfl (by kernel_rfl) (by kernel_rfl) (by kernel_rfl) (fun _ _ _ h => by cases h.1) (Or.inl ⟨by rfl, fun W hW => by go_simp⟩) S0 ?_
    simp only [Act.put, List.setIfInBounds_toArray, List.set_cons_zero, List.set_cons_succ]
    refine take_at 5 23 (v := .pointer (some ⟨lb, lo, none⟩)) rfl rfl (by kernel_rfl) (by kernel_rfl) (by kernel_rfl) (fun _ _ _ h => by cases h.1) (Or.inl ⟨by rfl, fun W hW => by go_simp⟩) S0 ?_
    simp only [Act.put, List.setIfInBounds_toArray, List.set_cons_zero, List.set_cons_succ]
    refine take_at 6 24 (v := .agg (rsC x ya yc)) rfl rfl (by kernel_rfl) (by kernel_rfl) (by kernel_rfl) (fun _ _ _ h => by cases h.1) (yieldsIf_load_mid (by rfl) 46 _ rfl lb lo rfl (rsC x ya yc).toList _ (fun W hW => RX.out W hW) Try.underlying46 rfl (by rw [res_size x ya yc, Array.length_toList])) S0 ?_
    simp only [Act.put, List.setIfInBounds_toArray, List.set_cons_zero, List.set_cons_succ]
    refine wpAnyH_all (rs := [7, 8]) (by kernel_rfl) (by simp) fun j hj => ?_
    rcases (by simpa using hj : j = 7 ∨ j = 8) with rfl | rfl
    · obtain ⟨g2, h1, h2, l1, l2, ne⟩ := al_two (W := W3) (z1 := zC) (z2 := zR) (t1 := 48) (t2 := 46) S0
      have g1 : V.grownBy (W3.alloc (.cells zC 48)) none := gr_trans S0 (World.grownBy_alloc _ _ _)
      obtain ⟨p1, hp1⟩ : ∃ p, p = W3.heap.size := ⟨_, rfl⟩
      obtain ⟨p2, hp2⟩ : ∃ p, p = (W3.alloc (.cells zC 48)).heap.size := ⟨_, rfl⟩
      obtain ⟨U2, hU2⟩ : ∃ U, U = (W3.alloc (.cells zC 48)).alloc (.cells zR 46) := ⟨_, rfl⟩
      rw [← hU2] at g2 h1 h2
      rw [← hp1] at h1 l1 ne
      rw [← hp2] at h2 l2 ne
      obtain ⟨k1, k2, k3, k4, k5⟩ := st_two (cmC c va vc) (rsC x ya yc) g2 h1 h2 l1 l2 ne
      have hc := h1
      refine wpOp_plain rfl rfl ?_
      refine oper_value 5 rfl (v := .pointer (some ⟨p1, 0, none⟩)) (w' := W3.alloc (.cells zC 48)) (by rw [hp1]; unfold zC; go_simp) ?_
      refine ⟨g1, ?_⟩
      simp only [Act.put, List.setIfInBounds_toArray, List.set_cons_zero, List.set_cons_succ]
      refine one_at 8 (by kernel_rfl) rfl rfl ?_
      refine oper_value 6 rfl (v := .pointer (some ⟨p2, 0, none⟩)) (w' := U2) (by rw [hp2, hU2]; unfold zC zR; go_simp) ?_
      refine ⟨g2, ?_⟩
      simp only [Act.put, List.setIfInBounds_toArray, List.set_cons_zero, List.set_cons_succ]
      refine one_at 9 (by kernel_rfl) rfl rfl ?_
      refine wp_store_row 48 _ _ rfl p1 (cmC c va vc) rfl rfl _ _ hc (cmd_size _ _ _) rfl (cmd_one _ _ _) ?_
      refine ⟨k1, ?_⟩
      simp only [Act.put, List.setIfInBounds_toArray, List.set_cons_zero, List.set_cons_succ]
      refine one_at 10 (by kernel_rfl) rfl rfl ?_
      refine wp_store_row 46 _ _ rfl p2 (rsC x ya yc) rfl rfl _ _ k2 (res_size _ _ _) rfl (res_one _ _ _) ?_
      refine ⟨k3, ?_⟩
      simp only [Act.put, List.setIfInBounds_toArray, List.set_cons_zero, List.set_cons_succ]
      refine wpAnyH_done (by kernel_rfl) ?_ _
      exact ⟨rfl, p1, p2, _, act_as 58 _ rfl, rfl, rfl, rfl, gr_trans GV.out k3, (k3.block _ (Array.getElem?_eq_some_iff.1 RV.out).1 (by simp)).trans RV.out, k4, k5, HY.out _ (gr_trans GV.out k3)⟩
    · obtain ⟨g2, h1, h2, l1, l2, ne⟩ := al_two (W := W3) (z1 := zR) (z2 := zC) (t1 := 46) (t2 := 48) S0
      have g1 : V.grownBy (W3.alloc (.cells zR 46)) none := gr_trans S0 (World.grownBy_alloc _ _ _)
      obtain ⟨p1, hp1⟩ : ∃ p, p = W3.heap.size := ⟨_, rfl⟩
      obtain ⟨p2, hp2⟩ : ∃ p, p = (W3.alloc (.cells zR 46)).heap.size := ⟨_, rfl⟩
      obtain ⟨U2, hU2⟩ : ∃ U, U = (W3.alloc (.cells zR 46)).alloc (.cells zC 48) := ⟨_, rfl⟩
      rw [← hU2] at g2 h1 h2
      rw [← hp1] at h1 l1 ne
      rw [← hp2] at h2 l2 ne
      obtain ⟨k1, k2, k3, k4, k5⟩ := st_two (cmC c va vc) (rsC x ya yc) g2 h2 h1 l2 l1 ne.symm
      have hc := h2
      refine wpOp_plain rfl rfl ?_
      refine oper_value 6 rfl (v := .pointer (some ⟨p1, 0, none⟩)) (w' := W3.alloc (.cells zR 46)) (by rw [hp1]; unfold zR; go_simp) ?_
      refine ⟨g1, ?_⟩
      simp only [Act.put, List.setIfInBounds_toArray, List.set_cons_zero, List.set_cons_succ]
      refine one_at 7 (by kernel_rfl) rfl rfl ?_
      refine oper_value 5 rfl (v := .pointer (some ⟨p2, 0, none⟩)) (w' := U2) (by rw [hp2, hU2]; unfold zC zR; go_simp) ?_
      refine ⟨g2, ?_⟩
      simp only [Act.put, List.setIfInBounds_toArray, List.set_cons_zero, List.set_cons_succ]
      refine one_at 9 (by kernel_rfl) rfl rfl ?_
      refine wp_store_row 48 _ _ rfl p2 (cmC c va vc) rfl rfl _ _ hc (cmd_size _ _ _) rfl (cmd_one _ _ _) ?_
      refine ⟨k1, ?_⟩
      simp only [Act.put, List.setIfInBounds_toArray, List.set_cons_zero, List.set_cons_succ]
      refine one_at 10 (by kernel_rfl) rfl rfl ?_
      refine wp_store_row 46 _ _ rfl p1 (rsC x ya yc) rfl rfl _ _ k2 (res_size _ _ _) rfl (res_one _ _ _) ?_
      refine ⟨k3, ?_⟩
      simp only [Act.put, List.setIfInBounds_toArray, List.set_cons_zero, List.set_cons_succ]
      refine wpAnyH_done (by kernel_rfl) ?_ _
      exact ⟨rfl, p2, p1, _, act_as 58 _ rfl, rfl, rfl, rfl, gr_trans GV.out k3, (k3.block _ (Array.getElem?_eq_some_iff.1 RV.out).1 (by simp)).trans RV.out, k4, k5, HY.out _ (gr_trans GV.out k3)⟩
  case tail =>
    rintro e a W4 ⟨rfl, P, K, z, rfl, h2, h5, h6, E4⟩
    rw [act58, h2, h5, h6]
    clear h2 h5 h6
    have a3 := cellE E4.q 5 (.bool f.quiet) rfl
    rw [HQ.out] at a3
    have a1 := cellE E4.p 0 (.int .i64 c.op) rfl
    have a2 := cellE E4.k 0 (.int .i64 x.s) rfl
    have rf := E4.form
    replace E4 := hide E4
    clear A0 RC RX RV GV HY
    have PE := hide (fun U => pexp_any c.op x.s U)
    rw [HW.out] at PE
    have PT := hide (fun (U : World) => ptold_any (w := U) (f := f) (ta := ta) (ka := ka) (tc := tc) (kc := kc) (c := c) (va := va) (vc := vc) (x := x) (ya := ya) (yc := yc))
    go_upto_region 7 with (first
      | (go_at_call 16; refine (PE.out _).mono ?_; rintro e w5 ⟨rfl, hw5⟩; rw [hw5]; clear hw5 PE)
      | (refine wpList_load_mid rfl 26 _ rfl q 1 rfl (fmC f ta tc ka kc).toList _ rf Try.underlying26 rfl (by rw [fmE_size f ta tc ka kc, Array.length_toList]) ?_; clear rf)
      | (refine wpList_load_row rfl 48 _ rfl P rfl _ _ _ _ E4.out.p Try.underlying48 rfl (cmd_size c va vc) ?_)
      | (refine wpList_load_row rfl 46 _ rfl K rfl _ _ _ _ E4.out.k Try.underlying46 rfl (res_size x ya yc) ?_)
      | (go_at_call 17; go_loud (refine (PT.out _ E4.out.v HK.out HOK.out).mono ?_; rintro e w5 ⟨xa, xn, xc, kb, kn, kd, wa, wn, wc, rfl, b1, b2, b3, g5⟩; obtain ⟨U, hU⟩ : ∃ U, U = w5.alloc (.cells (pt3 xa xn xc kb kn kd wa wn wc) 38) := ⟨_, rfl⟩; obtain ⟨B, hB⟩ : ∃ B, B = w5.heap.size := ⟨_, rfl⟩; have gU : w5.grownBy U none := (by rw [hU]; exact World.grownBy_alloc _ _ _); have RB : Hid (U.heap[B]? = some (.cells (pt3 xa xn xc kb kn kd wa wn wc) 38 (0, 0))) := (by rw [hU, hB]; exact World.alloc_heap_new _ _); have BX := hide (b1.on (below_gr gU)); have BK := hide (b2.on (below_gr gU)); have BW := hide (b3.on (below_gr gU)); have GU := hide (gr_trans E4.out.gr (gr_trans g5 gU)); have EU := hide (E4.out.on (gr_trans g5 gU)); have nx := hide b1.n; have nk := hide b2.n; have nw := hide b3.n; replace hU := hide hU; replace hB := hide hB; clear b1 b2 b3 g5 gU PT a1 a2 a3))
      | (refine wpList_store_row rfl 38 _ _ rfl w5.heap.size (pt3 xa xn xc kb kn kd wa wn wc) rfl rfl _ _ (World.alloc_heap_new w5 _) (pt3_size _ _ _ _ _ _ _ _ _) rfl (pt3_one _ _ _ _ _ _ _ _ _) ?_; rw [setRow_alloc, ← hU.out, ← hB.out]; clear hU hB))
    have RF := hide EU.out.form
    have A6 := hide (cellE EU.out.k 0 (.int .i64 x.s) rfl)
    have PH := hide (fun (u : World) => phead_any (w := u) (f := f) (ta := ta) (ka := ka) (tc := tc) (kc := kc) (s := x.s) (cas := toldC x) (xa := xa) (kb := kb) (va := wa) (xn := xn) (xc := xc) (kn := kn) (kd := kd) (vn := wn) (vc := wc) (by rw [← nx.out]; exact XL.out) (by rw [← nk.out]; exact KL.out) (by rw [← nw.out]; exact VL.out) CB.out.1 CB.out.2 HO.out.1 HO.out.2)
    have LT : Hid ([headL f.code f.opq (codeN x.s) (toldC x) xn kn wn, toldX x, toldK f c x, toldV x].flatten.length = 24 + xn + kn + wn ∧ 24 + xn + kn + wn ≤ 50000) := by
      have h1 := XL.out
      have h2 := KL.out
      have h3 := VL.out
      rw [nx.out] at h1
      rw [nk.out] at h2
      rw [nw.out] at h3
      refine ⟨?_, by omega⟩
      simp only [List.flatten_cons, List.flatten_nil, List.length_append, List.length_nil, headL_len, nx.out, nk.out, nw.out]
      omega
    have FL : Hid (packA f.code f.opq (codeN x.s) (toldC x) (toldX x) (toldK f c x) (toldV x) = [headL f.code f.opq (codeN x.s) (toldC x) xn kn wn, toldX x, toldK f c x, toldV x].flatten) := by
      show _ = _
      rw [packA_head, nx.out, nk.out, nw.out]
      simp [List.flatten, List.append_assoc]
    clear nx nk nw XL KL VL
    refine wp_region_inv (N := 58) (Sp := SpL [EqV (.pointer (some ⟨q, 1, none⟩)), EqV (.agg (fmC f ta tc ka kc)), EqV (.pointer (some ⟨K, 0, none⟩)), EqV (.int .i64 x.s), EqV (.int .u64 (toldC x)), EqV (.agg (pt3 xa xn xc kb kn kd wa wn wc)), IsR 24 (headL f.code f.opq (codeN x.s) (toldC x) xn kn wn), EqV (.pointer (some ⟨B, 0, none⟩)), EqV (.slice xa xn xc), EqV (.pointer (some ⟨B, 1, none⟩)), EqV (.slice kb kn kd), EqV (.pointer (some ⟨B, 2, none⟩)), EqV (.slice wa wn wc), IsRs 4 [headL f.code f.opq (codeN x.s) (toldC x) xn kn wn, toldX x, toldK f c x, toldV x], IsR (24 + xn + kn + wn) ([headL f.code f.opq (codeN x.s) (toldC x) xn kn wn, toldX x, toldK f c x, toldV x].flatten), IsR (24 + xn + kn + wn) ([headL f.code f.opq (codeN x.s) (toldC x) xn kn wn, toldX x, toldK f c x, toldV x].flatten)]) (by kernel_rfl) (by rfl) (by kernel_rfl) (spL_mono (mono_cons (mono_eq _) (mono_cons (mono_eq _) (mono_cons (mono_eq _) (mono_cons (mono_eq _) (mono_cons (mono_eq _) (mono_cons (mono_eq _) (mono_cons (mono_r _ _) (mono_cons (mono_eq _) (mono_cons (mono_eq _) (mono_cons (mono_eq _) (mono_cons (mono_eq _) (mono_cons (mono_eq _) (mono_cons (mono_eq _) (mono_cons (mono_rs _ _) (mono_cons (mono_r _ _) (mono_cons (mono_r _ _) (mono_nil)))))))))))))))))) ?_ ?_
    · refine ⟨?_, ?_, ?_, ?_, ?_, ?_, ?_, ?_, ?_, ?_, ?_, ?_, ?_, ?_, ?_, ?_, trivial⟩
      · intro z u hg hfix dep
        have e2 : z 2 = .pointer (some ⟨q, 0, none⟩) := hfix 2 (by kernel_rfl)
        refine .inl ⟨rfl, ?_⟩
        refine oper_value 43 rfl (v := .pointer (some ⟨q, 1, none⟩)) (w' := u) (by rw [act58]; go_simp) ⟨_, rfl, gr_refl _ _, spL_at rfl rfl⟩
      · intro z u hg hfix dep
        have d43 : (EqV (.pointer (some ⟨q, 1, none⟩))) (z 43) u := dep 0 (by kernel_rfl) _ rfl
        have q43 : z 43 = (.pointer (some ⟨q, 1, none⟩)) := d43
        refine .inl ⟨rfl, ?_⟩
        refine wp_load_mid 26 _ rfl q 1 q43 (fmC f ta tc ka kc).toList _ (rngE hg (RF.out)) Try.underlying26 rfl (by rw [fmE_size f ta tc ka kc, Array.length_toList]) ?_
        exact ⟨_, rfl, gr_refl _ _, spL_at rfl rfl⟩
      · intro z u hg hfix dep
        have e6 : z 6 = .pointer (some ⟨K, 0, none⟩) := hfix 6 (by kernel_rfl)
        refine .inl ⟨rfl, ?_⟩
        refine oper_value 45 rfl (v := .pointer (some ⟨K, 0, none⟩)) (w' := u) (by rw [act58]; go_simp) ⟨_, rfl, gr_refl _ _, spL_at rfl rfl⟩
      · intro z u hg hfix dep
        have d45 : (EqV (.pointer (some ⟨K, 0, none⟩))) (z 45) u := dep 2 (by kernel_rfl) _ rfl
        have q45 : z 45 = (.pointer (some ⟨K, 0, none⟩)) := d45
        refine .inl ⟨rfl, ?_⟩
        have c0 := keep_cell hg A6.out
        refine oper_value 46 rfl (v := .int .i64 x.s) (w' := u) (by rw [act58]; go_simp) ⟨_, rfl, gr_refl _ _, spL_at rfl rfl⟩
      · intro z u hg hfix dep
        have e8 : z 8 = .int .u64 (toldC x) := hfix 8 (by kernel_rfl)
        refine .inl ⟨rfl, ?_⟩
        refine oper_value 47 rfl (v := .int .u64 (toldC x)) (w' := u) (by rw [act58]; go_simp) ⟨_, rfl, gr_refl _ _, spL_at rfl rfl⟩
      · intro z u hg hfix dep
        have e7 : z 7 = .pointer (some ⟨B, 0, none⟩) := hfix 7 (by kernel_rfl)
        refine .inl ⟨rfl, ?_⟩
        refine wp_load_row 38 _ rfl B e7 _ _ _ _ ((hg.block _ (Array.getElem?_eq_some_iff.1 RB.out).1 (by simp)).trans RB.out) Try.underlying38 rfl (pt3_size _ _ _ _ _ _ _ _ _) ?_
        exact ⟨_, rfl, gr_refl _ _, spL_at rfl rfl⟩
      · intro z u hg hfix dep
        have d44 : (EqV (.agg (fmC f ta tc ka kc))) (z 44) u := dep 1 (by kernel_rfl) _ rfl
        have q44 : z 44 = (.agg (fmC f ta tc ka kc)) := d44
        have d46 : (EqV (.int .i64 x.s)) (z 46) u := dep 3 (by kernel_rfl) _ rfl
        have q46 : z 46 = (.int .i64 x.s) := d46
        have d47 : (EqV (.int .u64 (toldC x))) (z 47) u := dep 4 (by kernel_rfl) _ rfl
        have q47 : z 47 = (.int .u64 (toldC x)) := d47
        have d48 : (EqV (.agg (pt3 xa xn xc kb kn kd wa wn wc))) (z 48) u := dep 5 (by kernel_rfl) _ rfl
        have q48 : z 48 = (.agg (pt3 xa xn xc kb kn kd wa wn wc)) := d48
        refine .inl ⟨rfl, ?_⟩
        refine oper_call 49 rfl (by rw [act58]; go_simp) (PH.out u) ?_
        rintro e w' ⟨a, c, rfl, b9, g9⟩; exact ⟨_, rfl, _, rfl, g9, spL_at rfl ⟨a, c, rfl, b9⟩⟩
      · intro z u hg hfix dep
        have e7 : z 7 = .pointer (some ⟨B, 0, none⟩) := hfix 7 (by kernel_rfl)
        refine .inl ⟨rfl, ?_⟩
        refine oper_value 50 rfl (v := .pointer (some ⟨B, 0, none⟩)) (w' := u) (by rw [act58]; go_simp) ⟨_, rfl, gr_refl _ _, spL_at rfl rfl⟩
      · intro z u hg hfix dep
        have d50 : (EqV (.pointer (some ⟨B, 0, none⟩))) (z 50) u := dep 7 (by kernel_rfl) _ rfl
        have q50 : z 50 = (.pointer (some ⟨B, 0, none⟩)) := d50
        refine .inl ⟨rfl, ?_⟩
        have c0 := keep_cell hg (cellE RB.out 0 (.slice xa xn xc) rfl)
        refine oper_value 51 rfl (v := .slice xa xn xc) (w' := u) (by rw [act58]; go_simp) ⟨_, rfl, gr_refl _ _, spL_at rfl rfl⟩
      · intro z u hg hfix dep
        have e7 : z 7 = .pointer (some ⟨B, 0, none⟩) := hfix 7 (by kernel_rfl)
        refine .inl ⟨rfl, ?_⟩
        refine oper_value 52 rfl (v := .pointer (some ⟨B, 1, none⟩)) (w' := u) (by rw [act58]; go_simp) ⟨_, rfl, gr_refl _ _, spL_at rfl rfl⟩
      · intro z u hg hfix dep
        have d52 : (EqV (.pointer (some ⟨B, 1, none⟩))) (z 52) u := dep 9 (by kernel_rfl) _ rfl
        have q52 : z 52 = (.pointer (some ⟨B, 1, none⟩)) := d52
        refine .inl ⟨rfl, ?_⟩
        have c0 := keep_cell hg (cellE RB.out 1 (.slice kb kn kd) rfl)
        refine oper_value 53 rfl (v := .slice kb kn kd) (w' := u) (by rw [act58]; go_simp) ⟨_, rfl, gr_refl _ _, spL_at rfl rfl⟩
      · intro z u hg hfix dep
        have e7 : z 7 = .pointer (some ⟨B, 0, none⟩) := hfix 7 (by kernel_rfl)
        refine .inl ⟨rfl, ?_⟩
        refine oper_value 54 rfl (v := .pointer (some ⟨B, 2, none⟩)) (w' := u) (by rw [act58]; go_simp) ⟨_, rfl, gr_refl _ _, spL_at rfl rfl⟩
      · intro z u hg hfix dep
        have d54 : (EqV (.pointer (some ⟨B, 2, none⟩))) (z 54) u := dep 11 (by kernel_rfl) _ rfl
        have q54 : z 54 = (.pointer (some ⟨B, 2, none⟩)) := d54
        refine .inl ⟨rfl, ?_⟩
        have c0 := keep_cell hg (cellE RB.out 2 (.slice wa wn wc) rfl)
        refine oper_value 55 rfl (v := .slice wa wn wc) (w' := u) (by rw [act58]; go_simp) ⟨_, rfl, gr_refl _ _, spL_at rfl rfl⟩
      · intro z u hg hfix dep
        have d49 : (IsR 24 (headL f.code f.opq (codeN x.s) (toldC x) xn kn wn)) (z 49) u := dep 6 (by kernel_rfl) _ rfl
        have d51 : (EqV (.slice xa xn xc)) (z 51) u := dep 8 (by kernel_rfl) _ rfl
        have q51 : z 51 = (.slice xa xn xc) := d51
        have d53 : (EqV (.slice kb kn kd)) (z 53) u := dep 10 (by kernel_rfl) _ rfl
        have q53 : z 53 = (.slice kb kn kd) := d53
        have d55 : (EqV (.slice wa wn wc)) (z 55) u := dep 12 (by kernel_rfl) _ rfl
        have q55 : z 55 = (.slice wa wn wc) := d55
        refine .inl ⟨rfl, ?_⟩
        obtain ⟨a9, c9, h49, b9⟩ := d49
        refine oper_value 56 rfl (v := .slice (some ⟨u.heap.size, 0, none⟩) 4 4) (w' := u.alloc (.cells #[.slice a9 24 c9, .slice xa xn xc, .slice kb kn kd, .slice wa wn wc] 32)) (by rw [act58]; go_simp) ⟨_, rfl, World.grownBy_alloc _ _ _, spL_at rfl ⟨_, rfl, rws_of (World.alloc_heap_new _ _) fun i hi => ?_⟩⟩
        have gn : u.grownBy (u.alloc (.cells #[.slice a9 24 c9, .slice xa xn xc, .slice kb kn kd, .slice wa wn wc] 32)) none := World.grownBy_alloc _ _ _
        match i, hi with
        | 0, _ => exact ⟨_, _, _, rfl, b9.on (below_gr gn)⟩
        | 1, _ => exact ⟨_, _, _, rfl, BX.out.on (below_gr (gr_trans hg gn))⟩
        | 2, _ => exact ⟨_, _, _, rfl, BK.out.on (below_gr (gr_trans hg gn))⟩
        | 3, _ => exact ⟨_, _, _, rfl, BW.out.on (below_gr (gr_trans hg gn))⟩
      · intro z u hg hfix dep
        have d56 : (IsRs 4 [headL f.code f.opq (codeN x.s) (toldC x) xn kn wn, toldX x, toldK f c x, toldV x]) (z 56) u := dep 13 (by kernel_rfl) _ rfl
        refine .inl ⟨rfl, ?_⟩
        obtain ⟨g56, h56, b56⟩ := d56
        refine oper_call 57 rfl (by rw [act58]; go_simp) (cat_r (n := 4) (m := 24 + xn + kn + wn) b56 rfl (by decide) LT.out.1 LT.out.2) ?_
        rintro e w' h; obtain ⟨v, rfl, hg2, hi⟩ := h; exact ⟨v, rfl, v, rfl, hg2, spL_at rfl hi⟩
      · intro z u hg hfix dep
        have d57 : (IsR (24 + xn + kn + wn) ([headL f.code f.opq (codeN x.s) (toldC x) xn kn wn, toldX x, toldK f c x, toldV x].flatten)) (z 57) u := dep 14 (by kernel_rfl) _ rfl
        refine .inl ⟨rfl, ?_⟩
        obtain ⟨a, c, h57, b57⟩ := d57
        refine oper_value 4 rfl (v := .slice a (24 + xn + kn + wn) c) (w' := u) (by rw [act58]; go_simp) ⟨_, rfl, gr_refl _ _, spL_at rfl ⟨a, c, rfl, b57⟩⟩
    · intro z u hg hfix h
      have h8 : IsR (24 + xn + kn + wn) ([headL f.code f.opq (codeN x.s) (toldC x) xn kn wn, toldX x, toldK f c x, toldV x].flatten) (z 4) u := h 15 (by decide) _ rfl
      obtain ⟨a, c0, h8, b8⟩ := h8
      rw [act58]
      go_wp2
      go_ret
      rw [HX.out]
      exact ⟨a, _, c0, by first | rfl | exact congrArg Ending.returned h8, Nat.le_trans LT.out.2 (by decide), by rw [FL.out]; exact b8, gr_trans GU.out hg⟩
set_option maxRecDepth 100000 in
set_option maxHeartbeats 8000000 in
theorem penc_hush {w : World} {f : Fv} {n m cc tc kc lc : Nat} {ta ka va ya : Option Addr} {cb co vc lb lo yc : Nat} {c : Cv} {x : Rv} (H : EncH w f n m c x (some ⟨cb, co, none⟩) cb co va vc lb lo ya yc) (hq : f.quiet = true) (hw : wontA c.op x.s = true) :
    Calls Try.prog 10 #[.agg (rqG f n (some ⟨cb, co, none⟩) cc ta tc ka kc), .slice (some ⟨lb, lo, none⟩) m lc] w fun e w' => EncE (oneA f c x) w e w' := by
  obtain ⟨n0, m0, hk, hv, o0, o1, ok, c_, x_, v_⟩ := H
  have z1 : ((n : Int) == 0) = false := by rw [beq_eq_false_iff_ne]; omega
  have z2 : ((m : Int) == 0) = false := by rw [beq_eq_false_iff_ne]; omega
  have z3 : (0 : Int) < (n : Int) := by omega
  have z4 : (0 : Int) < (m : Int) := by omega
  have z5 : ¬ n = 0 := by omega
  have z6 : ¬ m = 0 := by omega
  have HX : Hid (oneA f c x = []) := by
    show _ = _
    exact oneA_hush (by rw [hush_is, hq, hw]; rfl)
  have XL := hide (toldX_le x)
  have KL := hide (toldK_le f x hk)
  have VL := hide (toldV_le hv)
  have CB := hide (toldC_bd ok)
  have HO : Hid (0 ≤ f.opq ∧ f.opq < 4294967296) := ⟨o0, o1⟩
  have HK := hide hk
  have HOK := hide ok
  obtain ⟨V, hV⟩ : ∃ V, V = w.alloc (.cells (rqG f n (some ⟨cb, co, none⟩) cc ta tc ka kc) 28) := ⟨_, rfl⟩
  obtain ⟨q, hqq⟩ : ∃ q, q = w.heap.size := ⟨_, rfl⟩
  have gV : w.grownBy V none := by rw [hV]; exact World.grownBy_alloc _ _ _
  have rV : V.heap[q]? = some (.cells (rqG f n (some ⟨cb, co, none⟩) cc ta tc ka kc) 28 (0, 0)) := by rw [hV, hqq]; exact World.alloc_heap_new _ _
  have a0 := cellE rV 0 (.slice (some ⟨cb, co, none⟩) n cc) rfl
  have A0 := hide (fun (W : World) (hW : V.grownBy W none) => keep_cell hW a0)
  have RC := hide (fun (W : World) (hW : V.grownBy W none) => rngE (gr_trans gV hW) c_)
  have RX := hide (fun (W : World) (hW : V.grownBy W none) => rngE (gr_trans gV hW) x_)
  have HY := hide (fun (W : World) (hW : w.grownBy W none) => v_.on (below_gr hW))
  have GV := hide gV
  have RV := hide rV
  have HQ := hide hq
  have HW := hide hw
  clear n0 m0 hk hv o0 o1 ok c_ x_ v_ gV rV hq hw
  simp only [rqG] at hV ⊢
  go_enter Try.func10, Try.ntmps10
  go_upto_region 1 with fail
  rw [← hV, ← hqq]
  clear hV hqq
  go_upto_region 3 with fail
  clear a0
  refine Code.wp_mono (Q := fun e a w' => e = .normal ∧ ∃ P K, ∃ z : Nat → Value, a = actOf 58 z ∧ z 2 = .pointer (some ⟨q, 0, none⟩) ∧ z 5 = .pointer (some ⟨P, 0, none⟩) ∧ z 6 = .pointer (some ⟨K, 0, none⟩) ∧ EB w w' q P K f n (some ⟨cb, co, none⟩) cc ta tc ka kc c va vc x ya yc) ?tail ?heads
  case heads =>
    refine wp_region_held (S := fun W' => V.grownBy W' none) (by kernel_rfl) ?_
    have S0 : V.grownBy V.drew none := gr_of_below (Below.drew (Below.refl _ _))
    change wpAnyH _ _ _ _ _ 11 (Array.replicate 11 false) _ V.drew
    generalize V.drew = W3 at *
    refine take_at 0 18 (v := .pointer (some ⟨q, 0, none⟩)) rfl rfl (by kernel_rfl) (by kernel_rfl) (by kernel_rfl) (fun _ _ _ h => by cases h.1) (Or.inl ⟨by rfl, fun W hW => by go_simp⟩) S0 ?_
    simp only [Act.put, List.setIfInBounds_toArray, List.set_cons_zero, List.set_cons_succ]
    refine take_at 1 19 (v := .slice (some ⟨cb, co, none⟩) n cc) rfl rfl (by kernel_rfl) (by kernel_rfl) (by kernel_rfl) (fun _ _ _ h => by cases h.1) (Or.inl ⟨by rfl, fun W hW => by have c0 := A0.out W hW; go_simp⟩) S0 ?_
    simp only [Act.put, List.setIfInBounds_toArray, List.set_cons_zero, List.set_cons_succ]
    refine take_at 2 20 (v := .pointer (some ⟨cb, co, none⟩)) rfl rfl (by kernel_rfl) (by kernel_rfl) (by kernel_rfl) (fun _ _ _ h => by cases h.1) (Or.inl ⟨by rfl, fun W hW => by go_simp⟩) S0 ?_
    simp only [Act.put, List.setIfInBounds_toArray, List.set_cons_zero, List.set_cons_succ]
    refine take_at 3 21 (v := .agg (cmC c va vc)) rfl rfl (by kernel_rfl) (by kernel_rfl) (by kernel_rfl) (fun _ _ _ h => by cases h.1) (yieldsIf_load_mid (by rfl) 48 _ rfl cb co rfl (cmC c va vc).toList _ (fun W hW => RC.out W hW) Try.underlying48 rfl (by rw [cmd_size c va vc, Array.length_toList])) S0 ?_
    simp only [Act.put, List.setIfInBounds_toArray, List.set_cons_zero, List.set_cons_succ]
    refine take_at 4 22 (v := .slice (some ⟨lb, lo, none⟩) m lc) rfl rfl (by kernel_rfl) (by kernel_rfl) (by kernel_rfl) (fun _ _ _ h => by cases h.1) (Or.inl ⟨by rfl, fun W hW => by go_simp⟩) S0 ?_
    simp only [Act.put, List.setIfInBounds_toArray, List.set_cons_zero, List.set_cons_succ]
    refine take_at 5 23 (v := .pointer (some ⟨lb, lo, none⟩)) rfl rfl (by kernel_rfl) (by kernel_rfl) (by kernel_rfl) (fun _ _ _ h => by cases h.1) (Or.inl ⟨by rfl, fun W hW => by go_simp⟩) S0 ?_
    simp only [Act.put, List.setIfInBounds_toArray, List.set_cons_zero, List.set_cons_succ]
    refine take_at 6 24 (v := .agg (rsC x ya yc)) rfl rfl (by kernel_rfl) (by kernel_rfl) (by kernel_rfl) (fun _ _ _ h => by cases h.1) (yieldsIf_load_mid (by rfl) 46 _ rfl lb lo rfl (rsC x ya yc).toList _ (fun W hW => RX.out W hW) Try.underlying46 rfl (by rw [res_size x ya yc, Array.length_toList])) S0 ?_
    simp only [Act.put, List.setIfInBounds_toArray, List.set_cons_zero, List.set_cons_succ]
    refine wpAnyH_all (rs := [7, 8]) (by kernel_rfl) (by simp) fun j hj => ?_
    rcases (by simpa using hj : j = 7 ∨ j = 8) with rfl | rfl
    · obtain ⟨g2, h1, h2, l1, l2, ne⟩ := al_two (W := W3) (z1 := zC) (z2 := zR) (t1 := 48) (t2 := 46) S0
      have g1 : V.grownBy (W3.alloc (.cells zC 48)) none := gr_trans S0 (World.grownBy_alloc _ _ _)
      obtain ⟨p1, hp1⟩ : ∃ p, p = W3.heap.size := ⟨_, rfl⟩
      obtain ⟨p2, hp2⟩ : ∃ p, p = (W3.alloc (.cells zC 48)).heap.size := ⟨_, rfl⟩
      obtain ⟨U2, hU2⟩ : ∃ U, U = (W3.alloc (.cells zC 48)).alloc (.cells zR 46) := ⟨_, rfl⟩
      rw [← hU2] at g2 h1 h2
      rw [← hp1] at h1 l1 ne
      rw [← hp2] at h2 l2 ne
      obtain ⟨k1, k2, k3, k4, k5⟩ := st_two (cmC c va vc) (rsC x ya yc) g2 h1 h2 l1 l2 ne
      have hc := h1
      refine wpOp_plain rfl rfl ?_
      refine oper_value 5 rfl (v := .pointer (some ⟨p1, 0, none⟩)) (w' := W3.alloc (.cells zC 48)) (by rw [hp1]; unfold zC; go_simp) ?_
      refine ⟨g1, ?_⟩
      simp only [Act.put, List.setIfInBounds_toArray, List.set_cons_zero, List.set_cons_succ]
      refine one_at 8 (by kernel_rfl) rfl rfl ?_
      refine oper_value 6 rfl (v := .pointer (some ⟨p2, 0, none⟩)) (w' := U2) (by rw [hp2, hU2]; unfold zC zR; go_simp) ?_
      refine ⟨g2, ?_⟩
      simp only [Act.put, List.setIfInBounds_toArray, List.set_cons_zero, List.set_cons_succ]
      refine one_at 9 (by kernel_rfl) rfl rfl ?_
      refine wp_store_row 48 _ _ rfl p1 (cmC c va vc) rfl rfl _ _ hc (cmd_size _ _ _) rfl (cmd_one _ _ _) ?_
      refine ⟨k1, ?_⟩
      simp only [Act.put, List.setIfInBounds_toArray, List.set_cons_zero, List.set_cons_succ]
      refine one_at 10 (by kernel_rfl) rfl rfl ?_
      refine wp_store_row 46 _ _ rfl p2 (rsC x ya yc) rfl rfl _ _ k2 (res_size _ _ _) rfl (res_one _ _ _) ?_
      refine ⟨k3, ?_⟩
      simp only [Act.put, List.setIfInBounds_toArray, List.set_cons_zero, List.set_cons_succ]
      refine wpAnyH_done (by kernel_rfl) ?_ _
      exact ⟨rfl, p1, p2, _, act_as 58 _ rfl, rfl, rfl, rfl, gr_trans GV.out k3, (k3.block _ (Array.getElem?_eq_some_iff.1 RV.out).1 (by simp)).trans RV.out, k4, k5, HY.out _ (gr_trans GV.out k3)⟩
    · obtain ⟨g2, h1, h2, l1, l2, ne⟩ := al_two (W := W3) (z1 := zR) (z2 := zC) (t1 := 46) (t2 := 48) S0
      have g1 : V.grownBy (W3.alloc (.cells zR 46)) none := gr_trans S0 (World.grownBy_alloc _ _ _)
      obtain ⟨p1, hp1⟩ : ∃ p, p = W3.heap.size := ⟨_, rfl⟩
      obtain ⟨p2, hp2⟩ : ∃ p, p = (W3.alloc (.cells zR 46)).heap.size := ⟨_, rfl⟩
      obtain ⟨U2, hU2⟩ : ∃ U, U = (W3.alloc (.cells zR 46)).alloc (.cells zC 48) := ⟨_, rfl⟩
      rw [← hU2] at g2 h1 h2
      rw [← hp1] at h1 l1 ne
      rw [← hp2] at h2 l2 ne
      obtain ⟨k1, k2, k3, k4, k5⟩ := st_two (cmC c va vc) (rsC x ya yc) g2 h2 h1 l2 l1 ne.symm
      have hc := h2
      refine wpOp_plain rfl rfl ?_
      refine oper_value 6 rfl (v := .pointer (some ⟨p1, 0, none⟩)) (w' := W3.alloc (.cells zR 46)) (by rw [hp1]; unfold zR; go_simp) ?_
      refine ⟨g1, ?_⟩
      simp only [Act.put, List.setIfInBounds_toArray, List.set_cons_zero, List.set_cons_succ]
      refine one_at 7 (by kernel_rfl) rfl rfl ?_
      refine oper_value 5 rfl (v := .pointer (some ⟨p2, 0, none⟩)) (w' := U2) (by rw [hp2, hU2]; unfold zC zR; go_simp) ?_
      refine ⟨g2, ?_⟩
      simp only [Act.put, List.setIfInBounds_toArray, List.set_cons_zero, List.set_cons_succ]
      refine one_at 9 (by kernel_rfl) rfl rfl ?_
      refine wp_store_row 48 _ _ rfl p2 (cmC c va vc) rfl rfl _ _ hc (cmd_size _ _ _) rfl (cmd_one _ _ _) ?_
      refine ⟨k1, ?_⟩
      simp only [Act.put, List.setIfInBounds_toArray, List.set_cons_zero, List.set_cons_succ]
      refine one_at 10 (by kernel_rfl) rfl rfl ?_
      refine wp_store_row 46 _ _ rfl p1 (rsC x ya yc) rfl rfl _ _ k2 (res_size _ _ _) rfl (res_one _ _ _) ?_
      refine ⟨k3, ?_⟩
      simp only [Act.put, List.setIfInBounds_toArray, List.set_cons_zero, List.set_cons_succ]
      refine wpAnyH_done (by kernel_rfl) ?_ _
      exact ⟨rfl, p2, p1, _, act_as 58 _ rfl, rfl, rfl, rfl, gr_trans GV.out k3, (k3.block _ (Array.getElem?_eq_some_iff.1 RV.out).1 (by simp)).trans RV.out, k4, k5, HY.out _ (gr_trans GV.out k3)⟩
  case tail =>
    rintro e a W4 ⟨rfl, P, K, z, rfl, h2, h5, h6, E4⟩
    rw [act58, h2, h5, h6]
    clear h2 h5 h6
    have a3 := cellE E4.q 5 (.bool f.quiet) rfl
    rw [HQ.out] at a3
    have a1 := cellE E4.p 0 (.int .i64 c.op) rfl
    have a2 := cellE E4.k 0 (.int .i64 x.s) rfl
    have rf := E4.form
    replace E4 := hide E4
    clear A0 RC RX RV GV HY
    have PE := hide (fun U => pexp_any c.op x.s U)
    rw [HW.out] at PE
    go_wp2_with (go_at_call 16; refine (PE.out _).mono ?_; rintro e w5 ⟨rfl, hw5⟩; rw [hw5]; clear hw5 PE)
    go_ret
    rw [HX.out]
    exact EncE.nil E4.out.gr
end
end Go.Proofs.Ytaafkefgpgoepaa
