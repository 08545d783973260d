/- The contract of nextNo of package slab, and what its lists do. Conditions: none. -/
import Derived.Test.YtdjagifmcimedaaSlabOps
import Derived.Deep.RegionLaw
namespace Go.Proofs.Ytdjagifmcimedaa
open Go.RowKit Go.Maps

theorem told_put {D : DataW Unit} {st st' : Sb} (T : Told D st) (hm : Maps.Tidy D) {c : Ck} (hc : CkOk c) (hnew : ¬ c ∈ st.inn) (hi : st'.inn = st.inn ++ [c]) : Told (D.put (keyL c) (.agg [])) st' := by
  have hk := key_chunk.key (keyOf_chunk c hc)
  refine ⟨fun d hd => ?_, ?_⟩
  · rw [hi]
    by_cases e : d = c
    · subst e
      rw [has_put_same hm.isMap hk]
      exact (decide_eq_true (List.mem_append_right _ (List.mem_singleton.2 rfl))).symm
    · rw [has_put_other (fun h => e (keyL_inj hd hc h)), T.has d hd]
      exact decide_eq_decide.2 ⟨fun h => List.mem_append_left _ h, fun h => (List.mem_append.1 h).resolve_right fun h => e (List.mem_singleton.1 h)⟩
  · rw [size_put hm, T.has c hc, decide_eq_false hnew, hi, List.length_append, T.size]
    simp
theorem filter_erase_other {l : List Ck} {c : Ck} {j : Nat} (h : c.1 ≠ (j : Int)) : (l.erase c).filter (fun d => decide (d.1 = (j : Int))) = l.filter fun d => decide (d.1 = (j : Int)) := by
  induction l with
  | nil => rfl
  | cons d l ih =>
    by_cases e : d = c
    · subst e
      rw [List.erase_cons_head, List.filter_cons_of_neg (by simp [h])]
    · rw [List.erase_cons_tail (by simpa using e), List.filter_cons, List.filter_cons, ih]
theorem filter_erase_last {l : List Ck} {c : Ck} {k : Nat} (hn : l.Nodup) (h : (l.filter fun d => decide (d.1 = (k : Int))).getLast? = some c) : (l.erase c).filter (fun d => decide (d.1 = (k : Int))) = (l.filter fun d => decide (d.1 = (k : Int))).dropLast := by
  have e1 : (l.erase c).filter (fun d => decide (d.1 = (k : Int))) = (l.filter fun d => decide (d.1 = (k : Int))).erase c := by
    clear h
    induction l with
    | nil => rfl
    | cons d l ih =>
      rw [List.nodup_cons] at hn
      by_cases e : d = c
      · subst e
        rw [List.erase_cons_head]
        by_cases hd : d.1 = (k : Int)
        · rw [List.filter_cons_of_pos (by simp [hd]), List.erase_cons_head]
        · rw [List.filter_cons_of_neg (by simp [hd])]
          exact (List.erase_of_not_mem fun hm => hn.1 (List.mem_filter.1 hm).1).symm
      · rw [List.erase_cons_tail (by simpa using e), List.filter_cons, List.filter_cons, ih hn.2]
        split
        · rw [List.erase_cons_tail (by simpa using e)]
        · rfl
  rw [e1]
  have hn2 := hn.sublist (List.filter_sublist (p := fun d => decide (d.1 = (k : Int))))
  generalize (l.filter fun d => decide (d.1 = (k : Int))) = m at *
  obtain ⟨m', rfl⟩ : ∃ m', m = m' ++ [c] := by
    rw [List.getLast?_eq_some_iff] at h
    exact h
  have hc : ¬ c ∈ m' := fun hm => (List.nodup_append.1 hn2).2.2 c hm c (List.mem_singleton.2 rfl) rfl
  rw [List.erase_append_right _ hc]
  simp
theorem next_some {st : Sb} {k : Nat} {l : List Int} {no : Int} (h : goneN st k = l ++ [no]) : (st.gone.filter fun c => decide (c.1 = (k : Int))).getLast? = some ((k : Int), no) := by
  unfold goneN at h
  obtain ⟨a, c, e⟩ : ∃ a c, (st.gone.filter fun c => decide (c.1 = (k : Int))) = a ++ [c] := by
    rcases List.eq_nil_or_concat (st.gone.filter fun c => decide (c.1 = (k : Int))) with e | ⟨a, c, e⟩
    · rw [e] at h
      simp at h
    · exact ⟨a, c, e.trans (List.concat_eq_append ..)⟩
  have hc : c ∈ st.gone.filter fun c => decide (c.1 = (k : Int)) := by rw [e]; simp
  rw [e, List.map_append] at h
  have h2 : c.2 = no := by
    have := (List.append_inj' h rfl).2
    simpa using this
  have h1 : c.1 = (k : Int) := of_decide_eq_true (List.mem_filter.1 hc).2
  rw [e, List.getLast?_append]
  simp
  exact Prod.ext h1 h2
theorem gone_none {st : Sb} {k : Nat} (h : goneN st k = []) : nextS st k = ((k : Int), ((st.made.getD k 0 : Nat) : Int)) ∧ ¬ nextS st k ∈ st.gone := by
  unfold goneN at h
  have h := List.map_eq_nil_iff.1 h
  have e : nextS st k = ((k : Int), ((st.made.getD k 0 : Nat) : Int)) := by
    unfold nextS
    rw [h]
    rfl
  refine ⟨e, fun hm => ?_⟩
  rw [e] at hm
  exact (List.filter_eq_nil_iff.1 h) _ hm (decide_eq_true rfl)
theorem gone_last {st : Sb} {k : Nat} {l : List Int} {no : Int} (h : goneN st k = l ++ [no]) : nextS st k = ((k : Int), no) ∧ ((k : Int), no) ∈ st.gone := by
  have h1 := next_some h
  refine ⟨by unfold nextS; rw [h1]; rfl, ?_⟩
  exact (List.mem_filter.1 (List.mem_of_getLast? h1)).1
theorem add_new {st : Sb} {k : Nat} {c : Ck} (h : ¬ c ∈ st.gone) : (addC st k c).bud = st.bud ∧ (addC st k c).inn = st.inn ++ [c] ∧ (addC st k c).made = st.made.set k (st.made.getD k 0 + 1) ∧ ∀ j, goneN (addC st k c) j = goneN st j := by
  unfold addC goneN
  rw [if_neg h]
  exact ⟨rfl, rfl, rfl, fun _ => rfl⟩
theorem add_old {st : Sb} {k : Nat} {l : List Int} {no : Int} (G : GoodS st) (h : goneN st k = l ++ [no]) : (addC st k ((k : Int), no)).bud = st.bud ∧ (addC st k ((k : Int), no)).inn = st.inn ++ [((k : Int), no)] ∧ (addC st k ((k : Int), no)).made = st.made ∧ ∀ j, goneN (addC st k ((k : Int), no)) j = if j = k then l else goneN st j := by
  have h1 := next_some h
  have h2 := (gone_last h).2
  have hn := (List.nodup_append.1 G.nodup).2.1
  unfold addC
  rw [if_pos h2]
  refine ⟨rfl, rfl, rfl, fun j => ?_⟩
  show ((st.gone.erase ((k : Int), no)).filter fun c => decide (c.1 = (j : Int))).map (·.2) = _
  by_cases e : j = k
  · subst e
    rw [if_pos rfl, filter_erase_last hn h1, List.map_dropLast]
    show (goneN st j).dropLast = l
    rw [h]
    simp
  · rw [if_neg e, filter_erase_other (fun e2 => e (by have e3 : (k : Int) = (j : Int) := e2; omega))]
    rfl
theorem many_new {st st' : Sb} {fs : Nat → Value} (h : ∀ j, goneN st' j = goneN st j) : freeP st fs = freeP st' fs := by
  funext j
  unfold freeP
  rw [h]
theorem many_old {st st' : Sb} {fs : Nat → Value} {k : Nat} {v : Value} {l : List Int} (h : ∀ j, goneN st' j = if j = k then l else goneN st j) : turnAt (freeP st fs) k (rowP 0 3 1 v l.length (intV l)) = freeP st' (upd fs k v) := by
  funext j
  unfold turnAt freeP upd
  rw [h]
  by_cases e : j = k
  · subst e
    simp
  · simp [e]
theorem headV_made (bud used : Int) (fs : Nat → Value) (ms : List Nat) (bm k : Nat) (hk : k < 6) (hl : ms.length = 6) (m : Nat) : (headV bud used fs ms bm).setIfInBounds (9 + k) (.int .i64 (m : Int)) = headV bud used fs (ms.set k m) bm := by
  have : k = 0 ∨ k = 1 ∨ k = 2 ∨ k = 3 ∨ k = 4 ∨ k = 5 := by omega
  rcases this with rfl | rfl | rfl | rfl | rfl | rfl <;> simp [headV, List.getD, hl]
theorem LawF.unset4 {F : Nat → Prop} {w0 w : World} {A B C E : Part} (L : LawF F w0 w (A.and (B.and (C.and E)))) : LawF F w0 w (C.and (A.and (B.and E))) := L.rin.rot
theorem LawF.reset4 {F : Nat → Prop} {w0 w : World} {A B C E : Part} (L : LawF F w0 w (C.and (A.and (B.and E)))) : LawF F w0 w (A.and (B.and (C.and E))) := L.rot.rin
/-- The slab with a class's chunk taken, ahead of what Take itself does. -/
def midP (b bm : Nat) (D : DataW Unit) (fs : Nat → Value) (st st' : Sb) : Part :=
  (boxP b (.cells (headV st.bud (usedS st) fs st'.made bm) 51)).and ((setP bm D).and ((manyP (· < 6) (freeP st' fs)).and Part.emp))
set_option maxRecDepth 100000 in
set_option maxHeartbeats 4000000 in
theorem next_none_any {F : Nat → Prop} {w0 w : World} {b bm k : Nat} {D : DataW Unit} {fs : Nat → Value} {st : Sb} (L : LawF F w0 w (slabP b bm D fs st)) (G : GoodS st) (hs : Small st 10000) (hk : k < 6) (hg : goneN st k = []) :
    Calls Try.prog 25 #[.pointer (some ⟨b, 0, none⟩), .int .i64 k] w fun e w' => e = .returned (.int .i64 (nextS st k).2) ∧ ∃ fs', LawF F w0 w' (midP b bm D fs' st (addC st k (nextS st k))) := by
  have hki : (k : Int) < 6 := by omega
  obtain ⟨hn, hng⟩ := gone_none hg
  have HA := hide (add_new (k := k) hng)
  have hr : w.ownsRow 0 3 1 (fs k) (goneN st k).length (intV (goneN st k)) := L.q.2.1.2.1.1.1 k hk
  rw [hg] at hr
  obtain ⟨a, cap, hv⟩ := own_shape hr
  have hm : st.made.getD k 0 ≤ 10000 := by
    by_cases h : k < st.made.length
    · simp only [List.getD, List.getElem?_eq_getElem h, Option.getD_some]
      exact hs.made _ (List.getElem_mem h)
    · simp [List.getD, List.getElem?_eq_none (Nat.le_of_not_lt h)]
  obtain ⟨m, hme⟩ : ∃ m, st.made.getD k 0 = m := ⟨_, rfl⟩
  have HN := hide hn
  rw [hme] at hm HN HA
  have c3 := ((head_cells L.q.1).2.2.2 k hk).1
  have c9 := ((head_cells L.q.1).2.2.2 k hk).2
  rw [hv] at c3
  rw [hme] at c9
  have Ld := L.drew
  have c9' := ((head_cells Ld.q.1).2.2.2 k hk).2
  rw [hme] at c9'
  have f9 := frozen_of_row w.drew b (9 + k) _ _ Ld.q.1
  have L2 := L.drew.setAt (9 + k) (.int .i64 ((m + 1 : Nat) : Int))
  rw [headV_made _ _ _ _ _ _ hk G.len] at L2
  have L3 := hide L2
  have e1 : wrap64 ((m : Int) + 1) = ((m + 1 : Nat) : Int) := (wrap_id (by omega)).trans (by omega)
  have e2 : IntKind.i64.wrap ((m : Int) + 1) = ((m + 1 : Nat) : Int) := by rw [IntKind.wrap_i64]; omega
  clear L2 L Ld hr hn hng
  go_enter Try.func25, Try.ntmps25
  go_upto_region 4 with fail
  go_region_with fail
  all_goals
    go_wp2
    go_ret
    refine ⟨by rw [HN.out]; rfl, fs, ?_⟩
    unfold midP
    rw [HA.out.2.2.1, ← many_new HA.out.2.2.2]
    exact L3.out
set_option maxRecDepth 100000 in
set_option maxHeartbeats 4000000 in
theorem next_last_any {F : Nat → Prop} {w0 w : World} {b bm k : Nat} {D : DataW Unit} {fs : Nat → Value} {st : Sb} {l : List Int} {no : Int} (L : LawF F w0 w (slabP b bm D fs st)) (G : GoodS st) (hs : Small st 10000) (hk : k < 6) (hg : goneN st k = l ++ [no]) :
    Calls Try.prog 25 #[.pointer (some ⟨b, 0, none⟩), .int .i64 k] w fun e w' => e = .returned (.int .i64 (nextS st k).2) ∧ ∃ fs', LawF F w0 w' (midP b bm D fs' st (addC st k (nextS st k))) := by
  have hki : (k : Int) < 6 := by omega
  have hn := (gone_last hg).1
  have HA := hide (add_old G hg)
  rw [hn]
  have hgn : (goneN st k).length ≤ 10000 := by
    unfold goneN
    rw [List.length_map]
    exact Nat.le_trans (List.length_filter_le _ _) hs.gone
  obtain ⟨n, hnl⟩ : ∃ n, l.length = n := ⟨_, rfl⟩
  have hlen : (goneN st k).length = n + 1 := by rw [hg, List.length_append, hnl]; rfl
  have hr : w.ownsRow 0 3 1 (fs k) (n + 1) (intV l ++ [.int .i64 no]) := by
    have := L.q.2.1.2.1.1.1 k hk
    have h2 : w.ownsRow 0 3 1 (fs k) (goneN st k).length (intV (goneN st k)) := this
    rw [hlen, hg, intV_app] at h2
    exact h2
  have hil : (intV l).length = n := by unfold intV; rw [List.length_map, hnl]
  obtain ⟨g, cap, hv⟩ := own_form hr (Nat.succ_pos n)
  rw [hv] at hr
  have hcap := own_cap hr
  have hbig : n ≤ 10000 := by omega
  have c3 := ((head_cells L.q.1).2.2.2 k hk).1
  rw [hv] at c3
  have Ld := L.drew
  have f3 := frozen_of_row w.drew b (3 + k) _ _ Ld.q.1
  have L2 := (L.setAt (3 + k) (.slice (some ⟨g, 0, none⟩) n cap)).drew
  have hrow2 : ((w.setCell ⟨b, 3 + k, none⟩ (.slice (some ⟨g, 0, none⟩) n cap)).drew).ownsRow 0 3 1 (fs k) (goneN st k).length (intV (goneN st k)) := L2.q.2.1.2.1.1.1 k hk
  have hrow3 := hrow2
  rw [hlen, hg, intV_app, hv] at hrow3
  have cg : ((w.setCell ⟨b, 3 + k, none⟩ (.slice (some ⟨g, 0, none⟩) n cap)).drew).cell? ⟨g, n, none⟩ = some (.int .i64 no) := by
    have := hrow3.cells (g := g) rfl n (.int .i64 no) (by rw [List.getElem?_append_right (by omega), hil]; simp)
    have e : (⟨g, 0, none⟩ : Addr).add n = ⟨g, n, none⟩ := by
      unfold Addr.add
      by_cases h : n = 0
      · subst h; rfl
      · simp [h]
    rw [e] at this
    exact this
  have P3 := L2.unset4.pick k hk
  have P4 : LawF F w0 _ ((rowP 0 3 1 (.slice (some ⟨g, 0, none⟩) n cap) l.length (intV l)).and _) := P3.weak1 (A' := rowP 0 3 1 (.slice (some ⟨g, 0, none⟩) n cap) l.length (intV l)) (fun _ => by rw [hnl]; exact ownsRow_pop (by omega) hrow3) (fun j hj => by
    show (fs k).ownBlock = some j
    rw [hv]
    exact hj)
  have P5 := P4.back
  rw [many_old HA.out.2.2.2] at P5
  have P6 := P5.reset4
  rw [headV_free _ _ _ _ _ _ hk] at P6
  have L3 := hide P6
  have e1 : wrap64 (((n + 1 : Nat) : Int) - 1) = (n : Int) := (wrap_id (by omega)).trans (by omega)
  have e2 : IntKind.i64.wrap (((n + 1 : Nat) : Int) - 1) = (n : Int) := by rw [IntKind.wrap_i64]; omega
  clear P3 P4 P5 P6 L2 L Ld hr hn hrow2 hrow3
  go_enter Try.func25, Try.ntmps25
  go_upto_region 7 with fail
  go_region_with fail
  all_goals
    go_wp2
    go_ret
    refine ⟨rfl, upd fs k (.slice (some ⟨g, 0, none⟩) n cap), ?_⟩
    unfold midP
    rw [HA.out.2.2.1]
    exact L3.out
theorem next_any {F : Nat → Prop} {w0 w : World} {b bm k : Nat} {D : DataW Unit} {fs : Nat → Value} {st : Sb} (L : LawF F w0 w (slabP b bm D fs st)) (G : GoodS st) (hs : Small st 10000) (hk : k < 6) :
    Calls Try.prog 25 #[.pointer (some ⟨b, 0, none⟩), .int .i64 k] w fun e w' => e = .returned (.int .i64 (nextS st k).2) ∧ ∃ fs', LawF F w0 w' (midP b bm D fs' st (addC st k (nextS st k))) := by
  rcases List.eq_nil_or_concat (goneN st k) with e | ⟨a, c, e⟩
  · exact next_none_any L G hs hk e
  · exact next_last_any L G hs hk (e.trans (List.concat_eq_append ..))
end Go.Proofs.Ytdjagifmcimedaa
