/- The contract of Free of package slab. Conditions: none. -/
import Derived.Test.YtdjagifmcimedaaSlabOps
import Derived.Deep.RegionLaw
namespace Go.Proofs.Ytdjagifmcimedaa
open Go.RowKit Go.Maps

theorem LawF.set3 {F : Nat → Prop} {w0 w : World} {A B C R : Part} (L : LawF F w0 w (A.and (B.and (C.and R)))) : LawF F w0 w (C.and (A.and (B.and R))) := L.rin.rot
theorem LawF.unset3 {F : Nat → Prop} {w0 w : World} {A B C R : Part} (L : LawF F w0 w (C.and (A.and (B.and R)))) : LawF F w0 w (A.and (B.and (C.and R))) := L.rot.rin
/-- A number is appended to a class's row, and the row is stored. -/
theorem free_app {F : Nat → Prop} {w0 w w1 : World} {N S : Part} {b bm k : Nat} {bud used : Int} {fs : Nat → Value} {ms : List Nat} {st : Sb} {no : Int} {v' : Value} {tmp : Obj} {t : TypeId} (hk : k < 6) (hin : ((k : Int), no) ∈ st.inn)
    (L : LawF F w0 w (N.and ((boxP b (.cells (headV bud used fs ms bm) t)).and (S.and ((manyP (· < 6) (freeP st fs)).and Part.emp)))))
    (hown : w1.ownsRow 0 3 1 v' ((goneN st k).length + 1) (intV (goneN st k) ++ [.int .i64 no])) (hgrow : (w.alloc tmp).grownBy w1 (fs k).ownBlock) (hat : v'.ownBlock = (fs k).ownBlock ∨ v'.ownBlock = some (w.alloc tmp).heap.size) :
    w1.cell? ⟨b, 3 + k, none⟩ = some (fs k) ∧ w1.frozen? ⟨b, 3 + k, none⟩ = false ∧ N.q w1 ∧ LawF F w0 (w1.setCell ⟨b, 3 + k, none⟩ v') (N.and ((boxP b (.cells (headV bud used (upd fs k v') ms bm) t)).and (S.and ((manyP (· < 6) (freeP (freeS st ((k : Int), no)) (upd fs k v'))).and Part.emp)))) := by
  have L1 := (L.rot4.pick k hk).app hown hgrow hat
  have L2 := L1.back.unrot4
  rw [many_free hin] at L2
  have L3 := L2.rot.setAt (3 + k) v'
  rw [headV_free _ _ _ _ _ _ hk] at L3
  exact ⟨((head_cells L2.rot.q.1).2.2.2 k hk).1, frozen_of_row w1 b _ _ _ L2.rot.q.1, L2.q.1, L3.rot⟩
set_option maxRecDepth 100000 in
set_option maxHeartbeats 4000000 in
theorem free_in_any {w : World} {b : Nat} {own : Nat → Prop} {st : Sb} (h : Sl0 w b own st) (hs : Small st 10000) (k : Nat) (no : Int) (hc : CkOk ((k : Int), no)) (hk : k < 6) (hin : ((k : Int), no) ∈ st.inn) :
    Calls Try.prog 17 #[.pointer (some ⟨b, 0, none⟩), .agg #[.int .i64 k, .int .i64 no]] w fun e w' => e = .returned (.int .i64 0) ∧ ∃ own', Sl0 w' b own' (freeS st ((k : Int), no)) ∧ Gr own w w' ∧ Grew w own own' := by
  obtain ⟨i0, hi, hz0, hz1, hz2⟩ := info_parts info_int
  have hbud : I64 st.bud := by obtain ⟨_, _, _, _, _, _, _, _, hb⟩ := h; exact hb
  have hgood : GoodS st := by obtain ⟨_, _, _, _, _, _, _, hg, _⟩ := h; exact hg
  obtain ⟨bm, D, fs, T, L⟩ := h.law
  have L0 := L.box (.cells #[.int .i64 k, .int .i64 no] 35)
  obtain ⟨d0, d1⟩ := pair_cells L0.q.1
  have HK := hide (keyOf_chunk ((k : Int), no) hc)
  have HI := hide (decide_eq_true hin)
  have hki : (k : Int) < 6 := by omega
  have hub := used_bound hs
  have hb0 := bytes_nonneg (k : Int)
  have hb1 := bytes_le (k : Int)
  obtain ⟨by_, hby⟩ : ∃ x, bytesC (k : Int) = x := ⟨_, rfl⟩
  have hus : usedS (freeS st ((k : Int), no)) = usedS st - by_ := by
    rw [← hby]
    unfold usedS freeS
    rw [if_pos hin]
    exact sumB_erase _ _ hin
  have hgn : (goneN st k).length ≤ 10000 := by
    unfold goneN
    rw [List.length_map]
    exact Nat.le_trans (List.length_filter_le _ _) hs.gone
  have HB := hide hby
  have HU := hide hus
  have HT := hide T
  have HG := hide hgood
  have HS : Hid ((freeS st ((k : Int), no)).bud = st.bud ∧ (freeS st ((k : Int), no)).made = st.made) := by
    show _ ∧ _
    unfold freeS
    split <;> exact ⟨rfl, rfl⟩
  have HM := hide (World.ownsMap.tidy L.q.2.1.1 key_chunk)
  rw [hby] at hb0 hb1
  clear hby hus h L
  obtain ⟨u, hu⟩ : ∃ u, usedS st = u := ⟨_, rfl⟩
  have e1 : wrap64 (u - by_) = u - by_ := wrap_id (by omega)
  go_enter Try.func17, Try.ntmps17
  go_upto_region 3 with (go_at_call 19; refine (has_any (Sl0.of L0.right HT.out HG.out hbud) ((k : Int), no) hc).mono ?_; rintro e w1 ⟨he, hg1⟩; rw [HI.out] at he; subst he; have L1 := (L0.step hg1).drew)
  clear d0 d1 L0
  obtain ⟨-, -, c14, -⟩ := head_cells L1.q.2.1.1
  obtain ⟨d0, d1⟩ := pair_cells L1.q.1
  go_region_held_law (fun w' => w'.cell? ⟨b, 2, none⟩ = some (.map (some bm)) ∧ w'.cell? ⟨w.heap.size, 0, none⟩ = some (.int .i64 k) ∧ w'.cell? ⟨w.heap.size, 1, none⟩ = some (.int .i64 no)) (first | exact ⟨c14', d0', d1'⟩ | exact ⟨c14, d0, d1⟩) ((refine step_delete _ rfl rfl _ _ 46 35 rfl 54 key_chunk Try.underlying46 _ bm _ D rfl L1.q.2.1.2.1.1 _ _ rfl HK.out ?_; intro w2 hown2 hturn2; have L2 := (L1.set3.mapTurn hown2 hturn2).unset3; obtain ⟨-, -, c14', -⟩ := head_cells L2.q.2.1.1; obtain ⟨d0', d1'⟩ := pair_cells L2.q.1))
  clear c14 d0 d1 c14' L1
  simp only [Act.put]
  go_upto_region 4 with fail
  go_cut [] from 14 to 30 (fun wx => ∃ v', LawF own w wx ((boxP w.heap.size (.cells #[.int .i64 k, .int .i64 no] 35)).and ((boxP b (.cells (headV st.bud (usedS st) (upd fs k v') st.made bm) 51)).and ((setP bm (D.del (keyL ((k : Int), no)))).and ((manyP (· < 6) (freeP (freeS st ((k : Int), no)) (upd fs k v'))).and Part.emp)))))
  case first =>
    have L2d := L2.drew
    have L2a := (L2.alloc (.cells #[.int .i64 no] 3)).drew
    clear d0' d1' L2 hown2 hturn2 hg1
    obtain ⟨d0, d1⟩ := pair_cells L2d.q.1
    have c2 := ((head_cells L2d.q.2.1.1).2.2.2 k hk).1
    have hrow : w2.drew.ownsRow 0 3 1 (fs k) (goneN st k).length (intV (goneN st k)) := (L2d.rot4.pick k hk).q.1
    obtain ⟨d0a, d1a⟩ := pair_cells L2a.q.1
    have c2a := ((head_cells L2a.q.2.1.1).2.2.2 k hk).1
    clear L2a
    go_region_law ((refine step_append_own_at _ 27 (by rfl) rfl _ _ 47 (by rfl) 0 3 i0 (.int .i64 0) 1 8 Try.underlying47 hi hz0 hz1 hz2 rfl (by decide) (fs k) _ _ (by rfl) (hrow.alloc _) ⟨_, 0, none⟩ 1 1 [.int .i64 no] (by rfl) rfl (cell_one_new _ _ _) (by simp [Value.oneCell']) (by unfold maxLen; omega) (by omega) (Nat.zero_le _) ?_; intro v' w3 hown' hgrow hat; obtain ⟨g', cap', rfl⟩ := ownsRow_succ hown'; obtain ⟨cc, ff, nq, L3⟩ := free_app hk hin L2d hown' hgrow hat; obtain ⟨d0b, d1b⟩ := pair_cells nq; replace L3 := hide L3))
    all_goals
      clear d0b d1b nq cc ff hown' hgrow hat d0 d1 c2 d0a d1a c2a L2d hrow
      go_wp2_with fail
      go_meet
      exact ⟨_, L3.out⟩
  case rest =>
    obtain ⟨v', L3⟩ := hcut
    clear L2 d0' d1' hown2 hturn2
    have L3d := L3.drew
    obtain ⟨d0, d1⟩ := pair_cells L3d.q.1
    obtain ⟨-, c1, -⟩ := head_cells L3d.q.2.1.1
    have f1 := frozen_of_row wc.drew b 1 _ _ L3d.q.2.1.1
    rw [hu] at c1
    have L4 := ((L3.rot.setAt 1 (.int .i64 (u - by_))).rot).drew
    rw [headV_used] at L4
    have e2 : IntKind.i64.wrap (u - by_) = u - by_ := by rw [IntKind.wrap_i64]; omega
    clear L3 L3d
    go_upto_region 5 with fail
    go_region_with ((go_at_call 11; refine (bytes_any (k : Int) _).mono ?_; rintro e w5 ⟨he, hw5⟩; rw [HB.out] at he; subst he; subst hw5))
    all_goals
      go_wp2
      go_ret
      refine ⟨rfl, _, Sl0.of (F := own) (w0 := w) (bm := bm) (D := D.del (keyL ((k : Int), no))) (fs := upd fs k v') ?_ (has_del HT.out HG.out HM.out hc hin) (good_free HG.out _) (by rw [HS.out.1]; exact hbud), L4.gr, ?_⟩
      · unfold slabP
        rw [HU.out, HS.out.1, HS.out.2, hu]
        exact L4.right
      · unfold slabP
        rw [HU.out, HS.out.1, HS.out.2, hu]
        exact L4.right.grew
end Go.Proofs.Ytdjagifmcimedaa
