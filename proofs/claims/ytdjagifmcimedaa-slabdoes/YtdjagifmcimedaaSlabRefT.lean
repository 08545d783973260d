/- What the document's own slab does: New, Fits, Free. Conditions: at most 9000 chunks in each list. -/
import Derived.Test.YtdjagifmcimedaaSlabRef
import Derived.Deep.RegionHeldLaw
import Derived.Deep.RegionLaw
namespace Go.Proofs.Ytdjagifmcimedaa
open Go.RowKit

section
variable {n0 h gm : Nat} {w w1 : World} {st : Sb} {vi vg v' : Value} {tmp : Obj}
theorem head_set {w : World} {h : Nat} {a b c d : Value} {t : TypeId} (hh : w.heap[h]? = some (.cells #[a, b, c, d] t (0, 0))) (v : Value) : (w.setCell ⟨h, 1, none⟩ v).heap[h]? = some (.cells #[a, v, c, d] t (0, 0)) ∧ (w.setCell ⟨h, 2, none⟩ v).heap[h]? = some (.cells #[a, b, v, d] t (0, 0)) :=
  ⟨heap_setCell_same w h 1 #[a, b, c, d] t v hh, heap_setCell_same w h 2 #[a, b, c, d] t v hh⟩
theorem row_set {w : World} {n0 n h o : Nat} {e : TypeId} {u v : Value} {xs : List Value} (hr : w.ownsRow n0 e 2 u n xs) (hu : u.ownBlock ≠ some h) : (w.setCell ⟨h, o, none⟩ v).ownsRow n0 e 2 u n xs :=
  own_same hr fun k hk => heap_setCell_other _ _ _ _ (fun e => hu (by rw [hk, e]))
/-- Another list in use, in new memory. -/
theorem RSl.setInn (R : RSl n0 w h st vi vg gm) (l : List Ck) (v : Value) (hr : w.ownsRow n0 35 2 v l.length (cksV l)) (hn : ∀ k, v.ownBlock = some k → ¬ (k = h ∨ k = gm ∨ vg.ownBlock = some k)) :
    RSl n0 (w.setCell ⟨h, 1, none⟩ v) h ⟨st.bud, l, st.gone, st.made⟩ v vg gm :=
  have hv : v.ownBlock ≠ some h := fun e => hn h e (.inl rfl)
  { head := (head_set R.head v).1, inn := row_set hr hv, gone := row_set R.gone R.gh, made := (heap_setCell_other _ _ _ _ (fun e => R.hm e.symm)).trans R.made, len := R.len, ih := hv, im := fun e => hn gm e (.inr (.inl rfl)), gh := R.gh, gg := R.gg,
    ig := fun k hk hg => hn k hk (.inr (.inr hg)), hm := R.hm, h0 := R.h0, m0 := R.m0 }
theorem RSl.setGone (R : RSl n0 w h st vi vg gm) (l : List Ck) (v : Value) (hr : w.ownsRow n0 35 2 v l.length (cksV l)) (hn : ∀ k, v.ownBlock = some k → ¬ (k = h ∨ k = gm ∨ vi.ownBlock = some k)) :
    RSl n0 (w.setCell ⟨h, 2, none⟩ v) h ⟨st.bud, st.inn, l, st.made⟩ vi v gm :=
  have hv : v.ownBlock ≠ some h := fun e => hn h e (.inl rfl)
  { head := (head_set R.head v).2, inn := row_set R.inn R.ih, gone := row_set hr hv, made := (heap_setCell_other _ _ _ _ (fun e => R.hm e.symm)).trans R.made, len := R.len, ih := R.ih, im := R.im, gh := hv, gg := fun e => hn gm e (.inr (.inl rfl)),
    ig := fun k hk hg => hn k hg (.inr (.inr hk)), hm := R.hm, h0 := R.h0, m0 := R.m0 }
theorem gr_set (F : Nat → Prop) (w : World) (b o : Nat) (v : Value) (hF : F b) : Gr F w (w.setCell ⟨b, o, none⟩ v) :=
  ⟨rfl, rfl, rfl, Nat.le_of_eq (World.size_setCell _ _ _).symm, fun k _ hk => heap_setCell_other _ _ _ _ (fun e => hk (by rw [e]; exact hF))⟩
/-- One more that was let go. -/
theorem RSl.appGone (R : RSl n0 w h st vi vg gm) (x y : Int) (hown : w1.ownsRow n0 35 2 v' (st.gone.length + 1) (cksV st.gone ++ [.int .i64 x, .int .i64 y])) (hgrow : (w.alloc tmp).grownBy w1 vg.ownBlock) (hat : v'.ownBlock = vg.ownBlock ∨ v'.ownBlock = some (w.alloc tmp).heap.size) :
    w1.cell? ⟨h, 2, none⟩ = some vg ∧ w1.frozen? ⟨h, 2, none⟩ = false ∧ RSl n0 (w1.setCell ⟨h, 2, none⟩ v') h ⟨st.bud, st.inn, st.gone ++ [(x, y)], st.made⟩ vi v' gm ∧ Gr (ROwn h gm vi vg) w (w1.setCell ⟨h, 2, none⟩ v') ∧ (∀ k, ROwn h gm vi v' k → ROwn h gm vi vg k ∨ w.heap.size ≤ k) := by
  have hsa : (w.alloc tmp).heap.size = w.heap.size + 1 := World.size_alloc _ _
  have old : ∀ k, k < w.heap.size → vg.ownBlock ≠ some k → w1.heap[k]? = w.heap[k]? := fun k hk hv => (hgrow.block k (by omega) (fun e => hv e.symm)).trans (Below.heap_alloc _ _ _ hk)
  have lh := R.lt h (.inl rfl)
  have lm := R.lt gm (.inr (.inl rfl))
  have hhead := (old h lh R.gh).trans R.head
  have hmade := (old gm lm R.gg).trans R.made
  have hinn : w1.ownsRow n0 35 2 vi st.inn.length (cksV st.inn) := own_same R.inn fun k hk => old k (R.lt k (.inr (.inr (.inl hk)))) (R.ig k hk)
  have hv : ∀ k, v'.ownBlock = some k → vg.ownBlock = some k ∨ w.heap.size ≤ k := fun k hk => by
    rcases hat with e | e
    · exact .inl (by rw [← e]; exact hk)
    · rw [e] at hk
      cases hk
      exact .inr (by omega)
  have hne : ∀ k, v'.ownBlock = some k → ¬ (k = h ∨ k = gm ∨ vi.ownBlock = some k) := fun k hk => by
    rcases hv k hk with e | e
    · rintro (rfl | rfl | e2)
      · exact R.gh e
      · exact R.gg e
      · exact R.ig k e2 e
    · rintro (rfl | rfl | e2)
      · omega
      · omega
      · have := R.lt k (.inr (.inr (.inl e2)))
        omega
  have hvh : v'.ownBlock ≠ some h := fun e => hne h e (.inl rfl)
  have hown2 : w1.ownsRow n0 35 2 v' (st.gone ++ [(x, y)]).length (cksV (st.gone ++ [(x, y)])) := by
    rw [List.length_append, cksV_app]
    exact hown
  refine ⟨by simp [World.cell?, hhead], by simp [World.frozen?, hhead], ?_, ?_, ?_⟩
  · exact { head := (head_set hhead v').2, inn := row_set hinn R.ih, gone := row_set hown2 hvh, made := (heap_setCell_other _ _ _ _ (fun e => R.hm e.symm)).trans hmade, len := R.len, ih := R.ih, im := R.im, gh := hvh, gg := fun e => hne gm e (.inr (.inl rfl)), ig := fun k hk hg => hne k hg (.inr (.inr hk)), hm := R.hm, h0 := R.h0, m0 := R.m0 }
  · refine ⟨hgrow.1, hgrow.2, hgrow.3, ?_, fun k hk hr => ?_⟩
    · have := hgrow.4
      rw [World.size_setCell]
      omega
    · rw [heap_setCell_other _ _ _ _ (fun e => hr (.inl e))]
      exact old k hk (fun e => hr (.inr (.inr (.inr e))))
  · rintro k (e | e | e | e)
    · exact .inl (.inl e)
    · exact .inl (.inr (.inl e))
    · exact .inl (.inr (.inr (.inl e)))
    · exact (hv k e).elim (fun e => .inl (.inr (.inr (.inr e)))) .inr
end

theorem gr_mono2 {F G : Nat → Prop} {a b : World} (h : Gr F a b) (hF : ∀ k, F k → G k) : Gr G a b := ⟨h.os, h.tape, h.output, h.size, fun k hk hr => h.block k hk (fun hf => hr (hF k hf))⟩
theorem gr_drop {F : Nat → Prop} {a b : World} (h : Gr F a.drew b) : Gr F a b := ⟨h.os, h.tape, h.output, h.size, h.block⟩
theorem erased_row {w : World} {n0 j : Nat} {e : TypeId} {v : Value} {l : List Ck} (hj : j < l.length) (h : w.ownsRow n0 e 2 v (j + (l.length - (j + 1))) ([] ++ (cksV l).take (j * 2) ++ (cksV l).drop ((j + 1) * 2))) : w.ownsRow n0 e 2 v (l.eraseIdx j).length (cksV (l.eraseIdx j)) := by
  rw [← cksV_erase, List.length_eraseIdx, if_pos hj, show l.length - 1 = j + (l.length - (j + 1)) by omega]
  exact h
theorem hbase3 {n0 : Nat} {W : World} {o : Obj} (h : n0 ≤ W.heap.size) : n0 ≤ (W.alloc o).heap.size := Nat.le_trans h (by rw [World.size_alloc]; exact Nat.le_succ _)
theorem cells2_new {w W : World} {k : Nat} {t : TypeId} {x y : Value} (h : w.heap[k]? = some (.cells #[x, y] t (0, 0))) (e : W.heap[k]? = w.heap[k]?) : W.cell? ⟨k, 0, none⟩ = some x ∧ W.cell? ⟨k, 1, none⟩ = some y := cells2 (e.trans h)
set_option maxRecDepth 100000 in
set_option maxHeartbeats 4000000 in
theorem rfree_any {n0 h gm : Nat} {w : World} {st : Sb} {vi vg : Value} (R : RSl n0 w h st vi vg gm) (hG : GoodS st) (hs : Small st 9000) (hn0 : n0 ≤ w.heap.size) (x y : Int) :
    Calls Try.prog 18 #[.pointer (some ⟨h, 0, none⟩), .agg #[.int .i64 x, .int .i64 y]] w fun e w' => e = .returned (.int .i64 (freeErr st (x, y))) ∧ ∃ vi' vg', RSl n0 w' h (freeS st (x, y)) vi' vg' gm ∧ Gr (ROwn h gm vi vg) w w' ∧ (∀ k, ROwn h gm vi' vg' k → ROwn h gm vi vg k ∨ w.heap.size ≤ k) := by
  have hn := hs.inn
  have hgl := hs.gone
  obtain ⟨i0, hi, hz0, hz1, hz2⟩ := info_parts info_chunk
  obtain ⟨pv, cv, rfl⟩ := own_shape R.inn
  obtain ⟨pg, cg, rfl⟩ := own_shape R.gone
  have hg0 := World.grownBy_alloc w (.cells #[.int .i64 x, .int .i64 y] 35) none
  have hbx := heap_alloc_new w (.cells #[.int .i64 x, .int .i64 y] 35)
  go_enter Try.func18, Try.ntmps18
  go_wp2
  go_loopw [5] (fun i wr => ∃ j : Nat, j ≤ st.inn.length ∧ i = .int .i64 j ∧ Hid (∀ (i : Nat) (hi : i < st.inn.length), i < j → st.inn[i] ≠ (x, y)) ∧ w.grownBy wr none ∧ wr.heap[w.heap.size]? = some (.cells #[.int .i64 x, .int .i64 y] 35)) (fun i _ => st.inn.length - (intOf i).toNat)
  case atStart => exact ⟨0, Nat.zero_le _, rfl, fun i _ hi => (Nat.not_lt_zero _ hi).elim, hg0, hbx⟩
  case round =>
    clear hg0 hbx
    obtain ⟨j, hj, rfl, HJ, hg, hb⟩ := hrel
    have R1 := R.kept hg
    have hc1 := R1.innC
    obtain ⟨b0, b1⟩ := cells2 hb
    by_cases hjn : j < st.inn.length
    · obtain ⟨g1, cv3, e4⟩ := own_form R.inn (by omega)
      cases e4
      obtain ⟨⟨u, v⟩, huv⟩ : ∃ c, st.inn[j] = c := ⟨_, rfl⟩
      obtain ⟨c0, c1⟩ := chunk_cells R1.inn j hjn
      rw [huv] at c0 c1
      have HUV := hide huv
      clear huv
      by_cases heq : u = x ∧ v = y
      · obtain ⟨rfl, rfl⟩ := heq
        have hmem : (u, v) ∈ st.inn := by rw [← HUV.out]; exact List.getElem_mem hjn
        have HM : Hid (freeErr st (u, v) = 0) := if_pos hmem
        have HFS : Hid (freeS st (u, v) = ⟨st.bud, st.inn.eraseIdx j, st.gone ++ [(u, v)], st.made⟩) := by
          show freeS st (u, v) = _
          unfold freeS
          rw [if_pos hmem]
          have := erase_idx (List.nodup_append.1 hG.nodup).1 j hjn
          rw [HUV.out] at this
          rw [this]
        clear hmem
        go_wp2
        go_quiet (fail)
        have R2 : RSl n0 (wr.drewN nq) h st (.slice (some ⟨g1, 0, none⟩) st.inn.length cv) (.slice pg st.gone.length cg) gm := R1.same fun _ _ => rfl
        have hg2 : w.grownBy (wr.drewN nq) none := ⟨hg.1, hg.2, hg.3, hg.4, hg.5⟩
        have hb2 : (wr.drewN nq).heap[w.heap.size]? = some (.cells #[.int .i64 u, .int .i64 v] 35) := hb
        generalize wr.drewN nq = W at *
        clear R1 hc1 hg hb b0 b1 c0 c1
        have hc2 := R2.innC
        have hcv := own_cap R2.inn
        have hN1 := take_news R2.inn j hjn
        obtain ⟨ad, had, hN2⟩ := tail_news R2.inn j hjn
        have hl1 : ((cksV st.inn).take (j * 2)).length = j * 2 := by rw [List.length_take, cksV_len]; omega
        have hl2 : ((cksV st.inn).drop ((j + 1) * 2)).length = (st.inn.length - (j + 1)) * 2 := by rw [List.length_drop, cksV_len]; omega
        have hO1 : ∀ u ∈ (cksV st.inn).take (j * 2), u.oneCell' = true := fun u hu => cksV_one _ u (List.mem_of_mem_take hu)
        have hO2 : ∀ u ∈ (cksV st.inn).drop ((j + 1) * 2), u.oneCell' = true := fun u hu => cksV_one _ u (List.mem_of_mem_drop hu)
        have E0 : IntKind.i64.wrap ((j : Int) + 1) = (j : Int) + 1 := by
          simp [IntKind.wrap, IntKind.bits, IntKind.signed]
          omega
        have E1 : (0 : Int) ≤ (j : Int) + 1 := by omega
        have E2 : (j : Int) + 1 ≤ (st.inn.length : Int) := by omega
        have E3 : ((j : Int) + 1).toNat = j + 1 := by omega
        have hkc : j ≤ cv := by omega
        have hk1 : j + 1 ≤ st.inn.length := hjn
        have hbase : n0 ≤ W.heap.size := Nat.le_trans hn0 hg2.size
        go_wp2_with (first
          | (at_builtin; refine wpList_append_own_at _ rfl _ _ 33 rfl n0 35 i0 (.agg #[.int .i64 0, .int .i64 0]) 2 16 Try.underlying33 hi hz0 hz1 hz2 rfl (by decide) (.slice none 0 0) 0 [] rfl (World.ownsRow_nil _ _ _ _) ⟨g1, 0, none⟩ j cv ((cksV st.inn).take (j * 2)) rfl hl1 hN1 hO1 (by unfold maxLen; omega) (by omega) hbase ?_; intro v1 w8 hown1 hgrow1 _ hat1; have R8 := R2.kept hgrow1; have hc8 := R8.innC; have hN3 := hN2 w8 hgrow1)
          | (at_builtin; refine wpList_append_own_at _ rfl _ _ 33 rfl n0 35 i0 (.agg #[.int .i64 0, .int .i64 0]) 2 16 Try.underlying33 hi hz0 hz1 hz2 rfl (by decide) v1 _ _ rfl hown1 ad (st.inn.length - (j + 1)) (cv - (j + 1)) ((cksV st.inn).drop ((j + 1) * 2)) rfl hl2 hN3 hO2 (by unfold maxLen; omega) (by omega) (Nat.le_trans hbase hgrow1.size) ?_; intro v2 w9 hown2 hgrow2 _ hat2; obtain ⟨g9, n9⟩ := two_steps hgrow1 hat1 hgrow2 hat2; rw [Nat.zero_add] at hown2; obtain ⟨p2, q2, rfl⟩ := own_shape hown2; have R9 := R2.kept g9; have hc9 := R9.innC; have hf9 := R9.free 1))
        have hr9 := erased_row hjn hown2
        have R10 := R9.setInn (st.inn.eraseIdx j) _ hr9 (fun k hk => by
          have h1 := n9 k hk
          rintro (e | e | e)
          · exact Nat.not_lt_of_le h1 (by rw [e]; exact R2.lt h (.inl rfl))
          · exact Nat.not_lt_of_le h1 (by rw [e]; exact R2.lt gm (.inr (.inl rfl)))
          · exact Nat.not_lt_of_le h1 (R2.lt k (.inr (.inr (.inr e)))))
        have hbh : w.heap.size ≠ h := fun e => Nat.lt_irrefl _ (by have := R.lt h (.inl rfl); rw [← e] at this; exact this)
        have hb9 := (g9.block w.heap.size (Array.getElem?_eq_some_iff.1 hb2).1 (by simp)).trans hb2
        have hb10 := (heap_setCell_other w9 ⟨h, 1, none⟩ _ (.slice p2 (j + (st.inn.length - (j + 1))) q2) hbh).trans hb9
        have hg10 : Gr (ROwn h gm (.slice (some ⟨g1, 0, none⟩) st.inn.length cv) (.slice pg st.gone.length cg)) w (w9.setCell ⟨h, 1, none⟩ (.slice p2 (j + (st.inn.length - (j + 1))) q2)) := (gr_mono2 (Gr.of (gr_trans hg2 g9)) (fun _ e => by cases e)).trans (gr_set _ _ _ _ _ (.inl rfl))
        have hn10 : ∀ k, (Value.slice p2 (j + (st.inn.length - (j + 1))) q2).ownBlock = some k → w.heap.size ≤ k := fun k hk => Nat.le_trans hg2.size (n9 k hk)
        generalize w9.setCell ⟨h, 1, none⟩ (.slice p2 (j + (st.inn.length - (j + 1))) q2) = W10 at *
        clear hc9 hf9 R9 hc8 R8 hc2 hN1 hN2 hN3 hown1 hgrow1 hat1 hown2 hgrow2 hat2 hr9 hl1 hl2 hO1 hO2 E0 E1 E2 E3 had hb9 hb2 hg2 g9 R2
        have R11 : RSl n0 W10.drew h _ _ _ gm := R10.same fun _ _ => rfl
        have hcg : W10.drew.cell? ⟨h, 2, none⟩ = some (.slice pg st.gone.length cg) := R11.goneC
        obtain ⟨b0, b1⟩ := cells2 (show W10.drew.heap[w.heap.size]? = _ from hb10)
        have hcg2 : (W10.alloc (.cells #[.int .i64 u, .int .i64 v] 35)).cell? ⟨h, 2, none⟩ = some (.slice pg st.gone.length cg) := (World.cell?_of_block (w := W10) (Below.heap_alloc _ _ _ (R10.lt h (.inl rfl)))).trans R10.goneC
        have HRow : Hid (W10.drew.ownsRow n0 35 2 (.slice pg st.gone.length cg) st.gone.length (cksV st.gone)) := R11.gone
        have hba : n0 ≤ W10.drew.heap.size := Nat.le_trans hn0 hg10.size
        go_region_law (refine step_append_own_at _ 52 (by rfl) rfl _ _ 33 (by rfl) n0 35 i0 (.agg #[.int .i64 0, .int .i64 0]) 2 16 Try.underlying33 hi hz0 hz1 hz2 rfl (by decide) (.slice pg st.gone.length cg) _ _ (by rfl) (HRow.out.alloc _) ⟨_, 0, none⟩ 1 1 [_, _] (by rfl) rfl (cell_two_new _ _ _ _) (by simp [Value.oneCell']) (by unfold maxLen; omega) (by omega) (hbase3 hba) ?_; intro v3 w11 hown3 hgrow3 hat3; obtain ⟨p3, q3, rfl⟩ := own_shape hown3; obtain ⟨k1, k2, R12, hg12, hn12⟩ := R11.appGone u v hown3 hgrow3 hat3)
        all_goals
          go_wp2
          go_ret
          refine ⟨by rw [HM.out]; rfl, .slice p2 (j + (st.inn.length - (j + 1))) q2, .slice p3 (st.gone.length + 1) q3, ?_, ?_, ?_⟩
          · rw [HFS.out]
            exact R12
          · exact hg10.then (gr_drop hg12) (fun k hk hr => by
              rcases hr with e | e | e | e
              · exact .inl e
              · exact .inr (.inl e)
              · exact (Nat.not_lt_of_le (hn10 k e) hk).elim
              · exact .inr (.inr (.inr e)))
          · intro k hr
            rcases hn12 k hr with (e | e | e | e) | e
            · exact .inl (.inl e)
            · exact .inl (.inr (.inl e))
            · exact .inr (hn10 k e)
            · exact .inl (.inr (.inr (.inr e)))
            · exact .inr (Nat.le_trans hg10.size e)
      · have HS : Hid (∀ (i : Nat) (hi : i < st.inn.length), i < j + 1 → st.inn[i] ≠ (x, y)) := fun i hi hij => by
          by_cases e : i = j
          · subst e
            rw [HUV.out]
            intro e2
            cases e2
            exact heq ⟨rfl, rfl⟩
          · exact HJ.out i hi (by omega)
        by_cases hux : u = x
        · subst hux
          have hvy : ¬ v = y := fun e => heq ⟨rfl, e⟩
          have hvb : (v == y) = false := beq_eq_false_iff_ne.2 hvy
          clear heq
          go_wp2
          go_quiet (fail)
          go_wp2
          go_roundw
          case rel => exact ⟨j + 1, by omega, by go_num, HS, ⟨hg.1, hg.2, hg.3, hg.4, hg.5⟩, hb⟩
          case measure => simp [intOf]; omega
        · have hub2 : (u == x) = false := beq_eq_false_iff_ne.2 hux
          clear heq
          go_wp2
          go_quiet (fail)
          go_wp2
          go_roundw
          case rel => exact ⟨j + 1, by omega, by go_num, HS, ⟨hg.1, hg.2, hg.3, hg.4, hg.5⟩, hb⟩
          case measure => simp [intOf]; omega
    · have hnm : ¬ (x, y) ∈ st.inn := fun hm => by
        obtain ⟨i, hi, e⟩ := List.mem_iff_getElem.1 hm
        exact HJ.out i hi (by omega) e
      have HM : Hid (freeErr st (x, y) = 1) := if_neg hnm
      have HF : Hid (freeS st (x, y) = st) := if_neg hnm
      go_wp2
      go_ret
      refine ⟨by rw [HM.out]; rfl, _, _, by rw [HF.out]; exact R1, gr_mono2 (Gr.of hg) (fun _ e => by cases e), fun k hk => .inl hk⟩
end Go.Proofs.Ytdjagifmcimedaa
