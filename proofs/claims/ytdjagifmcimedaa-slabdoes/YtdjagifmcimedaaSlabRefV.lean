/- What Take of the document's own slab does. Conditions: at most 9000 chunks in each list. -/
import Derived.Test.YtdjagifmcimedaaSlabRefU
import Derived.Laws.ResultCell
import Derived.Deep.CutBlock
import Derived.Deep.CutRange
namespace Go.Proofs.Ytdjagifmcimedaa
open Go.RowKit

/-- The chunk in the result's block, and the number. -/
theorem take_ret {W : World} {r : Nat} {x y e : Value} {tmps : Array Value} {Post : Ending → World → Prop} (hb : W.heap[r]? = some (.cells #[x, y] 35 (0, 0))) (h4 : tmps.getD 4 undef = .pointer (some ⟨r, 0, none⟩)) (h5 : tmps.getD 5 undef = e)
    (h : Post (.returned (.tuple #[.agg #[x, y], e])) W) : bodyPost Try.prog Try.f16 Post .ret { tmps := tmps, defers := [] } W := by
  have hl := run_loadVar_row (P := Try.prog) W r _ 35 _ _ _ hb Try.underlying35 rfl (by kernel_rfl)
  have hr : (results Try.f16 tmps).run Try.prog W = .ok (.tuple #[.agg #[x, y], e]) W := by
    rw [results_cell_tmp rfl, h4, h5]
    simp only [asAddr, Sem.run_pure, Result.andThen_ok, hl]
  exact bodyPost_ret hr rfl h
theorem box_set {W : World} {r : Nat} {a b : Value} {t : TypeId} (hb : W.heap[r]? = some (.cells #[a, b] t (0, 0))) (x y : Value) : ((W.setCell ⟨r, 0, none⟩ x).setCell ⟨r, 1, none⟩ y).heap[r]? = some (.cells #[x, y] t (0, 0)) :=
  heap_setCell_same _ r 1 #[x, b] t y (heap_setCell_same W r 0 #[a, b] t x hb)
theorem box_other {W : World} {r k : Nat} {x y : Value} (h : k ≠ r) : ((W.setCell ⟨r, 0, none⟩ x).setCell ⟨r, 1, none⟩ y).heap[k]? = W.heap[k]? :=
  (heap_setCell_other _ _ _ _ h).trans (heap_setCell_other _ _ _ _ h)
theorem gr_box {F : Nat → Prop} {w W : World} {r : Nat} {x y : Value} (hg : Gr F w W) (hr : w.heap.size ≤ r) : Gr F w ((W.setCell ⟨r, 0, none⟩ x).setCell ⟨r, 1, none⟩ y) :=
  ⟨hg.os, hg.tape, hg.output, by rw [World.size_setCell, World.size_setCell]; exact hg.size, fun k hk hf => (box_other (by omega)).trans (hg.block k hk hf)⟩

set_option maxRecDepth 100000 in
set_option maxHeartbeats 4000000 in
theorem rtake_any {n0 h gm : Nat} {w : World} {st : Sb} {vi vg : Value} (R : RSl n0 w h st vi vg gm) (hG : GoodS st) (hs : Small st 9000) (hbud : I64 st.bud) (hn0 : n0 ≤ w.heap.size) (size : Int) :
    Calls Try.prog 16 #[.pointer (some ⟨h, 0, none⟩), .int .i64 size] w fun e w' => e = .returned (.tuple #[ckV (takeCk st size), .int .i64 (takeErr st size)]) ∧ ∃ vi' vg', RSl n0 w' h (takeS st size) vi' vg' gm ∧ Gr (ROwn h gm vi vg) w w' ∧ (∀ k, ROwn h gm vi' vg' k → ROwn h gm vi vg k ∨ w.heap.size ≤ k) := by
  have hub := used_bound hs
  have hbl := bytes_le (clsOf size)
  have hbn := bytes_nonneg (clsOf size)
  have hc6 := cls_lt size
  have hg0 := World.grownBy_alloc w (.cells #[.int .i64 0, .int .i64 0] 35) none
  have R0 := R.kept hg0
  have hb0 := heap_alloc_new w (.cells #[.int .i64 0, .int .i64 0] 35)
  have HTE : Hid (takeErr st size = if size ≤ 2048 then (if usedS st + bytesC (clsOf size) ≤ st.bud then 0 else 5) else 4) := rfl
  have HER : Hid (clsErr size = if size ≤ 2048 then 0 else 4) := rfl
  have HU := hide (fun (W : World) (RW : RSl n0 W h st vi vg gm) => rused_any RW (small_mono hs (by decide)))
  obtain ⟨c, hc⟩ : ∃ c, clsOf size = c := ⟨_, rfl⟩
  obtain ⟨n, hn⟩ : ∃ n, usedS st = n := ⟨_, rfl⟩
  obtain ⟨m, hm⟩ : ∃ m, bytesC (c : Int) = m := ⟨_, rfl⟩
  rw [hc] at HTE hbl hbn hc6
  rw [hn] at HTE hub HU
  rw [hm] at HTE hbl hbn
  have HC := hide hc
  have HM := hide hm
  clear hc hm hn
  obtain ⟨hb1, hb2⟩ := hbud
  by_cases h1 : size ≤ 2048
  · have he : clsErr size = 0 := by rw [HER.out, if_pos h1]
    have HE := hide he
    have ht := HTE.out
    rw [if_pos h1] at ht
    clear he HER HTE
    by_cases h2 : n + m ≤ st.bud
    · have hte : takeErr st size = 0 := by rw [ht, if_pos h2]
      have hck : takeCk st size = nextS st c := by unfold takeCk; rw [if_pos hte, HC.out]
      have hst : takeS st size = addC st c (nextS st c) := by unfold takeS; rw [if_pos hte, HC.out]
      have HT := hide hte
      have HK := hide hck
      have HS := hide hst
      clear hte hck hst ht h1
      have hbc := R0.budC
      have hni := hs.inn
      have hng := hs.gone
      obtain ⟨pv, cv, rfl⟩ := own_shape R.inn
      obtain ⟨pg, cg, rfl⟩ := own_shape R.gone
      obtain ⟨i0, hi, hz0, hz1, hz2⟩ := info_parts info_chunk
      have hmd : st.made.getD c 0 ≤ 9000 := by
        have hl := R.len
        have hc : c < st.made.length := by omega
        simp only [List.getD, List.getElem?_eq_getElem hc, Option.getD_some]
        exact hs.made _ (List.getElem_mem hc)
      generalize hW : w.alloc (.cells #[.int .i64 0, .int .i64 0] 35) = W at *
      have HU2 : ∀ k : Nat, Calls Try.prog 24 #[.pointer (some ⟨h, 0, none⟩)] (W.drewN k) fun e w' => e = .returned (.int .i64 n) ∧ w' = W.drewN k := fun k => (HU.out (W.drewN k) (R0.same fun _ _ => rfl)).mono fun e w' h => ⟨h.1, h.2.symm⟩
      have HB2 : ∀ k : Nat, Calls Try.prog 12 #[.int .i64 (c : Int)] (W.drewN k) fun e w' => e = .returned (.int .i64 m) ∧ w' = W.drewN k := fun k => (rbytes_any (c : Int) (W.drewN k)).mono fun e w' h => ⟨by rw [h.1, HM.out], h.2.symm⟩
      go_enter Try.func16, Try.ntmps16
      go_wp2_with (go_at_call 10; refine (rclass_any size _).mono ?_; rintro e w1 ⟨he, rfl⟩; rw [HC.out, HE.out] at he; subst he)
      go_quiet ((first
        | (go_at_call 24; exact Calls.quiet_of_same (HU2 _))
        | (go_at_call 12; exact Calls.quiet_of_same (HB2 _))))
      have R2 : RSl n0 (W.drewN nq) h st (.slice pv st.inn.length cv) (.slice pg st.gone.length cg) gm := R0.same fun _ _ => rfl
      have hb2 : (W.drewN nq).heap[w.heap.size]? = some (.cells #[.int .i64 0, .int .i64 0] 35) := hb0
      have hg2 : w.grownBy (W.drewN nq) none := ⟨hg0.1, hg0.2, hg0.3, hg0.4, hg0.5⟩
      generalize W.drewN nq = W2 at *
      clear HU2 HB2 HU hbc R0 hb0 hg0 hW hub hbl hbn hb1
      have hmc := R2.madeC
      obtain ⟨hm1, hm2⟩ := R2.madeAt c hc6
      obtain ⟨md, hmd2⟩ : ∃ md, st.made.getD c 0 = md := ⟨_, rfl⟩
      rw [hmd2] at hmd hm1
      have HMD := hide hmd2
      clear hmd2
      have hci : (c : Int) < 6 := by omega
      have R3 := R2.kept (World.grownBy_alloc W2 (.cells #[.int .i64 c, .int .i64 md] 35) none)
      have hb3 := (Below.heap_alloc W2 (.cells #[.int .i64 c, .int .i64 md] 35) _ (Array.getElem?_eq_some_iff.1 hb2).1).trans hb2
      have hx3 := heap_alloc_new W2 (.cells #[.int .i64 c, .int .i64 md] 35)
      have hg3 := gr_trans hg2 (World.grownBy_alloc W2 (.cells #[.int .i64 c, .int .i64 md] 35) none)
      have hlt3 : w.heap.size < W2.heap.size := (Array.getElem?_eq_some_iff.1 hb2).1
      generalize hW3 : W2.alloc (.cells #[.int .i64 c, .int .i64 md] 35) = W3 at *
      have hgc := R3.goneC
      go_wp2
      clear h2 hW3
      go_loop [9, 10] (fun a i => ∃ j : Nat, j ≤ st.gone.length ∧ i = .int .i64 j ∧ ((a = .int .i64 (-1) ∧ Hid (∀ (i : Nat) (hi : i < st.gone.length), i < j → st.gone[i].1 ≠ (c : Int))) ∨ ∃ m : Nat, a = .int .i64 m ∧ Hid (m < j ∧ ∃ hm : m < st.gone.length, st.gone[m].1 = (c : Int) ∧ ∀ (i : Nat) (hi : i < st.gone.length), m < i → i < j → st.gone[i].1 ≠ (c : Int)))) (fun _ i => st.gone.length - (intOf i).toNat)
      case atStart => exact ⟨0, Nat.zero_le _, rfl, .inl ⟨rfl, fun i _ hi => (Nat.not_lt_zero _ hi).elim⟩⟩
      case round =>
        obtain ⟨j, hj, rfl, hA⟩ := hrel
        by_cases hjn : j < st.gone.length
        · obtain ⟨g1, cg3, e4⟩ := own_form R.gone (by omega)
          cases e4
          obtain ⟨⟨u, v⟩, huv⟩ : ∃ c, st.gone[j] = c := ⟨_, rfl⟩
          obtain ⟨c0, c1⟩ := chunk_cells R3.gone j hjn
          rw [huv] at c0 c1
          have HUV := hide huv
          clear huv
          have HA := hide hA
          clear hA
          by_cases hux : u = (c : Int)
          · have hub2 : (u == (c : Int)) = true := beq_iff_eq.2 hux
            have HS2 : Hid (j < j + 1 ∧ ∃ hm : j < st.gone.length, st.gone[j].1 = (c : Int) ∧ ∀ (i : Nat) (hi : i < st.gone.length), j < i → i < j + 1 → st.gone[i].1 ≠ (c : Int)) := ⟨Nat.lt_succ_self _, hjn, by rw [HUV.out]; exact hux, fun i hi h1 h2 => by omega⟩
            clear hux
            go_wp2
            go_round
            case rel => exact ⟨j + 1, by omega, by go_num, .inr ⟨j, rfl, HS2⟩⟩
            case measure => simp [intOf]; omega
          · have hub2 : (u == (c : Int)) = false := beq_eq_false_iff_ne.2 hux
            have HUX := hide hux
            clear hux
            go_wp2
            go_round
            case rel =>
              refine ⟨j + 1, by omega, by go_num, ?_⟩
              rcases HA.out with ⟨e1, e2⟩ | ⟨m, e1, e2, e3, e5, e6⟩
              · refine .inl ⟨e1, fun i hi h1 => ?_⟩
                by_cases e : i = j
                · subst e
                  rw [HUV.out]
                  exact HUX.out
                · exact e2.out i hi (by omega)
              · refine .inr ⟨m, e1, by omega, e3, e5, fun i hi h1 h2 => ?_⟩
                by_cases e : i = j
                · subst e
                  rw [HUV.out]
                  exact HUX.out
                · exact e6 i hi h1 (by omega)
            case measure => simp [intOf]; omega
        · obtain rfl : j = st.gone.length := by omega
          clear hj hjn hm1 hm2 hmc
          obtain ⟨a, rfl, hA2⟩ : ∃ a : Int, u9 = .int .i64 a ∧ ((a = -1 ∧ Hid (∀ (i : Nat) (hi : i < st.gone.length), i < st.gone.length → st.gone[i].1 ≠ (c : Int))) ∨ ∃ m : Nat, a = (m : Int) ∧ Hid (m < st.gone.length ∧ ∃ hm : m < st.gone.length, st.gone[m].1 = (c : Int) ∧ ∀ (i : Nat) (hi : i < st.gone.length), m < i → i < st.gone.length → st.gone[i].1 ≠ (c : Int))) := by
            rcases hA with ⟨e, hh⟩ | ⟨m, e, hh⟩
            · exact ⟨-1, e, .inl ⟨rfl, hh⟩⟩
            · exact ⟨m, e, .inr ⟨m, rfl, hh⟩⟩
          clear hA
          go_upto_if 62 with fail
          go_cut [11] from 61 to 98 (fun _rest wx => ∃ (vg' : Value) (x y : Int) (gone' : List Ck) (made' : List Nat), RSl n0 wx h ⟨st.bud, st.inn, gone', made'⟩ (.slice pv st.inn.length cv) vg' gm ∧ wx.heap[W2.heap.size]? = some (.cells #[.int .i64 x, .int .i64 y] 35) ∧ wx.heap[w.heap.size]? = some (.cells #[.int .i64 0, .int .i64 0] 35) ∧
            Hid (nextS st c = (x, y) ∧ addC st c (x, y) = ⟨st.bud, st.inn ++ [(x, y)], gone', made'⟩) ∧ Gr (ROwn h gm (.slice pv st.inn.length cv) (.slice pg st.gone.length cg)) w wx ∧ (∀ k, vg'.ownBlock = some k → (Value.slice pg st.gone.length cg).ownBlock = some k ∨ w.heap.size ≤ k) ∧ ∀ k, ROwn h gm (.slice pv st.inn.length cv) vg' k → k ≠ W2.heap.size ∧ k ≠ w.heap.size)
          case first =>
            rcases hA2 with ⟨rfl, HA⟩ | ⟨m, rfl, HA⟩
            · have hno : ∀ d ∈ st.gone, d.1 ≠ (c : Int) := fun d hd => by
                obtain ⟨i, hi, rfl⟩ := List.mem_iff_getElem.1 hd
                exact HA.out i hi hi
              obtain ⟨hx1, hx2⟩ := next_none hno
              rw [hx1, HMD.out] at hx2
              rw [HMD.out] at hx1
              have HN : Hid (nextS st c = ((c : Int), (md : Int)) ∧ addC st c ((c : Int), (md : Int)) = ⟨st.bud, st.inn ++ [((c : Int), (md : Int))], st.gone, st.made.set c (md + 1)⟩) := ⟨hx1, by unfold addC; rw [if_neg hx2, HMD.out]⟩
              clear hno hx1 hx2 HA
              have hmc := R3.madeC
              obtain ⟨hm1, hm2⟩ := R3.madeAt c hc6
              rw [HMD.out] at hm1
              have R4 := R3.setMade c (md + 1)
              have hgl := R2.lt gm (.inr (.inl rfl))
              have hb4 := (heap_setCell_other W3 ⟨gm, c, none⟩ w.heap.size (.int .i64 ((md + 1 : Nat) : Int)) (Nat.ne_of_gt (R.lt gm (.inr (.inl rfl))))).trans hb3
              have hx4 := (heap_setCell_other W3 ⟨gm, c, none⟩ W2.heap.size (.int .i64 ((md + 1 : Nat) : Int)) (Nat.ne_of_gt hgl)).trans hx3
              have hg4 : Gr (ROwn h gm (.slice pv st.inn.length cv) (.slice pg st.gone.length cg)) w (W3.setCell ⟨gm, c, none⟩ (.int .i64 ((md + 1 : Nat) : Int))) := (gr_mono2 (Gr.of hg3) (fun _ e => by cases e)).trans (gr_set _ _ _ _ _ (.inr (.inl rfl)))
              have E2 : ((md + 1 : Nat) : Int) = (md : Int) + 1 := by omega
              rw [E2] at R4 hb4 hx4 hg4
              clear E2
              have K1 := hide R4
              have K2 := hide hb4
              have K3 := hide hx4
              have K4 := hide hg4
              clear R4 hb4 hx4 hg4
              go_wp2_with fail
              go_meet
              exact ⟨_, _, _, _, _, K1.out, K3.out, K2.out, HN, K4.out, fun k hk => .inl hk, fun k hk => ⟨Nat.ne_of_lt (R2.lt k hk), Nat.ne_of_lt (R.lt k hk)⟩⟩
            · obtain ⟨_, hm, e5, e6⟩ := HA.out
              clear HA
              have hnl := next_last hm e5 (fun i hi h1 => e6 i hi h1 hi)
              obtain ⟨⟨x, y⟩, hxy⟩ : ∃ c, st.gone[m] = c := ⟨_, rfl⟩
              have hmem : (x, y) ∈ st.gone := by rw [← hxy]; exact List.getElem_mem hm
              have hera : st.gone.erase (x, y) = st.gone.eraseIdx m := by rw [← hxy]; exact erase_idx (List.nodup_append.1 hG.nodup).2.1 m hm
              rw [hxy] at hnl
              have HN : Hid (nextS st c = (x, y) ∧ addC st c (x, y) = ⟨st.bud, st.inn ++ [(x, y)], st.gone.eraseIdx m, st.made⟩) := ⟨hnl, by unfold addC; rw [if_pos hmem, hera]⟩
              have HXY := hide hxy
              clear hnl hmem hera hxy e5 e6
              obtain ⟨g1, cg3, e4⟩ := own_form R.gone (by omega)
              cases e4
              obtain ⟨c0, c1⟩ := chunk_cells R3.gone m hm
              rw [HXY.out] at c0 c1
              obtain ⟨x0, x1⟩ := cells2 hx3
              have x2 : W3.frozen? ⟨W2.heap.size, 0, none⟩ = false := frozen_of_row _ _ _ _ _ hx3
              have x3 : W3.frozen? ⟨W2.heap.size, 1, none⟩ = false := frozen_of_row _ _ _ _ _ hx3
              have hbig : ∀ k, ROwn h gm (.slice pv st.inn.length cv) (.slice (some ⟨g1, 0, none⟩) st.gone.length cg) k → k ≠ W2.heap.size := fun k hk => Nat.ne_of_lt (R2.lt k hk)
              have R4 : RSl n0 ((W3.setCell ⟨W2.heap.size, 0, none⟩ (.int .i64 x)).setCell ⟨W2.heap.size, 1, none⟩ (.int .i64 y)) h st (.slice pv st.inn.length cv) (.slice (some ⟨g1, 0, none⟩) st.gone.length cg) gm := R3.same fun k hk => box_other (hbig k hk)
              have hx4 := box_set hx3 (.int .i64 x) (.int .i64 y)
              have hb4 := (box_other (W := W3) (x := .int .i64 x) (y := .int .i64 y) (Nat.ne_of_lt hlt3)).trans hb3
              have hg4 : Gr (fun _ => False) w ((W3.setCell ⟨W2.heap.size, 0, none⟩ (.int .i64 x)).setCell ⟨W2.heap.size, 1, none⟩ (.int .i64 y)) := gr_box (gr_mono2 (Gr.of hg3) (fun _ e => by cases e)) (Nat.le_of_lt hlt3)
              generalize hW4 : (W3.setCell ⟨W2.heap.size, 0, none⟩ (.int .i64 x)).setCell ⟨W2.heap.size, 1, none⟩ (.int .i64 y) = W4 at *
              have hc4 := R4.goneC
              have hcv := own_cap R4.gone
              have hN1 := take_news R4.gone m hm
              obtain ⟨ad, had, hN2⟩ := tail_news R4.gone m hm
              have hl1 : ((cksV st.gone).take (m * 2)).length = m * 2 := by rw [List.length_take, cksV_len]; omega
              have hl2 : ((cksV st.gone).drop ((m + 1) * 2)).length = (st.gone.length - (m + 1)) * 2 := by rw [List.length_drop, cksV_len]; omega
              have hO1 : ∀ u ∈ (cksV st.gone).take (m * 2), u.oneCell' = true := fun u hu => cksV_one _ u (List.mem_of_mem_take hu)
              have hO2 : ∀ u ∈ (cksV st.gone).drop ((m + 1) * 2), u.oneCell' = true := fun u hu => cksV_one _ u (List.mem_of_mem_drop hu)
              have E0 : IntKind.i64.wrap ((m : Int) + 1) = (m : Int) + 1 := by
                simp [IntKind.wrap, IntKind.bits, IntKind.signed]
                omega
              have E1 : (0 : Int) ≤ (m : Int) + 1 := by omega
              have E2 : (m : Int) + 1 ≤ (st.gone.length : Int) := by omega
              have E3 : ((m : Int) + 1).toNat = m + 1 := by omega
              have hkc : m ≤ cg := by omega
              have hk1 : m + 1 ≤ st.gone.length := hm
              have hbase : n0 ≤ W4.heap.size := Nat.le_trans hn0 hg4.size
              go_wp2_with (first
                | (at_builtin; refine wpList_append_own_at _ rfl _ _ 33 rfl n0 35 i0 (.agg #[.int .i64 0, .int .i64 0]) 2 16 Try.underlying33 hi hz0 hz1 hz2 rfl (by decide) (.slice none 0 0) 0 [] rfl (World.ownsRow_nil _ _ _ _) ⟨g1, 0, none⟩ m cg ((cksV st.gone).take (m * 2)) rfl hl1 hN1 hO1 (by unfold maxLen; omega) (by omega) hbase ?_; intro v1 w8 hown1 hgrow1 _ hat1; have R8 := R4.kept hgrow1; have hc8 := R8.goneC; have hN3 := hN2 w8 hgrow1)
                | (at_builtin; refine wpList_append_own_at _ rfl _ _ 33 rfl n0 35 i0 (.agg #[.int .i64 0, .int .i64 0]) 2 16 Try.underlying33 hi hz0 hz1 hz2 rfl (by decide) v1 _ _ rfl hown1 ad (st.gone.length - (m + 1)) (cg - (m + 1)) ((cksV st.gone).drop ((m + 1) * 2)) rfl hl2 hN3 hO2 (by unfold maxLen; omega) (by omega) (Nat.le_trans hbase hgrow1.size) ?_; intro v2 w9 hown2 hgrow2 _ hat2; obtain ⟨g9, n9⟩ := two_steps hgrow1 hat1 hgrow2 hat2; rw [Nat.zero_add] at hown2; obtain ⟨p2, q2, rfl⟩ := own_shape hown2; have R9 := R4.kept g9; have hc9 := R9.goneC; have hf9 := R9.free 2))
              have R10 := R9.setGone (st.gone.eraseIdx m) _ (erased_row hm hown2) (fun k hk => by
                have h1 := n9 k hk
                rintro (e | e | e)
                · exact Nat.not_lt_of_le h1 (by rw [e]; exact R4.lt h (.inl rfl))
                · exact Nat.not_lt_of_le h1 (by rw [e]; exact R4.lt gm (.inr (.inl rfl)))
                · exact Nat.not_lt_of_le h1 (R4.lt k (.inr (.inr (.inl e)))))
              have lx := (Array.getElem?_eq_some_iff.1 hx4).1
              have lb := (Array.getElem?_eq_some_iff.1 hb4).1
              have hx9 := (g9.block W2.heap.size lx (by simp)).trans hx4
              have hb9 := (g9.block w.heap.size lb (by simp)).trans hb4
              have nx : W2.heap.size ≠ h := fun e => hbig h (.inl rfl) e.symm
              have nb : w.heap.size ≠ h := fun e => Nat.lt_irrefl _ (by have := R.lt h (.inl rfl); rw [← e] at this; exact this)
              have hx10 := (heap_setCell_other w9 ⟨h, 2, none⟩ _ (.slice p2 (m + (st.gone.length - (m + 1))) q2) nx).trans hx9
              have hb10 := (heap_setCell_other w9 ⟨h, 2, none⟩ _ (.slice p2 (m + (st.gone.length - (m + 1))) q2) nb).trans hb9
              have hg10 : Gr (ROwn h gm (.slice pv st.inn.length cv) (.slice (some ⟨g1, 0, none⟩) st.gone.length cg)) w (w9.setCell ⟨h, 2, none⟩ (.slice p2 (m + (st.gone.length - (m + 1))) q2)) := ((gr_mono2 hg4 (fun _ e => e.elim)).trans (gr_mono2 (Gr.of g9) (fun _ e => by cases e))).trans (gr_set _ _ _ _ _ (.inl rfl))
              go_meet
              refine ⟨_, _, _, _, _, R10, hx10, hb10, HN, hg10, fun k hk => .inr (Nat.le_trans hg4.size (n9 k hk)), ?_⟩
              rintro k (e | e | e | e)
              · exact ⟨by rw [e]; exact nx.symm, by rw [e]; exact nb.symm⟩
              · exact ⟨hbig k (.inr (.inl e)), Nat.ne_of_lt (R.lt k (.inr (.inl e)))⟩
              · exact ⟨hbig k (.inr (.inr (.inl e))), Nat.ne_of_lt (R.lt k (.inr (.inr (.inl e))))⟩
              · have := n9 k e
                exact ⟨by omega, by omega⟩
          case rest =>
            obtain ⟨vg', x, y, gone', made', R5, hx5, hb5, HN, hg5, hv5, hd5⟩ := hcut
            clear R3 hb3 hx3 hg3 hgc hA2
            have R6 : RSl n0 wc.drew h ⟨st.bud, st.inn, gone', made'⟩ (.slice pv st.inn.length cv) vg' gm := R5.same fun _ _ => rfl
            have hic : wc.drew.cell? ⟨h, 1, none⟩ = some (.slice pv st.inn.length cv) := R6.innC
            have hic2 : (wc.alloc (.cells #[.int .i64 x, .int .i64 y] 35)).cell? ⟨h, 1, none⟩ = some (.slice pv st.inn.length cv) := (World.cell?_of_block (w := wc) (Below.heap_alloc _ _ _ (R5.lt h (.inl rfl)))).trans R5.innC
            obtain ⟨b0, b1⟩ := cells2 (show wc.drew.heap[W2.heap.size]? = _ from hx5)
            have HRow : Hid (wc.drew.ownsRow n0 35 2 (.slice pv st.inn.length cv) st.inn.length (cksV st.inn)) := R6.inn
            have hba : n0 ≤ wc.drew.heap.size := Nat.le_trans hn0 hg5.size
            go_upto_region 19 with fail
            go_region_law (refine step_append_own_at _ 106 (by rfl) rfl _ _ 33 (by rfl) n0 35 i0 (.agg #[.int .i64 0, .int .i64 0]) 2 16 Try.underlying33 hi hz0 hz1 hz2 rfl (by decide) (.slice pv st.inn.length cv) _ _ (by rfl) (HRow.out.alloc _) ⟨_, 0, none⟩ 1 1 [_, _] (by rfl) rfl (cell_two_new _ _ _ _) (by simp [Value.oneCell']) (by unfold maxLen; omega) (by omega) (hbase3 hba) ?_; intro v3 w11 hown3 hgrow3 hat3; obtain ⟨p3, q3, rfl⟩ := own_shape hown3; obtain ⟨k1, k2, R12, hg12, hn12⟩ := R6.appInn x y hown3 hgrow3 hat3)
            all_goals
              have hx12 := (hg12.block W2.heap.size (Array.getElem?_eq_some_iff.1 hx5).1 (fun hr => (hd5 _ hr).1 rfl)).trans hx5
              have hb12 := (hg12.block w.heap.size (Array.getElem?_eq_some_iff.1 hb5).1 (fun hr => (hd5 _ hr).2 rfl)).trans hb5
              have hl5 := (Array.getElem?_eq_some_iff.1 hb5).1
              generalize w11.setCell ⟨h, 1, none⟩ (.slice p3 (st.inn.length + 1) q3) = WW at *
              obtain ⟨y0, y1⟩ := cells2 hx12
              obtain ⟨r0, r1⟩ := cells2 hb12
              have r2 : WW.frozen? ⟨w.heap.size, 0, none⟩ = false := frozen_of_row _ _ _ _ _ hb12
              have r3 : WW.frozen? ⟨w.heap.size, 1, none⟩ = false := frozen_of_row _ _ _ _ _ hb12
              go_wp2
              refine take_ret (box_set hb12 _ _) rfl rfl ⟨by rw [HK.out, HN.out.1, HT.out]; rfl, .slice p3 (st.inn.length + 1) q3, vg', ?_, ?_, ?_⟩
              · rw [HS.out, HN.out.1, HN.out.2]
                exact R12.same fun k hk => box_other (fun e => by
                  rcases hn12 k hk with hr | hr
                  · exact (hd5 k hr).2 e
                  · rw [e] at hr
                    exact Nat.not_lt_of_le hr hl5)
              · exact gr_box (hg5.then (gr_drop hg12) (fun k hk hr => by
                  rcases hr with e | e | e | e
                  · exact .inl e
                  · exact .inr (.inl e)
                  · exact .inr (.inr (.inl e))
                  · exact (hv5 k e).elim (fun e => .inr (.inr (.inr e))) (fun e => (Nat.not_lt_of_le e hk).elim))) (Nat.le_refl _)
              · intro k hr
                rcases hn12 k hr with (e | e | e | e) | e
                · exact .inl (.inl e)
                · exact .inl (.inr (.inl e))
                · exact .inl (.inr (.inr (.inl e)))
                · exact (hv5 k e).elim (fun e => .inl (.inr (.inr (.inr e)))) .inr
                · exact .inr (Nat.le_trans hg5.size e)
    · have hte : takeErr st size = 5 := by rw [ht, if_neg h2]
      have hck : takeCk st size = (0, 0) := by unfold takeCk; rw [if_neg (by rw [hte]; decide)]
      have hst : takeS st size = st := take_not (by rw [hte]; decide)
      have HT := hide hte
      have HK := hide hck
      have HS := hide hst
      clear hte hck hst ht h1
      have hbc := R0.budC
      generalize hW : w.alloc (.cells #[.int .i64 0, .int .i64 0] 35) = W at *
      have HU2 : ∀ k : Nat, Calls Try.prog 24 #[.pointer (some ⟨h, 0, none⟩)] (W.drewN k) fun e w' => e = .returned (.int .i64 n) ∧ w' = W.drewN k := fun k => (HU.out (W.drewN k) (R0.same fun _ _ => rfl)).mono fun e w' h => ⟨h.1, h.2.symm⟩
      have HB2 : ∀ k : Nat, Calls Try.prog 12 #[.int .i64 (c : Int)] (W.drewN k) fun e w' => e = .returned (.int .i64 m) ∧ w' = W.drewN k := fun k => (rbytes_any (c : Int) (W.drewN k)).mono fun e w' h => ⟨by rw [h.1, HM.out], h.2.symm⟩
      go_enter Try.func16, Try.ntmps16
      go_wp2_with (go_at_call 10; refine (rclass_any size _).mono ?_; rintro e w1 ⟨he, rfl⟩; rw [HC.out, HE.out] at he; subst he)
      go_quiet ((first
        | (go_at_call 24; exact Calls.quiet_of_same (HU2 _))
        | (go_at_call 12; exact Calls.quiet_of_same (HB2 _))))
      obtain ⟨q0, q1⟩ := cells2 (show (W.drewN nq).heap[w.heap.size]? = _ from hb0)
      have q2 : (W.drewN nq).frozen? ⟨w.heap.size, 0, none⟩ = false := frozen_of_row _ _ _ _ _ (show (W.drewN nq).heap[w.heap.size]? = _ from hb0)
      have q3 : (W.drewN nq).frozen? ⟨w.heap.size, 1, none⟩ = false := frozen_of_row _ _ _ _ _ (show (W.drewN nq).heap[w.heap.size]? = _ from hb0)
      have R2 : RSl n0 (W.drewN nq) h st vi vg gm := R0.same fun _ _ => rfl
      have hb2 : (W.drewN nq).heap[w.heap.size]? = some (.cells #[.int .i64 0, .int .i64 0] 35) := hb0
      have hg2 : Gr (ROwn h gm vi vg) w (W.drewN nq) := gr_mono2 (Gr.of (show w.grownBy (W.drewN nq) none from ⟨hg0.1, hg0.2, hg0.3, hg0.4, hg0.5⟩)) (fun _ e => by cases e)
      generalize W.drewN nq = W2 at *
      go_wp2
      refine take_ret (box_set hb2 _ _) rfl rfl ⟨by rw [HK.out, HT.out]; rfl, vi, vg, ?_, gr_box hg2 (Nat.le_refl _), fun k hk => .inl hk⟩
      rw [HS.out]
      exact R2.same fun k hk => box_other (Nat.ne_of_lt (R.lt k hk))
  · have he : clsErr size = 4 := by rw [HER.out, if_neg h1]
    have hte : takeErr st size = 4 := by rw [HTE.out, if_neg h1]
    have hck : takeCk st size = (0, 0) := by unfold takeCk; rw [if_neg (by rw [hte]; decide)]
    have hst : takeS st size = st := take_not (by rw [hte]; decide)
    have HE := hide he
    have HT := hide hte
    have HK := hide hck
    have HS := hide hst
    clear he hte hck hst h1 HER HTE
    have hg2 : Gr (ROwn h gm vi vg) w (w.alloc (.cells #[.int .i64 0, .int .i64 0] 35)) := gr_mono2 (Gr.of hg0) (fun _ e => by cases e)
    go_enter Try.func16, Try.ntmps16
    go_wp2_with (go_at_call 10; refine (rclass_any size _).mono ?_; rintro e w1 ⟨he, rfl⟩; rw [HC.out, HE.out] at he; subst he)
    refine take_ret hb0 rfl rfl ⟨by rw [HK.out, HT.out]; rfl, vi, vg, ?_, hg2, fun k hk => .inl hk⟩
    rw [HS.out]
    exact R0
end Go.Proofs.Ytdjagifmcimedaa
