/- The contract of Take of package slab. Conditions: none. The contracts of package slab, all of them. Conditions: none. -/
import Derived.Test.YthfkcbnabnmnjabGreatDoorG16Joined
import Derived.Laws.ResultCell
namespace Go.Proofs.YthfkcbnabnmnjabGreatDoor
open Go.RowKit Go.Maps

theorem tk_ret {W : World} {r : Nat} {x y e : Value} {tmps : Array Value} {Post : Ending → World → Prop} (hb : W.heap[r]? = some (.cells #[x, y] 70 (0, 0))) (h4 : tmps.getD 4 undef = .pointer (some ⟨r, 0, none⟩)) (h5 : tmps.getD 5 undef = e)
    (h : Post (.returned (.tuple #[.agg #[x, y], e])) W) : bodyPost Tryz.prog Tryz.f106 Post .ret { tmps := tmps, defers := [] } W := by
  have hl := run_loadVar_row (P := Tryz.prog) W r _ 70 _ _ _ hb Tryz.underlying70 rfl (by kernel_rfl)
  have hr : (results Tryz.f106 tmps).run Tryz.prog W = .ok (.tuple #[.agg #[x, y], e]) W := by
    rw [results_cell_tmp rfl, h4, h5]
    simp only [asAddr, Sem.run_pure, Result.andThen_ok, hl]
  exact bodyPost_ret hr rfl h
/-- What a call inside leaves. -/
theorem LawF.deep {F : Nat → Prop} {w0 w w' : World} {A A' R : Part} (H : LawF F w0 w (A.and R)) (M : LawF A.own w w' A') : LawF F w0 w' (A'.and R) := H.turn M.q (fun k hk => (M.lt k hk).1) M.gr M.grew
theorem LawF.inside {F : Nat → Prop} {w0 w : World} {A R : Part} (H : LawF F w0 w (A.and R)) : LawF A.own w w A := LawF.start H.q.1 fun k hk => (H.lt k (.inl hk)).1
theorem used_add (st : Sb) (k : Nat) (c : Ck) (hc : c.1 = (k : Int)) : usedS (addC st k c) = usedS st + bytesC (k : Int) ∧ (addC st k c).bud = st.bud := by
  unfold addC usedS
  split <;> exact ⟨by rw [sumB_app, sumB_one, hc], rfl⟩
theorem inn_add (st : Sb) (k : Nat) (c : Ck) : (addC st k c).inn = st.inn ++ [c] := by
  unfold addC
  split <;> rfl
set_option maxRecDepth 100000 in
set_option maxHeartbeats 4000000 in
theorem take_in_any {w : World} {b k : Nat} {own : Nat → Prop} {st : Sb} (h : Sl0 w b own st) (hs : Small st 10000) (size : Int) (hcl : clsOf size = k) (her : clsErr size = 0) (hfit : fitsS st size 0 = true) (hG : GoodS (addC st k (nextS st k))) (hok : CkOk (nextS st k)) :
    Calls Tryz.prog 106 #[.pointer (some ⟨b, 0, none⟩), .int .i64 size] w fun e w' => e = .returned (.tuple #[.agg #[.int .i64 k, .int .i64 (nextS st k).2], .int .i64 0]) ∧ ∃ own', Sl0 w' b own' (addC st k (nextS st k)) ∧ Gr own w w' ∧ Grew w own own' := by
  have hk : k < 6 := by rw [← hcl]; exact cls_lt size
  have hgood : GoodS st ∧ I64 st.bud := by obtain ⟨_, _, _, _, _, _, _, hg, hb⟩ := h; exact ⟨hg, hb⟩
  have hc1 := next_cls st k
  have hnew := next_new hgood.1 k
  obtain ⟨hus, hbu⟩ := used_add st k (nextS st k) hc1
  have hin := inn_add st k (nextS st k)
  obtain ⟨bm, D, fs, T, L⟩ := h.law
  have HF := fun W (h : Sl0 W b (slabP b bm D fs st).own st) => fits_any h hs size 0 ⟨by decide, by decide⟩
  have L0 := (L.box (.cells #[.int .i64 0, .int .i64 0] 70))
  have hub := used_bound hs
  have hb0 := bytes_nonneg (k : Int)
  have hb1 := bytes_le (k : Int)
  obtain ⟨by_, hby⟩ : ∃ x, bytesC (k : Int) = x := ⟨_, rfl⟩
  rw [hby] at hb0 hb1 hus
  obtain ⟨no, hno⟩ : ∃ x, (nextS st k).2 = x := ⟨_, rfl⟩
  have hck : nextS st k = ((k : Int), no) := Prod.ext hc1 hno
  have HT2 := hide (told_put T (World.ownsMap.tidy L.q.2.1.1 key_chunk) hok hnew hin)
  have hsz : Maps.size D < maxLen := by
    rw [T.size]
    have := hs.inn
    unfold maxLen
    omega
  have HK := hide (keyOf_chunk ((k : Int), no) (hck ▸ hok))
  unfold ckV at HK
  have HN := hide (fun (W : World) (LW : LawF (slabP b bm D fs st).own W W (slabP b bm D fs st)) => next_any LW hgood.1 hs hk)
  rw [hno] at HN ⊢
  have HC := hide hcl
  have HE := hide her
  have HP := hide hfit
  have HB := hide hby
  have HU := hide hus
  have HBu := hide hbu
  have HG := hide hG
  have HI : Hid (nextS st k = ((k : Int), no)) := hck
  obtain ⟨u, hu⟩ : ∃ u, usedS st = u := ⟨_, rfl⟩
  have e1 : wrap64 (u + by_) = u + by_ := wrap_id (by omega)
  have e2 : IntKind.i64.wrap (u + by_) = u + by_ := by rw [IntKind.wrap_i64]; omega
  have HFits := hide HF
  have HTold := hide T
  have HGd := hide hgood
  clear hcl her hfit hby hus hbu hG hck hnew hin hok HF T hgood h L hc1
  go_enter Tryz.func106, Tryz.ntmps106
  go_upto_region 7 with (first
    | (go_at_call 88; refine (class_any size _).mono ?_; rintro e w1 ⟨he, rfl⟩; rw [HC.out, HE.out] at he; subst he)
    | (go_at_call 103; refine (HFits.out _ (Sl0.of L0.right HTold.out HGd.out.1 HGd.out.2)).mono ?_; rintro e w2 ⟨he, hg2⟩; rw [HP.out] at he; subst he; have L1 := L0.step hg2)
    | (go_at_call 117; refine (HN.out _ L1.comm.inside).mono ?_; rintro e w3 ⟨he, fs', M⟩; subst he; have L2 := (L1.comm.deep M).comm; have L3 := L2.box (.cells #[.int .i64 k, .int .i64 no] 70)))
  clear L0 L1 hg2 M L2
  have L4 := L3.drew
  unfold midP at L4
  obtain ⟨-, -, c2, -⟩ := head_cells L4.q.2.1.2.1.1
  obtain ⟨d0, d1⟩ := pair_cells L4.q.1
  have hm4 : (w3.alloc (.cells #[.int .i64 k, .int .i64 no] 70)).drew.ownsMap Tryz.prog 70 unitElem bm (Maps.size D) D := L4.rot4.q.1
  obtain ⟨w5, hrun5, hown5, hturn5⟩ := hm4.store key_chunk Tryz.underlying83 hsz HK.out unitElem_mk
  have L5 := (L4.rot4.mapTurn hown5 hturn5).unrot4
  obtain ⟨-, -, c2', -⟩ := head_cells L5.q.2.1.2.1.1
  obtain ⟨d0', d1'⟩ := pair_cells L5.q.1
  clear L4 hown5 hturn5 hm4 L3
  replace L5 := hide L5
  go_region_held (fun w' => w'.cell? ⟨b, 2, none⟩ = some (.map (some bm)) ∧ w'.cell? ⟨w3.heap.size, 0, none⟩ = some (.int .i64 k) ∧ w'.cell? ⟨w3.heap.size, 1, none⟩ = some (.int .i64 no)) (first | exact ⟨c2', d0', d1'⟩ | exact ⟨c2, d0, d1⟩) (fail)
  replace L5 := L5.out
  clear c2 d0 d1 c2' d0' d1' hrun5
  have L5d := L5.drew
  obtain ⟨-, c1, -⟩ := head_cells L5d.q.2.1.2.1.1
  have f1 := frozen_of_row w5.drew b 1 _ _ L5d.q.2.1.2.1.1
  rw [hu] at c1
  have L6 := ((L5.rin.rot.setAt 1 (.int .i64 (u + by_))).rot.rin).drew
  rw [headV_used] at L6
  clear L5 L5d
  go_upto_region 8 with fail
  go_region_with ((go_at_call 97; refine (bytes_any (k : Int) _).mono ?_; rintro e w7 ⟨he, hw7⟩; rw [HB.out] at he; subst he; subst hw7))
  all_goals
    generalize hWW : (w5.setCell ⟨b, 1, none⟩ (.int .i64 (u + by_))).drew = WW at *
    obtain ⟨d0, d1⟩ := pair_cells L6.q.1
    obtain ⟨x0, x1⟩ := pair_cells L6.q.2.1.1
    have r2 : WW.frozen? ⟨w.heap.size, 0, none⟩ = false := frozen_of_row _ _ _ _ _ L6.q.2.1.1
    have r3 : WW.frozen? ⟨w.heap.size, 1, none⟩ = false := frozen_of_row _ _ _ _ _ L6.q.2.1.1
    have L7 := (L6.rot.setAt 0 (.int .i64 k)).setAt 1 (.int .i64 no)
    have L8 := L7.right.right
    go_wp2
    have L9 : LawF own w ((WW.setCell ⟨w.heap.size, 0, none⟩ (.int .i64 k)).setCell ⟨w.heap.size, 1, none⟩ (.int .i64 no)) (slabP b bm (D.put (keyL ((k : Int), no)) (.agg [])) fs' (addC st k (nextS st k))) := by
      unfold slabP
      rw [HU.out, HBu.out, hu]
      exact L8
    refine tk_ret (r := w.heap.size) (x := .int .i64 k) (y := .int .i64 no) L7.q.1 rfl rfl ⟨rfl, _, Sl0.of L9 (by have := HT2.out; rw [HI.out] at this; rw [HI.out]; exact this) HG.out (by rw [HBu.out]; exact HGd.out.2), L9.gr, L9.grew⟩
theorem fits0 {st : Sb} {n : Nat} (hs : Small st n) (size : Int) : fitsS st size 0 = decide (size ≤ 2048 ∧ usedS st + bytesC (clsOf size) ≤ st.bud) := by
  have := used_bound hs
  unfold fitsS
  exact decide_eq_decide.2 ⟨fun h => ⟨h.1, by omega⟩, fun h => ⟨h.1, Int.le_refl _, this.1, by omega⟩⟩
set_option maxRecDepth 100000 in
set_option maxHeartbeats 4000000 in
theorem take_any {w : World} {b : Nat} {own : Nat → Prop} {st : Sb} (h : Sl0 w b own st) (hs : Small st 10000) (size : Int) :
    Calls Tryz.prog 106 #[.pointer (some ⟨b, 0, none⟩), .int .i64 size] w fun e w' => e = .returned (.tuple #[ckV (takeCk st size), .int .i64 (takeErr st size)]) ∧ ∃ own', Sl0 w' b own' (takeS st size) ∧ Gr own w w' ∧ Grew w own own' := by
  have hgood : GoodS st ∧ I64 st.bud := by obtain ⟨_, _, _, _, _, _, _, hg, hb⟩ := h; exact ⟨hg, hb⟩
  by_cases h1 : size ≤ 2048
  · have her : clsErr size = 0 := by unfold clsErr; rw [if_pos h1]
    by_cases h2 : usedS st + bytesC (clsOf size) ≤ st.bud
    · have hte : takeErr st size = 0 := by unfold takeErr; rw [if_pos h1, if_pos h2]
      have hck : takeCk st size = nextS st (clsOf size) := by unfold takeCk; rw [if_pos hte]
      have hst : takeS st size = addC st (clsOf size) (nextS st (clsOf size)) := by unfold takeS; rw [if_pos hte]
      have hG := good_take hgood.1 size
      rw [hst] at hG
      have hm : ∀ j : Nat, st.made.getD j 0 ≤ 10000 := fun j => by
        by_cases h : j < st.made.length
        · simp only [List.getD, List.getElem?_eq_getElem h, Option.getD_some]
          exact hs.made _ (List.getElem_mem h)
        · simp [List.getD, List.getElem?_eq_none (Nat.le_of_not_lt h)]
      have hok : CkOk (nextS st (clsOf size)) := by
        have hc1 := next_cls st (clsOf size)
        have hc6 := cls_lt size
        refine ⟨by rw [hc1]; unfold I64; omega, ?_⟩
        have hm2 := hm (clsOf size)
        rcases next_cases st (clsOf size) with ⟨hin, _⟩ | ⟨_, e⟩
        · obtain ⟨_, _, a3, a4⟩ := hgood.1.cls _ (List.mem_append_right _ hin)
          have hm3 := hm (nextS st (clsOf size)).1.toNat
          unfold I64
          omega
        · rw [e]
          unfold I64
          simp only
          omega
      rw [hte, hck, hst]
      refine (take_in_any h hs size rfl her ((fits0 hs size).trans (decide_eq_true ⟨h1, h2⟩)) hG hok).mono ?_
      rintro e w' ⟨he, h⟩
      refine ⟨?_, h⟩
      rw [he]
      unfold ckV
      rw [next_cls]
    · have hte : takeErr st size = 5 := by unfold takeErr; rw [if_pos h1, if_neg h2]
      have hck : takeCk st size = (0, 0) := by unfold takeCk; rw [if_neg (by rw [hte]; decide)]
      have hst : takeS st size = st := by unfold takeS; rw [if_neg (by rw [hte]; decide)]
      rw [hte, hck, hst]
      have HP := hide ((fits0 hs size).trans (decide_eq_false (fun h => h2 h.2)))
      obtain ⟨bm, D, fs, rfl, q2, q3, T, G, I⟩ := h
      have L0 := (LawF.start q2 q3).box (.cells #[.int .i64 0, .int .i64 0] 70)
      have HF := hide (fun W (h : Sl0 W b (slabP b bm D fs st).own st) => fits_any h hs size 0 ⟨by decide, by decide⟩)
      obtain ⟨c, hc⟩ : ∃ c, clsOf size = c := ⟨_, rfl⟩
      have HC := hide hc
      have HE := hide her
      have HTold := hide T
      have HG := hide G
      clear hc her hgood h2 hte hck hst q2 q3 T G
      go_enter Tryz.func106, Tryz.ntmps106
      go_upto_region 5 with (first
        | (go_at_call 88; refine (class_any size _).mono ?_; rintro e w1 ⟨he, rfl⟩; rw [HC.out, HE.out] at he; subst he)
        | (go_at_call 103; refine (HF.out _ (Sl0.of L0.right HTold.out HG.out I)).mono ?_; rintro e w2 ⟨he, hg2⟩; rw [HP.out] at he; subst he; have L1 := L0.step hg2))
      obtain ⟨x0, x1⟩ := pair_cells L1.q.1
      have r2 : w2.frozen? ⟨w.heap.size, 0, none⟩ = false := frozen_of_row _ _ _ _ _ L1.q.1
      have r3 : w2.frozen? ⟨w.heap.size, 1, none⟩ = false := frozen_of_row _ _ _ _ _ L1.q.1
      have L7 := (L1.setAt 0 (.int .i64 0)).setAt 1 (.int .i64 0)
      go_wp2
      exact tk_ret (r := w.heap.size) (x := .int .i64 0) (y := .int .i64 0) L7.q.1 rfl rfl ⟨rfl, _, Sl0.of L7.right HTold.out HG.out I, L7.gr, L7.right.grew⟩
  · have her : clsErr size = 4 := by unfold clsErr; rw [if_neg h1]
    have hte : takeErr st size = 4 := by unfold takeErr; rw [if_neg h1]
    have hck : takeCk st size = (0, 0) := by unfold takeCk; rw [if_neg (by rw [hte]; decide)]
    have hst : takeS st size = st := by unfold takeS; rw [if_neg (by rw [hte]; decide)]
    rw [hte, hck, hst]
    obtain ⟨bm, D, fs, rfl, q2, q3, T, G, I⟩ := h
    have L0 := (LawF.start q2 q3).box (.cells #[.int .i64 0, .int .i64 0] 70)
    have L7 := (L0.setAt 0 (.int .i64 0)).setAt 1 (.int .i64 0)
    obtain ⟨c, hc⟩ : ∃ c, clsOf size = c := ⟨_, rfl⟩
    have HC := hide hc
    have HE := hide her
    have HTold := hide T
    have HG := hide G
    clear hc her hgood hte hck hst q2 q3 T G
    go_enter Tryz.func106, Tryz.ntmps106
    go_wp2_with (go_at_call 88; refine (class_any size _).mono ?_; rintro e w1 ⟨he, rfl⟩; rw [HC.out, HE.out] at he; subst he)
    exact tk_ret (r := w.heap.size) (x := .int .i64 0) (y := .int .i64 0) L0.q.1 rfl rfl ⟨rfl, _, Sl0.of L0.right HTold.out HG.out I, L0.gr, L0.right.grew⟩
end Go.Proofs.YthfkcbnabnmnjabGreatDoor

namespace Go.Proofs.YthfkcbnabnmnjabGreatDoor
open Go.RowKit Go.Maps

set_option maxHeartbeats 2000000 in
theorem free_any {w : World} {b : Nat} {own : Nat → Prop} {st : Sb} (h : Sl0 w b own st) (hs : Small st 10000) (c : Ck) (hc : CkOk c) :
    Calls Tryz.prog 79 #[.pointer (some ⟨b, 0, none⟩), ckV c] w fun e w' => e = .returned (.int .i64 (freeErr st c)) ∧ ∃ own', Sl0 w' b own' (freeS st c) ∧ Gr own w w' ∧ Grew w own own' := by
  have hgood : GoodS st := by obtain ⟨_, _, _, _, _, _, _, hg, _⟩ := h; exact hg
  by_cases hin : c ∈ st.inn
  · obtain ⟨h1, h2, _⟩ := hgood.cls c (List.mem_append_left _ hin)
    obtain ⟨c1, c2⟩ := c
    obtain ⟨k, rfl⟩ := Int.eq_ofNat_of_zero_le h1
    unfold freeErr
    rw [if_pos hin]
    exact free_in_any h hs k c2 hc (by simp at h2; omega) hin
  · have e1 : freeErr st c = 1 := by unfold freeErr; rw [if_neg hin]
    have e2 : freeS st c = st := by unfold freeS; rw [if_neg hin]
    rw [e1, e2]
    obtain ⟨bm, D, fs, rfl, h2, h3, h4, h5, h6⟩ := h
    have L0 := (LawF.start h2 h3).box (.cells #[.int .i64 c.1, .int .i64 c.2] 70)
    obtain ⟨d0, d1⟩ := pair_cells L0.q.1
    have HI := hide (decide_eq_false hin)
    unfold ckV
    go_enter Tryz.func79, Tryz.ntmps79
    go_wp2_with (go_at_call 96; refine (has_any (Sl0.of L0.right h4 h5 h6) c hc).mono ?_; rintro e w1 ⟨he, hg1⟩; rw [HI.out] at he; subst he; have L1 := L0.step hg1)
    go_ret
    exact ⟨rfl, _, Sl0.of L1.right h4 h5 h6, L1.gr, L1.right.grew⟩
theorem Sl0.kept {w w' : World} {b : Nat} {own : Nat → Prop} {st : Sb} (h : Sl0 w b own st) (hs : ∀ k, own k → w'.heap[k]? = w.heap[k]?) : Sl0 w' b own st := by
  obtain ⟨bm, D, fs, rfl, h2, h3, h4, h5, h6⟩ := h
  refine ⟨bm, D, fs, rfl, (slabP b bm D fs st).on w w' h2 hs, fun k hk => ?_, h4, h5, h6⟩
  have e := hs k hk
  have hlt := h3 k hk
  rw [Array.getElem?_eq_getElem hlt] at e
  exact (Array.getElem?_eq_some_iff.1 e).1
theorem slab_lib : SlabLib Sl0 where
  lt := fun h k hk => by obtain ⟨_, _, _, _, _, h3, _⟩ := h; exact h3 k hk
  good := fun h => by obtain ⟨_, _, _, _, _, _, _, hg, hb⟩ := h; exact ⟨hg, hb⟩
  keep := fun h hs => h.kept hs
  new := fun bud hb w => (newS_any bud hb w).mono fun e w' ⟨b, own, h⟩ => ⟨b, own, h⟩
  cls := fun size _ w => (class_any size w).mono fun e w' h => ⟨h.1, by rw [h.2]; exact gr_refl _ _⟩
  bytes := fun k _ w => (bytes_any k w).mono fun e w' h => ⟨h.1, by rw [h.2]; exact gr_refl _ _⟩
  take := fun h hs size _ => take_any h hs size
  free := fun h hs c hc => free_any h hs c hc
  has := fun h _ c hc => (has_any h c hc).mono fun e w' hh => ⟨hh.1, h.kept fun k hk => hh.2.block k (by obtain ⟨_, _, _, _, _, h3, _⟩ := h; exact h3 k hk) (by simp), hh.2⟩
  fits := fun h hs size less _ hl => (fits_any h hs size less hl).mono fun e w' hh => ⟨hh.1, h.kept fun k hk => hh.2.block k (by obtain ⟨_, _, _, _, _, h3, _⟩ := h; exact h3 k hk) (by simp), hh.2⟩
end Go.Proofs.YthfkcbnabnmnjabGreatDoor
