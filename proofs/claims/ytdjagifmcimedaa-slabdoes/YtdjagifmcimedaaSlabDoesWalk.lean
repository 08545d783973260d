/- SlabDoes returns true for every budget and all calls, and writes nothing that was there. Conditions: the contracts of package slab. -/
import Derived.Test.YtdjagifmcimedaaSlabDoesS
import Derived.Test.YtdjagifmcimedaaRegionClass
import Derived.Deep.RegionWith
import Derived.Deep.RegionHeld
namespace Go.Proofs.Ytdjagifmcimedaa
open Go.RowKit
variable {Sl : World → Nat → (Nat → Prop) → Sb → Prop}

/-- One call in a block of the statement's own. -/
def opO (o : Op7) : Obj := .cells #[.int .i64 o.kd, .int .i64 o.sz, .int .i64 o.n, .bool o.raw, .int .i64 o.cls, .int .i64 o.no] 37
theorem opO_cells {w : World} {k : Nat} {o : Op7} (h : w.heap[k]? = some (opO o)) : w.cell? ⟨k, 0, none⟩ = some (.int .i64 o.kd) ∧ w.cell? ⟨k, 1, none⟩ = some (.int .i64 o.sz) ∧ w.cell? ⟨k, 2, none⟩ = some (.int .i64 o.n) ∧ w.cell? ⟨k, 3, none⟩ = some (.bool o.raw) := by
  unfold opO at h
  simp [World.cell?, h]
abbrev ckO (x y : Int) : Obj := .cells #[.int .i64 x, .int .i64 y] 35

theorem rtake_is {n0 h gm : Nat} {w : World} {st : Sb} {vi vg : Value} (R : RSl n0 w h st vi vg gm) (hG : GoodS st) (hs : Small st 9000) (hbud : I64 st.bud) (hn0 : n0 ≤ w.heap.size) (size x y e : Int) (t : Sb) (hc : takeCk st size = (x, y)) (he : takeErr st size = e) (ht : takeS st size = t) :
    Calls Try.prog 16 #[.pointer (some ⟨h, 0, none⟩), .int .i64 size] w fun en w' => en = .returned (.tuple #[.agg #[.int .i64 x, .int .i64 y], .int .i64 e]) ∧ ∃ vi' vg', RSl n0 w' h t vi' vg' gm ∧ Gr (ROwn h gm vi vg) w w' ∧ (∀ k, ROwn h gm vi' vg' k → ROwn h gm vi vg k ∨ w.heap.size ≤ k) :=
  (rtake_any R hG hs hbud hn0 size).mono fun _ _ ⟨h1, vi', vg', h2, h3, h4⟩ => ⟨by rw [h1, hc, he]; rfl, vi', vg', by rw [← ht]; exact h2, h3, h4⟩
theorem rfree_is {n0 h gm : Nat} {w : World} {st : Sb} {vi vg : Value} (R : RSl n0 w h st vi vg gm) (hG : GoodS st) (hs : Small st 9000) (hn0 : n0 ≤ w.heap.size) (x y e : Int) (t : Sb) (he : freeErr st (x, y) = e) (ht : freeS st (x, y) = t) :
    Calls Try.prog 18 #[.pointer (some ⟨h, 0, none⟩), .agg #[.int .i64 x, .int .i64 y]] w fun en w' => en = .returned (.int .i64 e) ∧ ∃ vi' vg', RSl n0 w' h t vi' vg' gm ∧ Gr (ROwn h gm vi vg) w w' ∧ (∀ k, ROwn h gm vi' vg' k → ROwn h gm vi vg k ∨ w.heap.size ≤ k) :=
  (rfree_any R hG hs hn0 x y).mono fun _ _ ⟨h1, vi', vg', h2, h3, h4⟩ => ⟨by rw [h1, he], vi', vg', by rw [← ht]; exact h2, h3, h4⟩
theorem take_budT (st : Sb) (s : Int) : (takeS st s).bud = st.bud := by
  unfold takeS
  split
  · unfold addC
    split <;> rfl
  · rfl
theorem free_budT (st : Sb) (c : Ck) : (freeS st c).bud = st.bud := by
  unfold freeS
  split <;> rfl
theorem fits_isD (L : SlabLib Sl) {w0 w : World} {b : Nat} {own : Nat → Prop} {st : Sb} {B : Nat → Prop} {Q : World → Prop} (H : LawS Sl w0 w b own st B Q) (hs : Small st 10000) (size less : Int) (hz : I64 size) (hl : I64 less) (q : Bool) (hq : fitsS st size less = q) :
    Calls Try.prog 21 #[.pointer (some ⟨b, 0, none⟩), .int .i64 size, .int .i64 less] w fun en w' => en = .returned (.bool q) ∧ LawS Sl w0 w' b own st B Q :=
  (L.fits H.sl hs size less hz hl).mono fun _ _ ⟨h1, _, h3⟩ => ⟨by rw [h1, hq], H.step L h3⟩

set_option maxRecDepth 100000 in
set_option maxHeartbeats 4000000 in
theorem slabDoes_in (L : SlabLib Sl) (bud : Int) (hbud : I64 bud) {w : World} {a : Option Addr} {len cap : Nat} {os : List Op7} (h : OpsAt w a len cap os) (hlen : len ≤ 200) :
    Calls Try.prog 4 #[.int .i64 bud, .slice a len cap] w fun e w' => e = .returned (.bool true) ∧ Below w.heap.size w w' := by
  have hl := h.len_
  have hli : (len : Int) ≤ 200 := by omega
  obtain ⟨i0, hi, hz0, hz1, hz2⟩ := info_parts info_chunk
  have hB : Below w.heap.size w w := Below.refl _ _
  go_enter Try.func4, Try.ntmps4
  go_wp2_with (first
    | (go_at_call 8; refine (awake_any L _).mono ?_; rintro e w1 ⟨rfl, hb⟩; replace hB := Bt hB hb; clear hb)
    | (go_at_call 13; refine (new_is L bud hbud hB).mono ?_; clear hB; rintro e w2 ⟨b, own, rfl, H⟩)
    | (go_at_call 14; refine (rnew07_any bud w.heap.size _ H.below.size).mono ?_; rintro e w3 ⟨hh, gm, rfl, hR, hfar, hg⟩))
  have HD : DoesS Sl w w3 b own (freshS bud) hh gm (freshS bud) (.slice none 0 0) (.slice none 0 0) (.slice none 0 0) [] [] := by
    have S := H.step L hg
    refine ⟨⟨S.sl, S.own0, S.below, ⟨hR, World.ownsRow_nil _ _ _ _, (fun p hp => by cases hp)⟩, DQ.on, ?_⟩, (fun k hk => by simp [Value.ownBlock] at hk), (fun p hp => by cases hp), (fun p hp => by cases hp)⟩
    rintro k (hk | hk | ⟨p, hp, _⟩)
    · exact ⟨hR.lt k hk, fun ho => Nat.not_lt_of_le (hfar k hk) (L.lt H.sl k ho)⟩
    · simp [Value.ownBlock] at hk
    · cases hp
  clear H hR hfar hg
  go_loopw [8, 9] (fun v i wr => ∃ (k : Nat) (own : Nat → Prop) (st : Sb) (vi vg : Value) (hl : List Ck), k ≤ len ∧ i = .int .i64 k ∧ Small st k ∧ st.bud = bud ∧ hl.length ≤ k ∧ Hid (∀ c ∈ hl, CkOk c) ∧ DoesS Sl w wr b own st hh gm st vi vg v hl []) (fun _ i _ => len - (intOf i).toNat)
  case atStart => exact ⟨0, own, freshS bud, _, _, [], Nat.zero_le _, rfl, small_fresh bud, rfl, Nat.le_refl _, fun c hc => (List.not_mem_nil hc).elim, HD⟩
  case round =>
    clear HD
    obtain ⟨k, own, st, vi, vg, hd, hk, rfl, hsm, hbd, hdl, HOK, H⟩ := hrel
    by_cases hlt : k < len
    · obtain ⟨ca, off, rfl, hcell, hok⟩ := h.at k (by omega)
      have hcq := hcell.on (Nat.le_refl _) H.law.below
      have q0 := hcq.kd
      have q1 := hcq.sz
      have q2 := hcq.n
      have q3 := hcq.raw
      have q4 := hcq.cls
      have q5 := hcq.no
      clear hcq hcell
      generalize os[k] = o at *
      obtain ⟨pv, cv, rfl⟩ := own_shape H.row
      have H1 := (H.box L (opO o)).box L (ckO o.cls o.no)
      rw [World.size_alloc] at H1
      generalize hO : (wr.alloc (opO o)).alloc (ckO o.cls o.no) = W at *
      unfold opO ckO at hO
      obtain ⟨cd, hcd⟩ : ∃ cd : Bool, decide (o.raw = false ∧ 0 ≤ o.n ∧ 0 < hd.length) = cd := ⟨_, rfl⟩
      go_upto_region 12 with fail
      clear hO
      have hdi : (hd.length : Int) ≤ 200 := by omega
      go_cut [62] from 50 to 62 (fun q wx => q = .bool cd ∧ DoesS Sl w wx b own st hh gm st vi vg (.slice pv hd.length cv) hd [(wr.heap.size + 1, ckO o.cls o.no), (wr.heap.size, opO o)])
      case first =>
        obtain ⟨o0, o1, o2, o3⟩ := opO_cells (k := wr.heap.size) (H1.law.q.2.2 (wr.heap.size, opO o) (by simp))
        by_cases e1 : o.raw = false
        · rw [e1] at o3
          by_cases e2 : 0 ≤ o.n
          · by_cases e3 : 0 < hd.length
            · have e3i : (0 : Int) < (hd.length : Int) := by omega
              obtain rfl : true = cd := by rw [← hcd]; exact (decide_eq_true ⟨e1, e2, e3⟩).symm
              clear e1 hcd
              go_wp2_with fail
              go_meet
              exact ⟨by simp, H1⟩
            · obtain rfl : false = cd := by rw [← hcd]; exact (decide_eq_false fun x => e3 x.2.2).symm
              have e3n : ¬ (0 : Int) < (hd.length : Int) := by omega
              clear e1 hcd
              go_wp2_with fail
              go_meet
              exact ⟨by simp, H1⟩
          · obtain rfl : false = cd := by rw [← hcd]; exact (decide_eq_false fun x => e2 x.2.1).symm
            have e2n : o.n < 0 := by omega
            clear e1 hcd e2
            go_wp2_with fail
            go_meet
            exact ⟨by simp, H1⟩
        · have e1t : o.raw = true := by cases hr : o.raw <;> simp_all
          rw [e1t] at o3
          obtain rfl : false = cd := by rw [← hcd]; exact (decide_eq_false fun x => e1 x.1).symm
          clear e1 e1t hcd
          go_wp2_with fail
          go_meet
          exact ⟨by simp, H1⟩
      case rest =>
        clear H1 H q0 q1 q2 q3 q4 q5
        obtain ⟨rfl, H⟩ := hcut
        go_upto_if 62 with fail
        go_cut [] from 63 to 70 (fun wx => ∃ x y : Int, Hid (CkOk (x, y)) ∧ DoesS Sl w wx b own st hh gm st vi vg (.slice pv hd.length cv) hd [(wr.heap.size + 1, ckO x y), (wr.heap.size, opO o)])
        case first =>
          cases cd with
          | false =>
            go_wp2_with fail
            go_meet
            exact ⟨o.cls, o.no, ⟨hok.cls, hok.no⟩, H⟩
          | true =>
            obtain ⟨-, e2, e3⟩ := of_decide_eq_true hcd
            clear hcd
            have e3i : (0 : Int) < (hd.length : Int) := by omega
            obtain ⟨g, cv', e4⟩ := own_form H.row e3
            cases e4
            obtain ⟨kk, hkk⟩ : ∃ kk : Nat, o.n.tmod (hd.length : Int) = (kk : Int) := ⟨(o.n.tmod (hd.length : Int)).toNat, by have := Int.tmod_nonneg (hd.length : Int) e2; omega⟩
            have hkn : kk < hd.length := by have := Int.tmod_lt_of_pos o.n (show (0 : Int) < (hd.length : Int) by omega); omega
            obtain ⟨⟨x, y⟩, hxy⟩ : ∃ c, hd[kk] = c := ⟨_, rfl⟩
            have HX : Hid (CkOk (x, y)) := by show CkOk (x, y); rw [← hxy]; exact HOK.out _ (List.getElem_mem hkn)
            obtain ⟨c0, c1⟩ := chunk_cells H.row kk hkn
            rw [hxy] at c0 c1
            obtain ⟨o0, o1, o2, o3⟩ := opO_cells (k := wr.heap.size) (H.law.q.2.2 (wr.heap.size, opO o) (by simp))
            have hbx := H.law.q.2.2 (wr.heap.size + 1, ckO o.cls o.no) (by simp)
            obtain ⟨b0, b1⟩ := cells2 (k := wr.heap.size + 1) hbx
            have b2 := frozen_of_row _ (wr.heap.size + 1) 0 _ _ hbx
            have b3 := frozen_of_row _ (wr.heap.size + 1) 1 _ _ hbx
            have H2 := H.set L (x := .int .i64 x) (y := .int .i64 y) (fun p hp => by simp at hp; rw [hp]; simp)
            clear hxy hbx
            have K1 := hide H2
            clear H2
            go_wp2_with fail
            go_meet
            exact ⟨x, y, HX, K1.out⟩
        case rest =>
          clear H
          obtain ⟨x, y, HX, H⟩ := hcut
          obtain ⟨o0, o1, o2, o3⟩ := opO_cells (k := wr.heap.size) (H.law.q.2.2 (wr.heap.size, opO o) (by simp))
          have hgood := (L.good H.law.sl).1
          have hsm2 : Small st 10000 := small_mono hsm (by omega)
          have hsm9 : Small st 9000 := small_mono hsm (by omega)
          have hb64 : I64 st.bud := by rw [hbd]; exact hbud
          go_upto_block 2 with fail
          go_cut [8, 12, 13, 14, 15, 16] from 71 to 133 (fun v q _a _b _c _d wx => q = .bool true ∧ ∃ (own : Nat → Prop) (st : Sb) (vi vg : Value) (hl : List Ck), Small st (k + 1) ∧ st.bud = bud ∧ hl.length ≤ k + 1 ∧ Hid (∀ c ∈ hl, CkOk c) ∧ DoesS Sl w wx b own st hh gm st vi vg v hl [(wr.heap.size + 1, ckO x y)])
          case first =>
            by_cases k0 : o.kd = 0
            · have k0b : (o.kd == 0) = true := beq_iff_eq.2 k0
              clear k0
              have hzi := hok.sz
              have hs1 := small_take hsm o.sz
              obtain ⟨⟨u, v⟩, hc⟩ : ∃ c, takeCk st o.sz = c := ⟨_, rfl⟩
              obtain ⟨er, he⟩ : ∃ e, takeErr st o.sz = e := ⟨_, rfl⟩
              obtain ⟨t, ht⟩ : ∃ t, takeS st o.sz = t := ⟨_, rfl⟩
              have hbt : t.bud = bud := by rw [← ht, take_budT]; exact hbd
              have HUV : Hid (CkOk (u, v)) := by show CkOk (u, v); rw [← hc]; exact take_ok hgood hsm2 _
              rw [ht] at hs1
              have HC := hide hc
              have HE := hide he
              have HT := hide ht
              clear hc he ht
              go_wp2_with (first
                | (go_at_call 15; refine (take_is L H.law hsm2 o.sz hzi u v er t HC.out HE.out HT.out).mono ?_; rintro e w5 ⟨rfl, own5, H5⟩; replace H := (H.to H5).box L (ckO u v); clear H5; have p0 := opO_cells (k := wr.heap.size) (H.law.q.2.2 (wr.heap.size, opO o) (by simp)); obtain ⟨o4, o5, o6, o7⟩ := p0)
                | (go_at_call 16; refine (rtake_is H.ref hgood hsm9 hb64 H.law.below.size o.sz u v er t HC.out HE.out HT.out).mono ?_; rintro e w6 ⟨rfl, vi6, vg6, hR6, hG6, hO6⟩; replace H := (H.turn L hR6 hG6 hO6).box L (ckO u v); have p1 := cells2 (k := w5.heap.size) (H.law.q.2.2 (w5.heap.size, ckO u v) (by simp)); obtain ⟨a0, a1⟩ := p1; have HRow := hide H.row)
                | (at_builtin; refine wpList_append_own_at _ rfl _ _ 33 rfl w.heap.size 35 i0 (.agg #[.int .i64 0, .int .i64 0]) 2 16 Try.underlying33 hi hz0 hz1 hz2 rfl (by decide) _ _ _ rfl (HRow.out.alloc _) ⟨_, 0, none⟩ 1 1 [_, _] rfl rfl (cell_two_more _ _ _ _ _) (by simp [Value.oneCell']) (by unfold maxLen; omega) (by omega) (hbase2 H.law.below.size) ?_; intro v' w7 hown' hgrow _ hat; have H7 := H.app L u v hown' hgrow hat))
              go_meet
              refine ⟨by simp, own5, t, vi6, vg6, hd ++ [(u, v)], hs1, hbt, by rw [List.length_append]; exact Nat.succ_le_succ hdl, fun d hd2 => ?_, H7.less _ (fun p hp => by simp at hp; rw [hp]; simp)⟩
              rcases List.mem_append.1 hd2 with e | e
              · exact HOK.out d e
              · rw [List.mem_singleton.1 e]; exact HUV.out
            · have k0b : (o.kd == 0) = false := beq_eq_false_iff_ne.2 k0
              obtain ⟨c0, c1⟩ := cells2 (k := wr.heap.size + 1) (H.law.q.2.2 (wr.heap.size + 1, ckO x y) (by simp))
              have hxi := HX.out.1
              have hyi := HX.out.2
              have Hd := H.step L (show wc.grownBy wc.drew none from ⟨rfl, rfl, rfl, Nat.le_refl _, fun _ _ _ => rfl⟩)
              have keepx : ∀ p ∈ [(wr.heap.size + 1, ckO x y)], p ∈ [(wr.heap.size + 1, ckO x y), (wr.heap.size, opO o)] := fun p hp => by simp at hp; rw [hp]; simp
              by_cases k1 : o.kd = 1
              · have k1b : (o.kd == 1) = true := beq_iff_eq.2 k1
                clear k0 k1
                have hs1 := small_free hsm (x, y)
                obtain ⟨er, he⟩ : ∃ e, freeErr st (x, y) = e := ⟨_, rfl⟩
                obtain ⟨t, ht⟩ : ∃ t, freeS st (x, y) = t := ⟨_, rfl⟩
                have hbt : t.bud = bud := by rw [← ht, free_budT]; exact hbd
                rw [ht] at hs1
                have HE := hide he
                have HT := hide ht
                clear he ht
                go_upto_region 22 with fail
                go_region_held (fun w' => w'.cell? ⟨wr.heap.size + 1, 0, none⟩ = some (.int .i64 x) ∧ w'.cell? ⟨wr.heap.size + 1, 1, none⟩ = some (.int .i64 y)) (first | exact ⟨c4, c5⟩ | exact ⟨c2, c3⟩ | exact ⟨c0, c1⟩) ((first
                  | (go_at_call 17; refine (free_is L Hd.law hsm2 x y hxi hyi er t HE.out HT.out).mono ?_; rintro e w5 ⟨rfl, own5, H5⟩; have H6 := Hd.to H5; have p2 := cells2 (k := wr.heap.size + 1) (H6.law.q.2.2 (wr.heap.size + 1, ckO x y) (by simp)); obtain ⟨c2, c3⟩ := p2)
                  | (go_at_call 18; refine (rfree_is H6.ref hgood hsm9 H6.law.below.size x y er t HE.out HT.out).mono ?_; rintro e w6 ⟨rfl, vi6, vg6, hR6, hG6, hO6⟩; have H7 := H6.turn L hR6 hG6 hO6; have p3 := cells2 (k := wr.heap.size + 1) (H7.law.q.2.2 (wr.heap.size + 1, ckO x y) (by simp)); obtain ⟨c4, c5⟩ := p3)))
                all_goals
                  go_wp2_with fail
                  go_meet
                  exact ⟨by simp, own5, t, vi6, vg6, hd, hs1, hbt, Nat.le_succ_of_le hdl, HOK, H7.less _ keepx⟩
              · have k1b : (o.kd == 1) = false := beq_eq_false_iff_ne.2 k1
                by_cases k2 : o.kd = 2
                · have k2b : (o.kd == 2) = true := beq_iff_eq.2 k2
                  clear k0 k1 k2
                  obtain ⟨q, hq⟩ : ∃ q, decide ((x, y) ∈ st.inn) = q := ⟨_, rfl⟩
                  have HQ := hide hq
                  clear hq
                  go_upto_region 24 with fail
                  refine region_class (C := fun w' => DoesS Sl w w' b own st hh gm st vi vg (.slice pv hd.length cv) hd [(wr.heap.size + 1, ckO x y), (wr.heap.size, opO o)]) 4 (by kernel_rfl) (by kernel_rfl) Hd ?_
                  iterate 1 (gi_big_quiet_step ((intro _; rfl)))
                  refine class_step (a' := ?fr1) (.agg #[.int .i64 x, .int .i64 y]) rfl ?val1 ?put1 ?next1
                  case val1 =>
                    intro w' hC
                    obtain ⟨c2, c3⟩ := cells2 (k := wr.heap.size + 1) (hC.law.q.2.2 (wr.heap.size + 1, ckO x y) (by simp))
                    go_simp
                  case put1 => simp only [Act.put, List.setIfInBounds_toArray, List.set_cons_succ, List.set_cons_zero]; rfl
                  refine class_step (a' := ?fr2) (.bool q) rfl ?val2 ?put2 ?next2
                  case val2 =>
                    intro w' hC
                    go_simp
                    exact callsIn_wide.2 ((has_is L hC.law hsm2 x y hxi hyi q HQ.out).mono fun _ _ h => ⟨h.1, hC.to h.2⟩)
                  case put2 => simp only [Act.put, List.setIfInBounds_toArray, List.set_cons_succ, List.set_cons_zero]; rfl
                  iterate 1 (gi_big_quiet_step ((intro _; rfl)))
                  refine class_step (a' := ?fr3) (.agg #[.int .i64 x, .int .i64 y]) rfl ?val3 ?put3 ?next3
                  case val3 =>
                    intro w' hC
                    obtain ⟨c2, c3⟩ := cells2 (k := wr.heap.size + 1) (hC.law.q.2.2 (wr.heap.size + 1, ckO x y) (by simp))
                    go_simp
                  case put3 => simp only [Act.put, List.setIfInBounds_toArray, List.set_cons_succ, List.set_cons_zero]; rfl
                  refine class_step (a' := ?fr4) (.bool q) rfl ?val4 ?put4 ?next4
                  case val4 =>
                    intro w' hC
                    go_simp
                    exact callsIn_wide.2 ((rhas_any hC.ref hsm2 x y).mono fun _ _ h => ⟨by rw [h.1, HQ.out], hC.step L h.2⟩)
                  case put4 => simp only [Act.put, List.setIfInBounds_toArray, List.set_cons_succ, List.set_cons_zero]; rfl
                  iterate 2 (gi_big_quiet_step ((intro _; rfl)))
                  refine wpQuietIn_nil ?_
                  intro w' H7
                  go_wp2_with fail
                  go_meet
                  exact ⟨by simp, own, st, vi, vg, hd, small_mono hsm (Nat.le_succ _), hbd, Nat.le_succ_of_le hdl, HOK, H7.less _ keepx⟩
                · have k2b : (o.kd == 2) = false := beq_eq_false_iff_ne.2 k2
                  by_cases k3 : o.kd = 3
                  · have k3b : (o.kd == 3) = true := beq_iff_eq.2 k3
                    clear k0 k1 k2 k3
                    obtain ⟨q, hq⟩ : ∃ q, fitsS st o.sz o.n = q := ⟨_, rfl⟩
                    have HQ := hide hq
                    clear hq
                    have hzi := hok.sz
                    have hni := hok.n
                    go_upto_region 26 with fail
                    refine region_class (C := fun w' => DoesS Sl w w' b own st hh gm st vi vg (.slice pv hd.length cv) hd [(wr.heap.size + 1, ckO x y), (wr.heap.size, opO o)]) 4 (by kernel_rfl) (by kernel_rfl) Hd ?_
                    iterate 2 (gi_big_quiet_step ((intro _; rfl)))
                    refine class_step (a' := ?fr5) (.int .i64 o.sz) rfl ?val5 ?put5 ?next5
                    case val5 =>
                      intro w' hC
                      obtain ⟨o4, o5, o6, o7⟩ := opO_cells (k := wr.heap.size) (hC.law.q.2.2 (wr.heap.size, opO o) (by simp))
                      go_simp
                    case put5 => simp only [Act.put, List.setIfInBounds_toArray, List.set_cons_succ, List.set_cons_zero]; rfl
                    iterate 1 (gi_big_quiet_step ((intro _; rfl)))
                    refine class_step (a' := ?fr6) (.int .i64 o.n) rfl ?val6 ?put6 ?next6
                    case val6 =>
                      intro w' hC
                      obtain ⟨o4, o5, o6, o7⟩ := opO_cells (k := wr.heap.size) (hC.law.q.2.2 (wr.heap.size, opO o) (by simp))
                      go_simp
                    case put6 => simp only [Act.put, List.setIfInBounds_toArray, List.set_cons_succ, List.set_cons_zero]; rfl
                    refine class_step (a' := ?fr7) (.bool q) rfl ?val7 ?put7 ?next7
                    case val7 =>
                      intro w' hC
                      go_simp
                      exact callsIn_wide.2 ((fits_isD L hC.law hsm2 o.sz o.n hzi hni q HQ.out).mono fun _ _ h => ⟨h.1, hC.to h.2⟩)
                    case put7 => simp only [Act.put, List.setIfInBounds_toArray, List.set_cons_succ, List.set_cons_zero]; rfl
                    iterate 2 (gi_big_quiet_step ((intro _; rfl)))
                    refine class_step (a' := ?fr8) (.int .i64 o.sz) rfl ?val8 ?put8 ?next8
                    case val8 =>
                      intro w' hC
                      obtain ⟨o4, o5, o6, o7⟩ := opO_cells (k := wr.heap.size) (hC.law.q.2.2 (wr.heap.size, opO o) (by simp))
                      go_simp
                    case put8 => simp only [Act.put, List.setIfInBounds_toArray, List.set_cons_succ, List.set_cons_zero]; rfl
                    iterate 1 (gi_big_quiet_step ((intro _; rfl)))
                    refine class_step (a' := ?fr9) (.int .i64 o.n) rfl ?val9 ?put9 ?next9
                    case val9 =>
                      intro w' hC
                      obtain ⟨o4, o5, o6, o7⟩ := opO_cells (k := wr.heap.size) (hC.law.q.2.2 (wr.heap.size, opO o) (by simp))
                      go_simp
                    case put9 => simp only [Act.put, List.setIfInBounds_toArray, List.set_cons_succ, List.set_cons_zero]; rfl
                    refine class_step (a' := ?fr10) (.bool q) rfl ?val10 ?put10 ?next10
                    case val10 =>
                      intro w' hC
                      go_simp
                      exact callsIn_wide.2 ((rfits_any hC.ref hsm9 hb64 o.sz o.n hni).mono fun _ _ ⟨h1, d, h2⟩ => ⟨by rw [h1, HQ.out], by rw [h2]; exact hC.step L ⟨rfl, rfl, rfl, Nat.le_refl _, fun _ _ _ => rfl⟩⟩)
                    case put10 => simp only [Act.put, List.setIfInBounds_toArray, List.set_cons_succ, List.set_cons_zero]; rfl
                    iterate 2 (gi_big_quiet_step ((intro _; rfl)))
                    refine wpQuietIn_nil ?_
                    intro w' H7
                    go_wp2_with fail
                    go_meet
                    exact ⟨by simp, own, st, vi, vg, hd, small_mono hsm (Nat.le_succ _), hbd, Nat.le_succ_of_le hdl, HOK, H7.less _ keepx⟩
                  · have k3b : (o.kd == 3) = false := beq_eq_false_iff_ne.2 k3
                    clear k0 k1 k2 k3
                    go_wp2_with fail
                    go_meet
                    exact ⟨by simp, own, st, vi, vg, hd, small_mono hsm (Nat.le_succ _), hbd, Nat.le_succ_of_le hdl, HOK, H.less _ keepx⟩
          case rest =>
            clear H hsm hbd hdl hgood hsm2 hsm9 hb64 HOK o0 o1 o2 o3
            obtain ⟨rfl, own2, st2, vi2, vg2, hd2, hsm, hbd, hdl, HOK, H⟩ := hcut
            have hsm2 : Small st2 10000 := small_mono hsm (by omega)
            have hxi := HX.out.1
            have hyi := HX.out.2
            have Hd := H.step L (show wc.grownBy wc.drew none from ⟨rfl, rfl, rfl, Nat.le_refl _, fun _ _ _ => rfl⟩)
            obtain ⟨q, hq⟩ : ∃ q, decide ((x, y) ∈ st2.inn) = q := ⟨_, rfl⟩
            obtain ⟨n, hn⟩ : ∃ n, usedS st2 = n := ⟨_, rfl⟩
            have HQ := hide hq
            have HN := hide hn
            clear hq hn
            go_upto_region 27 with fail
            go_cut [151] from 134 to 151 (fun q wx => q = .bool false ∧ DoesS Sl w wx b own2 st2 hh gm st2 vi2 vg2 u8 hd2 [(wr.heap.size + 1, ckO x y)])
            case first =>
              refine region_class (C := fun w' => DoesS Sl w w' b own2 st2 hh gm st2 vi2 vg2 u8 hd2 [(wr.heap.size + 1, ckO x y)]) 4 (by kernel_rfl) (by kernel_rfl) Hd ?_
              iterate 4 (gi_big_quiet_step ((intro _; rfl)))
              refine class_step (a' := ?fr101) (.int .i64 n) rfl ?val101 ?put101 ?next101
              case val101 =>
                intro w' hC
                go_simp
                exact callsIn_wide.2 ((used_is L hC.law hsm2 n HN.out).mono fun _ _ h => ⟨h.1, hC.to h.2⟩)
              case put101 => simp only [Act.put, List.setIfInBounds_toArray, List.set_cons_succ, List.set_cons_zero]; rfl
              iterate 1 (gi_big_quiet_step ((intro _; rfl)))
              refine class_step (a' := ?fr102) (.int .i64 n) rfl ?val102 ?put102 ?next102
              case val102 =>
                intro w' hC
                go_simp
                exact callsIn_wide.2 ((rused_any hC.ref hsm2).mono fun _ _ h => ⟨by rw [h.1, HN.out], by rw [← h.2]; exact hC⟩)
              case put102 => simp only [Act.put, List.setIfInBounds_toArray, List.set_cons_succ, List.set_cons_zero]; rfl
              iterate 4 (gi_big_quiet_step ((intro _; rfl)))
              refine class_step (a' := ?fr103) (.agg #[.int .i64 x, .int .i64 y]) rfl ?val103 ?put103 ?next103
              case val103 =>
                intro w' hC
                obtain ⟨c2, c3⟩ := cells2 (k := wr.heap.size + 1) (hC.law.q.2.2 (wr.heap.size + 1, ckO x y) (by simp))
                go_simp
              case put103 => simp only [Act.put, List.setIfInBounds_toArray, List.set_cons_succ, List.set_cons_zero]; rfl
              refine class_step (a' := ?fr104) (.bool q) rfl ?val104 ?put104 ?next104
              case val104 =>
                intro w' hC
                go_simp
                exact callsIn_wide.2 ((has_is L hC.law hsm2 x y hxi hyi q HQ.out).mono fun _ _ h => ⟨h.1, hC.to h.2⟩)
              case put104 => simp only [Act.put, List.setIfInBounds_toArray, List.set_cons_succ, List.set_cons_zero]; rfl
              iterate 1 (gi_big_quiet_step ((intro _; rfl)))
              refine class_step (a' := ?fr105) (.agg #[.int .i64 x, .int .i64 y]) rfl ?val105 ?put105 ?next105
              case val105 =>
                intro w' hC
                obtain ⟨c2, c3⟩ := cells2 (k := wr.heap.size + 1) (hC.law.q.2.2 (wr.heap.size + 1, ckO x y) (by simp))
                go_simp
              case put105 => simp only [Act.put, List.setIfInBounds_toArray, List.set_cons_succ, List.set_cons_zero]; rfl
              refine class_step (a' := ?fr106) (.bool q) rfl ?val106 ?put106 ?next106
              case val106 =>
                intro w' hC
                go_simp
                exact callsIn_wide.2 ((rhas_any hC.ref hsm2 x y).mono fun _ _ h => ⟨by rw [h.1, HQ.out], hC.step L h.2⟩)
              case put106 => simp only [Act.put, List.setIfInBounds_toArray, List.set_cons_succ, List.set_cons_zero]; rfl
              iterate 2 (gi_big_quiet_step ((intro _; rfl)))
              refine wpQuietIn_nil ?_
              intro w' H7
              go_wp2_with fail
              go_meet
              exact ⟨by simp, H7⟩
            case rest =>
              obtain ⟨rfl, H7⟩ := hcut
              clear Hd H
              go_wp2
              go_roundw
              case rel => exact ⟨k + 1, own2, st2, vi2, vg2, hd2, by omega, by go_num, hsm, hbd, hdl, HOK, H7.less [] (fun p hp => by cases hp)⟩
              case measure => simp [intOf]; omega
    · have hB := H.law.below
      go_wp2
      go_ret
      exact ⟨rfl, hB⟩
set_option maxRecDepth 100000 in
set_option maxHeartbeats 2000000 in
theorem slabDoes_out (L : SlabLib Sl) (bud : Int) (hbud : I64 bud) {w : World} {a : Option Addr} {len cap : Nat} (hlen : ¬ len ≤ 200) :
    Calls Try.prog 4 #[.int .i64 bud, .slice a len cap] w fun e w' => e = .returned (.bool true) ∧ Below w.heap.size w w' := by
  have hB : Below w.heap.size w w := Below.refl _ _
  have hli : (200 : Int) < (len : Int) := by omega
  clear hlen
  go_enter Try.func4, Try.ntmps4
  go_wp2_with (first
    | (go_at_call 8; refine (awake_any L _).mono ?_; rintro e w1 ⟨rfl, hb⟩; replace hB := Bt hB hb; clear hb)
    | (go_at_call 13; refine (new_is L bud hbud hB).mono ?_; clear hB; rintro e w2 ⟨b, own, rfl, H⟩; have hB := H.below))
  go_ret
  exact ⟨rfl, hB⟩
theorem slabDoes_walk (L : SlabLib Sl) (W : World) (a0 : Int) (w0 : (Lit.int .i64 a0).wf = true) (a1 : Option Addr) (len1 cap1 : Nat) (z1 : List Op7) (w1 : OpsAt W a1 len1 cap1 z1) :
    Calls Try.prog 4 #[.int .i64 a0, .slice a1 len1 cap1] W fun e W' => e = .returned (.bool true) ∧ Below W.heap.size W W' := by
  by_cases h : len1 ≤ 200
  · exact slabDoes_in L a0 (i64_wf w0) w1 h
  · exact slabDoes_out L a0 (i64_wf w0) h
end Go.Proofs.Ytdjagifmcimedaa
