/- The document's own shard: the search for room. Conditions: at most 900 stores, keys of at most 300 bytes. -/
import Derived.Test.YtckjjfkfapfdaaaGreatG42Joined
import Derived.Shelf.SlSortCmp.QuietGrown
namespace Go.Proofs.YtckjjfkfapfdaaaGreat
open Go.RowKit Go.Shelf

section
variable {w0 w : World} {r sd n : Nat} {P : Rp} {st : Hs} {R : Part}
/-- What the search keeps in mind. -/
def RoomR (w0 : World) (r sd n : Nat) (R : Part) (st : Hs) (i : Iv) (had : Option Ent) (en : En) (j : Nat) (s : Hs) (Q : Rp) (wr : World) : Prop :=
  j + s.ents.length ≤ st.ents.length ∧ GoodH n s ∧ s.slab.bud = st.slab.bud ∧ findE i.key s.ents = had ∧ roomH sd i had en s = roomH sd i had en st ∧ RefAt w0 wr r sd Q s R
theorem less_any (had : Option Ent) : I64 (lessH had) := by
  unfold I64 lessH
  cases had with
  | none => dsimp only; omega
  | some e =>
    dsimp only
    have h1 := bytes_nonneg e.2.1
    have h2 := bytes_le e.2.1
    omega
theorem re_item {e : Re} {j : Nat} {u : Value} (h : (itC e.t.it).toList[j]? = some u) : e.cells[j]? = some u := by
  unfold Re.cells
  rw [List.getElem?_append_left (List.getElem?_eq_some_iff.1 h).1]
  exact h
/-- What the search reads. -/
abbrev S2 (r op b : Nat) (key : ByteArray) (w : World) : Prop := w.cell? ⟨r, 2, none⟩ = some (.pointer (some ⟨op, 0, none⟩)) ∧ w.cell? ⟨b, 0, none⟩ = some (.string key)
abbrev S3 (r jp b : Nat) (key : ByteArray) (w : World) : Prop := w.cell? ⟨r, 3, none⟩ = some (.pointer (some ⟨jp, 0, none⟩)) ∧ w.cell? ⟨b, 0, none⟩ = some (.string key)
abbrev S5 (r g m N cap b : Nat) (v : Iv) (a : Option Addr) (c : Nat) (en : En) (w : World) : Prop := w.cell? ⟨r, 0, none⟩ = some (.slice (some ⟨g, 0, none⟩) N cap) ∧ HasM g (m * 12) v a c w ∧ w.cell? ⟨b, 0, none⟩ = some (.int .i64 en.now) ∧ w.cell? ⟨b, 1, none⟩ = some (.int .u64 en.seq) ∧ w.cell? ⟨b, 2, none⟩ = some (.int .i64 en.flush) ∧ w.cell? ⟨b, 3, none⟩ = some (.int .u64 en.fseq)
theorem RefAt.s5 (H : RefAt w0 w r sd P st R) {N cap g m : Nat} (hN : P.es.length = N) (hv : P.vL = .slice (some ⟨g, 0, none⟩) N cap) {e : Re} (he : P.es[m]? = some e) {b : Nat} {en : En} {t : TypeId} (hb : w.heap[b]? = some (.cells (enC en) t (0, 0))) : S5 r g m N cap b e.t.iv e.t.a e.t.c en w := by
  obtain ⟨g', e', hcs⟩ := H.reAt hN hv he
  cases e'
  obtain ⟨e0, e1, e2, e3⟩ := en_cells hb
  exact ⟨by rw [← hv]; exact H.cells.1, hasM_of fun j u hu => hcs j u (re_item hu), e0, e1, e2, e3⟩
theorem RefAt.s2 {A : Part} {b : Nat} {i : It} {t : TypeId} (H : RefAt w0 w r sd P st (A.and ((boxP b (.cells (itC i) t)).and R))) : S2 r P.op b i.key w := ⟨H.cells.2.2.1, (it_cells H.boxAt2).1⟩
theorem RefAt.s3 {A : Part} {b : Nat} {i : It} {t : TypeId} (H : RefAt w0 w r sd P st (A.and ((boxP b (.cells (itC i) t)).and R))) : S3 r P.jp b i.key w := ⟨H.cells.2.2.2.1, (it_cells H.boxAt2).1⟩
/-- The class of the chunk of one of them. -/
theorem RefAt.cls (H : RefAt w0 w r sd P st R) {N cap g m : Nat} (hN : P.es.length = N) (hv : P.vL = .slice (some ⟨g, 0, none⟩) N cap) {e : Re} (he : P.es[m]? = some e) : w.cell? ⟨g, m * 12 + 10, none⟩ = some (.int .i64 e.ck.1) := by
  obtain ⟨g', e', hcs⟩ := H.reAt hN hv he
  cases e'
  exact hcs 10 _ rfl
set_option maxRecDepth 100000 in
set_option maxHeartbeats 8000000 in
theorem rroom_any (H : RefAt w0 w r sd P st R) (hg : GoodH n st) (hn : n ≤ 900) (hbud : I64 st.slab.bud) (i : Iv) (hi : i.ok) (a : Option Addr) (c : Nat) (en : En) (had : Option Ent) (hh : findE i.key st.ents = had) (x : Int) (t : Hs) (hx : (roomH sd i had en st).1 = x) (ht : (roomH sd i had en st).2 = t) :
    Calls Tryz.prog 63 #[.pointer (some ⟨r, 0, none⟩), .agg (itC (itOf i a c)), .agg (enC en)] w fun e w' => e = .returned (.int .i64 x) ∧ ∃ P', RefAt w0 w' r sd P' t R := by
  have H1 := (H.box (.cells (itC (itOf i a c)) 34)).box (.cells (enC en) 36)
  rw [World.size_alloc] at H1
  clear H
  have hk3 : (itOf i a c).key.size ≤ 100000 := Nat.le_trans hi.key (by decide)
  have hv3 : (itOf i a c).vl ≤ 100000 := Nat.le_trans hi.val (by decide)
  have SZ : Hid (50 + ((itOf i a c).key.size : Nat) + ((itOf i a c).vl : Nat) = sizeI i) := rfl
  have hRT : roomH sd i had en st = (x, t) := by rw [← hx, ← ht]
  have HRT := hide hRT
  have hlen9 : st.ents.length ≤ 900 := by have := hg.len.1; omega
  have hik := hi.key
  clear hx ht hRT
  go_enter Tryz.func63, Tryz.ntmps63
  go_wp2_with (first
    | (refine wpList_load_row rfl 34 _ rfl w.heap.size rfl _ (itC (itOf i a c)) _ _ H1.boxAt2 Tryz.underlying34 rfl (item_size _) ?_)
    | (go_at_call 61; refine (refSize_any _ _ hk3 hv3).mono ?_; rintro e w1 ⟨rfl, hgr⟩; have H2 := H1.step hgr.grown; clear H1 hgr; rw [SZ.out]))
  go_loopw [8, 9, 10, 11, 12, 13, 14, 15, 16, 17, 18] (fun nn x9 x10 x11 x12 x13 x14 x15 x16 x17 x18 wr => ∃ (j : Nat) (s : Hs) (Q : Rp), nn = .int .i64 j ∧ RoomR w0 r sd n ((boxP (w.heap.size + 1) (.cells (enC en) 36)).and ((boxP w.heap.size (.cells (itC (itOf i a c)) 34)).and R)) st i had en j s Q wr) (fun nn _ _ _ _ _ _ _ _ _ _ _ => 1000 - (intOf nn).toNat)
  case atStart => exact ⟨0, st, P, rfl, by omega, hg, rfl, hh, rfl, H2⟩
  case round =>
    clear H2 hg
    obtain ⟨j, s, Q, rfl, hj, hg, hb, hf, hR, H⟩ := hrel
    have hji : (j : Int) < 100000 := by omega
    rw [← hb] at hbud
    obtain ⟨mk, hmk⟩ : ∃ mk, posE i.key s.ents = mk := ⟨_, rfl⟩
    have hl1 : (allR s.ord).length ≤ 1000 := by have := hg.len; omega
    have hl64 := less_any had
    have ki : wr.cell? ⟨w.heap.size, 0, none⟩ = some (.string i.key) := (it_cells H.boxAt2).1
    rw [HRT.out] at hR
    cases had with
    | none =>
      have HQ : Hid (hasH s i.key = false) := by show hasH s i.key = false; unfold hasH; rw [hf]; rfl
      rcases room_cases hg sd i none en with ⟨hft, hr⟩ | ⟨hft, ⟨hvc, hr⟩ | ⟨v, ev, hvc, hfe, hvk, hvs, hdis⟩⟩
      · rw [hr] at hR
        have HF := hide hft
        have HX0 := hide (congrArg Prod.fst hR)
        have HT0 := hide (congrArg Prod.snd hR)
        clear hft hr hR
        go_wp2_with (first
          | (go_at_call 64; refine (rat_any H hg hn i.key _ HQ.out mk hmk).mono ?_; rintro e w2 ⟨rfl, hgr⟩; have H2 := H.step hgr; clear H hgr ki; have k1 : w2.cell? ⟨r, 1, none⟩ = some (.pointer (some ⟨Q.sp, 0, none⟩)) := H2.cells.2.1)
          | (go_at_call 94; refine (rfits_any H2.slab (hg.slabSmall hn) hbud (sizeI i) (lessH (none)) hl64).mono ?_; rintro e w4 ⟨rfl, d, rfl⟩; rw [HF.out]; have H4 := H2.drewN d; clear H2 k1))
        go_ret
        exact ⟨by cases (show (0 : Int) = x from HX0.out); rfl, Q, by rw [← HT0.out]; exact H4.less.less⟩
      · rw [hr] at hR
        have HF := hide hft
        have HX0 := hide (congrArg Prod.fst hR)
        have HT0 := hide (congrArg Prod.snd hR)
        have HV1 : Hid ((vicR s.ord i.key).getD ⟨#[]⟩ = ⟨#[]⟩) := by show (vicR s.ord i.key).getD ⟨#[]⟩ = ⟨#[]⟩; rw [hvc]; rfl
        have HV2 : Hid ((vicR s.ord i.key).isSome = false) := by show (vicR s.ord i.key).isSome = false; rw [hvc]; rfl
        clear hft hr hR hvc
        go_upto_region 12 with (first
          | (go_at_call 64; refine (rat_any H hg hn i.key _ HQ.out mk hmk).mono ?_; rintro e w2 ⟨rfl, hgr⟩; have H2 := H.step hgr; clear H hgr ki; have k1 : w2.cell? ⟨r, 1, none⟩ = some (.pointer (some ⟨Q.sp, 0, none⟩)) := H2.cells.2.1)
          | (go_at_call 94; refine (rfits_any H2.slab (hg.slabSmall hn) hbud (sizeI i) (lessH (none)) hl64).mono ?_; rintro e w4 ⟨rfl, d, rfl⟩; rw [HF.out]; have H5 := (H2.drewN d).drew; clear H2 k1; have c1 := hide H5.s2))
        go_region_held (S2 r Q.op w.heap.size i.key) (first | exact c2 | exact c1.out) ((go_at_call 95; refine (rvic_is H5.listOut hl1 i.key _ _ HV1.out HV2.out).mono ?_; rintro e w6 ⟨rfl, N6⟩; have H6 : RefAt w0 w6 r sd Q s _ := RefAt.listBack H5.ents N6; have c2 : S2 r Q.op w.heap.size i.key w6 := H6.s2; clear N6))
        clear c1 c2 H5
        go_wp2
        go_ret
        exact ⟨by cases (show (5 : Int) = x from HX0.out); rfl, Q, by rw [← HT0.out]; exact H6.less.less⟩
      · have HF := hide hft
        have HV1 : Hid ((vicR s.ord i.key).getD ⟨#[]⟩ = v) := by show (vicR s.ord i.key).getD ⟨#[]⟩ = v; rw [hvc]; rfl
        have HV2 : Hid ((vicR s.ord i.key).isSome = true) := by show (vicR s.ord i.key).isSome = true; rw [hvc]; rfl
        obtain ⟨mv, hmv⟩ : ∃ mv, posE v s.ents = mv := ⟨_, rfl⟩
        have hpv := pos_find hg.rise hfe
        rw [hmv] at hpv
        obtain ⟨xv, hxv, hxvy⟩ := H.get hpv
        obtain ⟨N, hN⟩ : ∃ N, Q.es.length = N := ⟨_, rfl⟩
        have HN := hide hN
        obtain ⟨pv, capv, hvv, hcv1, hcv2⟩ := H.slice HN.out
        unfold maxLen at hcv2
        obtain ⟨gv, rfl, -⟩ := H.reAt HN.out hvv hxv
        have hmvN : mv < N := by rw [← HN.out]; exact (List.getElem?_eq_some_iff.1 hxv).1
        have hmvi : (mv : Int) < (N : Int) := by omega
        have HVL2 := hide hvv
        have HXv := hide hxv
        have HQv : Hid (hasH s v = true) := by show hasH s v = true; unfold hasH; rw [hfe]; rfl
        have hlve : liveN xv.t.it.exp xv.t.it.sec xv.t.it.seq en = liveI ev.1 en := by show liveI xv.ent.1 en = _; rw [hxvy]
        have HAD : Hid (decide (worthJ sd s.jd v.data.toList < worthJ sd s.jd i.key.data.toList) = admH sd s i.key v) := rfl
        have GD := hide (goodH_drop hg hfe)
        have HBD : Hid ((dropH s v).slab.bud = st.slab.bud) := by show (dropH s v).slab.bud = _; rw [drop_found hfe]; exact (free_bud _ _).trans hb
        have HFD : Hid (findE i.key (dropH s v).ents = none) := by show findE i.key (dropH s v).ents = _; rw [find_drop_other hg hfe (fun e => hvk e.symm)]; exact hf
        clear hN hvv hxv hpv hvc hft hxvy hfe
        rcases hdis with ⟨hlv, _, had0, hr⟩ | ⟨hdis, hr⟩
        · rw [hlv] at hlve
          rw [had0] at HAD
          rw [hr] at hR
          have HLV := hide hlve
          have HX0 := hide (congrArg Prod.fst hR)
          have HT0 := hide (congrArg Prod.snd hR)
          clear hlve hr hR hlv had0
          go_upto_region 12 with (first
            | (go_at_call 64; refine (rat_any H hg hn i.key _ HQ.out mk hmk).mono ?_; rintro e w2 ⟨rfl, hgr⟩; have H2 := H.step hgr; clear H hgr ki; have k1 : w2.cell? ⟨r, 1, none⟩ = some (.pointer (some ⟨Q.sp, 0, none⟩)) := H2.cells.2.1)
            | (go_at_call 94; refine (rfits_any H2.slab (hg.slabSmall hn) hbud (sizeI i) (lessH (none)) hl64).mono ?_; rintro e w4 ⟨rfl, d, rfl⟩; rw [HF.out]; have H5 := (H2.drewN d).drew; clear H2 k1; have c1 := hide H5.s2))
          go_region_held (S2 r Q.op w.heap.size i.key) (first | exact c2 | exact c1.out) ((go_at_call 95; refine (rvic_is H5.listOut hl1 i.key _ _ HV1.out HV2.out).mono ?_; rintro e w6 ⟨rfl, N6⟩; have H6 : RefAt w0 w6 r sd Q s _ := RefAt.listBack H5.ents N6; have c2 : S2 r Q.op w.heap.size i.key w6 := H6.s2; clear N6))
          clear c1 c2 H5
          go_upto_region 16 with (go_at_call 64; refine (rat_any H6 hg hn v _ HQv.out mv hmv).mono ?_; rintro e w7 ⟨rfl, hgr⟩; have H7 := (H6.step hgr).drew; clear H6 hgr; have c3 := hide (H7.s5 HN.out HVL2.out HXv.out H7.boxAt))
          go_region_held (S5 r gv mv N capv (w.heap.size + 1) xv.t.iv xv.t.a xv.t.c en) (first | exact c4 | exact c3.out) ((go_at_call 68; refine (refLive_any xv.t.it en _).mono ?_; rintro e w8 ⟨rfl, hgr⟩; have H8 := H7.step hgr.grown; have c4 : S5 r gv mv N capv (w.heap.size + 1) xv.t.iv xv.t.a xv.t.c en w8 := H8.s5 HN.out HVL2.out HXv.out H8.boxAt; clear hgr; rw [HLV.out]))
          have H9 := H8.drew
          have c5 := hide H9.s3
          clear c3 c4 H7
          go_upto_region 17 with fail
          go_region_held (S3 r Q.jp w.heap.size i.key) (first | exact c6 | exact c5.out) ((go_at_call 96; refine (rjadmit_any H9.judge hg.jdG i.key v (Nat.le_trans hik (by decide)) (Nat.le_trans hvs (by decide))).mono ?_; rintro e w10 ⟨rfl, d2, rfl⟩; have c6 : S3 r Q.jp w.heap.size i.key _ := (H9.drewN d2).s3; rw [HAD.out]))
          have H10 := H8.drewN (1 + d2)
          clear c5 c6 H9 H8
          go_wp2
          go_ret
          exact ⟨by cases (show (8 : Int) = x from HX0.out); rfl, Q, by rw [← HT0.out]; exact H10.less.less⟩
        · have HRD : Hid (roomH sd i none en (dropH s v) = roomH sd i none en st) := by show _ = _; rw [← hr, hR, HRT.out]
          cases hlv : liveI ev.1 en with
          | false =>
            rw [hlv] at hlve
            have HLV := hide hlve
            obtain ⟨ad, hadv⟩ : ∃ ad, admH sd s i.key v = ad := ⟨_, rfl⟩
            rw [hadv] at HAD
            clear hlve hr hR hlv hdis hadv
            go_upto_region 12 with (first
              | (go_at_call 64; refine (rat_any H hg hn i.key _ HQ.out mk hmk).mono ?_; rintro e w2 ⟨rfl, hgr⟩; have H2 := H.step hgr; clear H hgr ki; have k1 : w2.cell? ⟨r, 1, none⟩ = some (.pointer (some ⟨Q.sp, 0, none⟩)) := H2.cells.2.1)
              | (go_at_call 94; refine (rfits_any H2.slab (hg.slabSmall hn) hbud (sizeI i) (lessH (none)) hl64).mono ?_; rintro e w4 ⟨rfl, d, rfl⟩; rw [HF.out]; have H5 := (H2.drewN d).drew; clear H2 k1; have c1 := hide H5.s2))
            go_region_held (S2 r Q.op w.heap.size i.key) (first | exact c2 | exact c1.out) ((go_at_call 95; refine (rvic_is H5.listOut hl1 i.key _ _ HV1.out HV2.out).mono ?_; rintro e w6 ⟨rfl, N6⟩; have H6 : RefAt w0 w6 r sd Q s _ := RefAt.listBack H5.ents N6; have c2 : S2 r Q.op w.heap.size i.key w6 := H6.s2; clear N6))
            clear c1 c2 H5
            go_upto_region 16 with (go_at_call 64; refine (rat_any H6 hg hn v _ HQv.out mv hmv).mono ?_; rintro e w7 ⟨rfl, hgr⟩; have H7 := (H6.step hgr).drew; clear H6 hgr; have c3 := hide (H7.s5 HN.out HVL2.out HXv.out H7.boxAt))
            go_region_held (S5 r gv mv N capv (w.heap.size + 1) xv.t.iv xv.t.a xv.t.c en) (first | exact c4 | exact c3.out) ((go_at_call 68; refine (refLive_any xv.t.it en _).mono ?_; rintro e w8 ⟨rfl, hgr⟩; have H8 := H7.step hgr.grown; have c4 : S5 r gv mv N capv (w.heap.size + 1) xv.t.iv xv.t.a xv.t.c en w8 := H8.s5 HN.out HVL2.out HXv.out H8.boxAt; clear hgr; rw [HLV.out]))
            have H9 := H8.drew
            have c5 := hide H9.s3
            clear c3 c4 H7
            go_upto_region 17 with fail
            go_region_held (S3 r Q.jp w.heap.size i.key) (first | exact c6 | exact c5.out) ((go_at_call 96; refine (rjadmit_any H9.judge hg.jdG i.key v (Nat.le_trans hik (by decide)) (Nat.le_trans hvs (by decide))).mono ?_; rintro e w10 ⟨rfl, d2, rfl⟩; have c6 : S3 r Q.jp w.heap.size i.key _ := (H9.drewN d2).s3; rw [HAD.out]))
            have H10 := H8.drewN (1 + d2)
            clear c5 c6 H9 H8
            go_wp2_with (go_at_call 69; refine (rdrop_any H10 hg hn v _ rfl).mono ?_; rintro e w11 ⟨⟨v11, rfl⟩, Q2, H11⟩; clear H10)
            go_roundw
            case rel => exact ⟨j + 1, dropH s v, Q2, by go_num, by have := GD.out.2.1; omega, GD.out.1, HBD.out, HFD.out, HRD.out, H11⟩
            case measure => simp [intOf]; omega
          | true =>
            rw [hlv] at hlve
            have HLV := hide hlve
            have hadt : admH sd s i.key v = true := by rcases hdis with h | h | h; (rw [hlv] at h; cases h); exact absurd rfl h; exact h
            rw [hadt] at HAD
            clear hlve hr hR hlv hdis hadt
            go_upto_region 12 with (first
              | (go_at_call 64; refine (rat_any H hg hn i.key _ HQ.out mk hmk).mono ?_; rintro e w2 ⟨rfl, hgr⟩; have H2 := H.step hgr; clear H hgr ki; have k1 : w2.cell? ⟨r, 1, none⟩ = some (.pointer (some ⟨Q.sp, 0, none⟩)) := H2.cells.2.1)
              | (go_at_call 94; refine (rfits_any H2.slab (hg.slabSmall hn) hbud (sizeI i) (lessH (none)) hl64).mono ?_; rintro e w4 ⟨rfl, d, rfl⟩; rw [HF.out]; have H5 := (H2.drewN d).drew; clear H2 k1; have c1 := hide H5.s2))
            go_region_held (S2 r Q.op w.heap.size i.key) (first | exact c2 | exact c1.out) ((go_at_call 95; refine (rvic_is H5.listOut hl1 i.key _ _ HV1.out HV2.out).mono ?_; rintro e w6 ⟨rfl, N6⟩; have H6 : RefAt w0 w6 r sd Q s _ := RefAt.listBack H5.ents N6; have c2 : S2 r Q.op w.heap.size i.key w6 := H6.s2; clear N6))
            clear c1 c2 H5
            go_upto_region 16 with (go_at_call 64; refine (rat_any H6 hg hn v _ HQv.out mv hmv).mono ?_; rintro e w7 ⟨rfl, hgr⟩; have H7 := (H6.step hgr).drew; clear H6 hgr; have c3 := hide (H7.s5 HN.out HVL2.out HXv.out H7.boxAt))
            go_region_held (S5 r gv mv N capv (w.heap.size + 1) xv.t.iv xv.t.a xv.t.c en) (first | exact c4 | exact c3.out) ((go_at_call 68; refine (refLive_any xv.t.it en _).mono ?_; rintro e w8 ⟨rfl, hgr⟩; have H8 := H7.step hgr.grown; have c4 : S5 r gv mv N capv (w.heap.size + 1) xv.t.iv xv.t.a xv.t.c en w8 := H8.s5 HN.out HVL2.out HXv.out H8.boxAt; clear hgr; rw [HLV.out]))
            have H9 := H8.drew
            have c5 := hide H9.s3
            clear c3 c4 H7
            go_upto_region 17 with fail
            go_region_held (S3 r Q.jp w.heap.size i.key) (first | exact c6 | exact c5.out) ((go_at_call 96; refine (rjadmit_any H9.judge hg.jdG i.key v (Nat.le_trans hik (by decide)) (Nat.le_trans hvs (by decide))).mono ?_; rintro e w10 ⟨rfl, d2, rfl⟩; have c6 : S3 r Q.jp w.heap.size i.key _ := (H9.drewN d2).s3; rw [HAD.out]))
            have H10 := H8.drewN (1 + d2)
            clear c5 c6 H9 H8
            go_wp2_with (go_at_call 69; refine (rdrop_any H10 hg hn v _ rfl).mono ?_; rintro e w11 ⟨⟨v11, rfl⟩, Q2, H11⟩; clear H10)
            go_roundw
            case rel => exact ⟨j + 1, dropH s v, Q2, by go_num, by have := GD.out.2.1; omega, GD.out.1, HBD.out, HFD.out, HRD.out, H11⟩
            case measure => simp [intOf]; omega
    | some y =>
      obtain ⟨N, hN⟩ : ∃ N, Q.es.length = N := ⟨_, rfl⟩
      have hp := pos_find hg.rise hf
      rw [hmk] at hp
      obtain ⟨xe, hxe, hxy⟩ := H.get hp
      obtain ⟨pa, cap, hv, hc1, hc2⟩ := H.slice hN
      unfold maxLen at hc2
      obtain ⟨g, rfl, -⟩ := H.reAt hN hv hxe
      have hmkN : mk < N := by rw [← hN]; exact (List.getElem?_eq_some_iff.1 hxe).1
      have hmki : (mk : Int) < (N : Int) := by omega
      have HXC : Hid (xe.ck = y.2) := by show xe.ck = y.2; rw [← hxy]; rfl
      have HN := hide hN
      have HVL := hide hv
      have HX := hide hxe
      have HQ : Hid (hasH s i.key = true) := by show hasH s i.key = true; unfold hasH; rw [hf]; rfl
      clear hN hv hxe hxy hp
      rcases room_cases hg sd i (some y) en with ⟨hft, hr⟩ | ⟨hft, ⟨hvc, hr⟩ | ⟨v, ev, hvc, hfe, hvk, hvs, hdis⟩⟩
      · rw [hr] at hR
        have HF := hide hft
        have HX0 := hide (congrArg Prod.fst hR)
        have HT0 := hide (congrArg Prod.snd hR)
        clear hft hr hR
        go_wp2_with (first
          | (go_at_call 64; refine (rat_any H hg hn i.key _ HQ.out mk hmk).mono ?_; rintro e w2 ⟨rfl, hgr⟩; have H2 := H.step hgr; clear H hgr ki; have k1 : w2.cell? ⟨r, 1, none⟩ = some (.pointer (some ⟨Q.sp, 0, none⟩)) := H2.cells.2.1; have k0 : w2.cell? ⟨r, 0, none⟩ = some (.slice (some ⟨g, 0, none⟩) N cap) := (by rw [← HVL.out]; exact H2.cells.1); have kc : w2.cell? ⟨g, mk * 12 + 10, none⟩ = some (.int .i64 y.2.1) := (by have := H2.cls HN.out HVL.out HX.out; rw [HXC.out] at this; exact this))
          | (go_at_call 44; refine (rbytes_any _ _).mono ?_; rintro e w3 ⟨rfl, rfl⟩)
          | (go_at_call 94; refine (rfits_any H2.slab (hg.slabSmall hn) hbud (sizeI i) (lessH (some y)) hl64).mono ?_; rintro e w4 ⟨rfl, d, rfl⟩; rw [HF.out]; have H4 := H2.drewN d; clear H2 k1))
        go_ret
        exact ⟨by cases (show (0 : Int) = x from HX0.out); rfl, Q, by rw [← HT0.out]; exact H4.less.less⟩
      · rw [hr] at hR
        have HF := hide hft
        have HX0 := hide (congrArg Prod.fst hR)
        have HT0 := hide (congrArg Prod.snd hR)
        have HV1 : Hid ((vicR s.ord i.key).getD ⟨#[]⟩ = ⟨#[]⟩) := by show (vicR s.ord i.key).getD ⟨#[]⟩ = ⟨#[]⟩; rw [hvc]; rfl
        have HV2 : Hid ((vicR s.ord i.key).isSome = false) := by show (vicR s.ord i.key).isSome = false; rw [hvc]; rfl
        clear hft hr hR hvc
        go_upto_region 12 with (first
          | (go_at_call 64; refine (rat_any H hg hn i.key _ HQ.out mk hmk).mono ?_; rintro e w2 ⟨rfl, hgr⟩; have H2 := H.step hgr; clear H hgr ki; have k1 : w2.cell? ⟨r, 1, none⟩ = some (.pointer (some ⟨Q.sp, 0, none⟩)) := H2.cells.2.1; have k0 : w2.cell? ⟨r, 0, none⟩ = some (.slice (some ⟨g, 0, none⟩) N cap) := (by rw [← HVL.out]; exact H2.cells.1); have kc : w2.cell? ⟨g, mk * 12 + 10, none⟩ = some (.int .i64 y.2.1) := (by have := H2.cls HN.out HVL.out HX.out; rw [HXC.out] at this; exact this))
          | (go_at_call 44; refine (rbytes_any _ _).mono ?_; rintro e w3 ⟨rfl, rfl⟩)
          | (go_at_call 94; refine (rfits_any H2.slab (hg.slabSmall hn) hbud (sizeI i) (lessH (some y)) hl64).mono ?_; rintro e w4 ⟨rfl, d, rfl⟩; rw [HF.out]; have H5 := (H2.drewN d).drew; clear H2 k1; have c1 := hide H5.s2))
        go_region_held (S2 r Q.op w.heap.size i.key) (first | exact c2 | exact c1.out) ((go_at_call 95; refine (rvic_is H5.listOut hl1 i.key _ _ HV1.out HV2.out).mono ?_; rintro e w6 ⟨rfl, N6⟩; have H6 : RefAt w0 w6 r sd Q s _ := RefAt.listBack H5.ents N6; have c2 : S2 r Q.op w.heap.size i.key w6 := H6.s2; clear N6))
        clear c1 c2 H5
        go_wp2
        go_ret
        exact ⟨by cases (show (5 : Int) = x from HX0.out); rfl, Q, by rw [← HT0.out]; exact H6.less.less⟩
      · have HF := hide hft
        have HV1 : Hid ((vicR s.ord i.key).getD ⟨#[]⟩ = v) := by show (vicR s.ord i.key).getD ⟨#[]⟩ = v; rw [hvc]; rfl
        have HV2 : Hid ((vicR s.ord i.key).isSome = true) := by show (vicR s.ord i.key).isSome = true; rw [hvc]; rfl
        obtain ⟨mv, hmv⟩ : ∃ mv, posE v s.ents = mv := ⟨_, rfl⟩
        have hpv := pos_find hg.rise hfe
        rw [hmv] at hpv
        obtain ⟨xv, hxv, hxvy⟩ := H.get hpv
        obtain ⟨pv, capv, hvv, hcv1, hcv2⟩ := H.slice HN.out
        unfold maxLen at hcv2
        obtain ⟨gv, rfl, -⟩ := H.reAt HN.out hvv hxv
        have hmvN : mv < N := by rw [← HN.out]; exact (List.getElem?_eq_some_iff.1 hxv).1
        have hmvi : (mv : Int) < (N : Int) := by omega
        have HVL2 := hide hvv
        have HXv := hide hxv
        have HQv : Hid (hasH s v = true) := by show hasH s v = true; unfold hasH; rw [hfe]; rfl
        have hlve : liveN xv.t.it.exp xv.t.it.sec xv.t.it.seq en = liveI ev.1 en := by show liveI xv.ent.1 en = _; rw [hxvy]
        have HAD : Hid (decide (worthJ sd s.jd v.data.toList < worthJ sd s.jd i.key.data.toList) = admH sd s i.key v) := rfl
        have GD := hide (goodH_drop hg hfe)
        have HBD : Hid ((dropH s v).slab.bud = st.slab.bud) := by show (dropH s v).slab.bud = _; rw [drop_found hfe]; exact (free_bud _ _).trans hb
        have HFD : Hid (findE i.key (dropH s v).ents = (some y)) := by show findE i.key (dropH s v).ents = _; rw [find_drop_other hg hfe (fun e => hvk e.symm)]; exact hf
        clear hvv hxv hpv hvc hft hxvy hfe
        rcases hdis with ⟨_, hno, _, _⟩ | ⟨_, hr⟩
        · cases hno
        · have HRD : Hid (roomH sd i (some y) en (dropH s v) = roomH sd i (some y) en st) := by show _ = _; rw [← hr, hR, HRT.out]
          obtain ⟨ad, hadv⟩ : ∃ ad, admH sd s i.key v = ad := ⟨_, rfl⟩
          rw [hadv] at HAD
          cases hlv : liveI ev.1 en with
          | false =>
            rw [hlv] at hlve
            have HLV := hide hlve
            clear hlve hr hR hlv hadv
            go_upto_region 12 with (first
              | (go_at_call 64; refine (rat_any H hg hn i.key _ HQ.out mk hmk).mono ?_; rintro e w2 ⟨rfl, hgr⟩; have H2 := H.step hgr; clear H hgr ki; have k1 : w2.cell? ⟨r, 1, none⟩ = some (.pointer (some ⟨Q.sp, 0, none⟩)) := H2.cells.2.1; have k0 : w2.cell? ⟨r, 0, none⟩ = some (.slice (some ⟨g, 0, none⟩) N cap) := (by rw [← HVL.out]; exact H2.cells.1); have kc : w2.cell? ⟨g, mk * 12 + 10, none⟩ = some (.int .i64 y.2.1) := (by have := H2.cls HN.out HVL.out HX.out; rw [HXC.out] at this; exact this))
              | (go_at_call 44; refine (rbytes_any _ _).mono ?_; rintro e w3 ⟨rfl, rfl⟩)
              | (go_at_call 94; refine (rfits_any H2.slab (hg.slabSmall hn) hbud (sizeI i) (lessH (some y)) hl64).mono ?_; rintro e w4 ⟨rfl, d, rfl⟩; rw [HF.out]; have H5 := (H2.drewN d).drew; clear H2 k1; have c1 := hide H5.s2))
            go_region_held (S2 r Q.op w.heap.size i.key) (first | exact c2 | exact c1.out) ((go_at_call 95; refine (rvic_is H5.listOut hl1 i.key _ _ HV1.out HV2.out).mono ?_; rintro e w6 ⟨rfl, N6⟩; have H6 : RefAt w0 w6 r sd Q s _ := RefAt.listBack H5.ents N6; have c2 : S2 r Q.op w.heap.size i.key w6 := H6.s2; clear N6))
            clear c1 c2 H5
            go_upto_region 16 with (go_at_call 64; refine (rat_any H6 hg hn v _ HQv.out mv hmv).mono ?_; rintro e w7 ⟨rfl, hgr⟩; have H7 := (H6.step hgr).drew; clear H6 hgr; have c3 := hide (H7.s5 HN.out HVL2.out HXv.out H7.boxAt))
            go_region_held (S5 r gv mv N capv (w.heap.size + 1) xv.t.iv xv.t.a xv.t.c en) (first | exact c4 | exact c3.out) ((go_at_call 68; refine (refLive_any xv.t.it en _).mono ?_; rintro e w8 ⟨rfl, hgr⟩; have H8 := H7.step hgr.grown; have c4 : S5 r gv mv N capv (w.heap.size + 1) xv.t.iv xv.t.a xv.t.c en w8 := H8.s5 HN.out HVL2.out HXv.out H8.boxAt; clear hgr; rw [HLV.out]))
            have H9 := H8.drew
            have c5 := hide H9.s3
            clear c3 c4 H7
            go_upto_region 17 with fail
            go_region_held (S3 r Q.jp w.heap.size i.key) (first | exact c6 | exact c5.out) ((go_at_call 96; refine (rjadmit_any H9.judge hg.jdG i.key v (Nat.le_trans hik (by decide)) (Nat.le_trans hvs (by decide))).mono ?_; rintro e w10 ⟨rfl, d2, rfl⟩; have c6 : S3 r Q.jp w.heap.size i.key _ := (H9.drewN d2).s3; rw [HAD.out]))
            have H10 := H8.drewN (1 + d2)
            clear c5 c6 H9 H8
            go_wp2_with (go_at_call 69; refine (rdrop_any H10 hg hn v _ rfl).mono ?_; rintro e w11 ⟨⟨v11, rfl⟩, Q2, H11⟩; clear H10)
            go_roundw
            case rel => exact ⟨j + 1, dropH s v, Q2, by go_num, by have := GD.out.2.1; omega, GD.out.1, HBD.out, HFD.out, HRD.out, H11⟩
            case measure => simp [intOf]; omega
          | true =>
            rw [hlv] at hlve
            have HLV := hide hlve
            clear hlve hr hR hlv hadv
            go_upto_region 12 with (first
              | (go_at_call 64; refine (rat_any H hg hn i.key _ HQ.out mk hmk).mono ?_; rintro e w2 ⟨rfl, hgr⟩; have H2 := H.step hgr; clear H hgr ki; have k1 : w2.cell? ⟨r, 1, none⟩ = some (.pointer (some ⟨Q.sp, 0, none⟩)) := H2.cells.2.1; have k0 : w2.cell? ⟨r, 0, none⟩ = some (.slice (some ⟨g, 0, none⟩) N cap) := (by rw [← HVL.out]; exact H2.cells.1); have kc : w2.cell? ⟨g, mk * 12 + 10, none⟩ = some (.int .i64 y.2.1) := (by have := H2.cls HN.out HVL.out HX.out; rw [HXC.out] at this; exact this))
              | (go_at_call 44; refine (rbytes_any _ _).mono ?_; rintro e w3 ⟨rfl, rfl⟩)
              | (go_at_call 94; refine (rfits_any H2.slab (hg.slabSmall hn) hbud (sizeI i) (lessH (some y)) hl64).mono ?_; rintro e w4 ⟨rfl, d, rfl⟩; rw [HF.out]; have H5 := (H2.drewN d).drew; clear H2 k1; have c1 := hide H5.s2))
            go_region_held (S2 r Q.op w.heap.size i.key) (first | exact c2 | exact c1.out) ((go_at_call 95; refine (rvic_is H5.listOut hl1 i.key _ _ HV1.out HV2.out).mono ?_; rintro e w6 ⟨rfl, N6⟩; have H6 : RefAt w0 w6 r sd Q s _ := RefAt.listBack H5.ents N6; have c2 : S2 r Q.op w.heap.size i.key w6 := H6.s2; clear N6))
            clear c1 c2 H5
            go_upto_region 16 with (go_at_call 64; refine (rat_any H6 hg hn v _ HQv.out mv hmv).mono ?_; rintro e w7 ⟨rfl, hgr⟩; have H7 := (H6.step hgr).drew; clear H6 hgr; have c3 := hide (H7.s5 HN.out HVL2.out HXv.out H7.boxAt))
            go_region_held (S5 r gv mv N capv (w.heap.size + 1) xv.t.iv xv.t.a xv.t.c en) (first | exact c4 | exact c3.out) ((go_at_call 68; refine (refLive_any xv.t.it en _).mono ?_; rintro e w8 ⟨rfl, hgr⟩; have H8 := H7.step hgr.grown; have c4 : S5 r gv mv N capv (w.heap.size + 1) xv.t.iv xv.t.a xv.t.c en w8 := H8.s5 HN.out HVL2.out HXv.out H8.boxAt; clear hgr; rw [HLV.out]))
            have H9 := H8.drew
            have c5 := hide H9.s3
            clear c3 c4 H7
            go_upto_region 17 with fail
            go_region_held (S3 r Q.jp w.heap.size i.key) (first | exact c6 | exact c5.out) ((go_at_call 96; refine (rjadmit_any H9.judge hg.jdG i.key v (Nat.le_trans hik (by decide)) (Nat.le_trans hvs (by decide))).mono ?_; rintro e w10 ⟨rfl, d2, rfl⟩; have c6 : S3 r Q.jp w.heap.size i.key _ := (H9.drewN d2).s3; rw [HAD.out]))
            have H10 := H8.drewN (1 + d2)
            clear c5 c6 H9 H8
            go_wp2_with (go_at_call 69; refine (rdrop_any H10 hg hn v _ rfl).mono ?_; rintro e w11 ⟨⟨v11, rfl⟩, Q2, H11⟩; clear H10)
            go_roundw
            case rel => exact ⟨j + 1, dropH s v, Q2, by go_num, by have := GD.out.2.1; omega, GD.out.1, HBD.out, HFD.out, HRD.out, H11⟩
            case measure => simp [intOf]; omega
end
end Go.Proofs.YtckjjfkfapfdaaaGreat
