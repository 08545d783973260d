/- The document's own shard: the search for room. Conditions: at most 900 stores, keys of at most 300 bytes. -/
import Derived.Test.YtkfeafmpaodagaaGreatDoorG32Joined
import Derived.Shelf.SlSortCmp.QuietGrown
namespace Go.Proofs.YtkfeafmpaodagaaGreatDoor
set_option maxHeartbeats 16000000
open Go.RowKit Go.Shelf
section
variable {w0 w : World} {r sd n : Nat} {P : Rp} {st : Hs} {R : jAd}
def RoomR (w0 : World) (r sd n : Nat) (R : jAd) (st : Hs) (i : Iv) (had : Option Ent) (en : En) (j : Nat) (s : Hs) (Q : Rp) (wr : World) : Prop :=
 j + s.ents.length ≤ st.ents.length ∧ jAo n s ∧ s.slab.bud = st.slab.bud ∧ jA0 i.key s.ents = had ∧ jAz sd i had en s = jAz sd i had en st ∧ jAc w0 wr r sd Q s R
theorem kK7 (had : Option Ent) : I64 (jD0 had):=by
 unfold I64 jD0
 cases had with
 | none => dsimp only;omega
 | some e =>
  dsimp only
  have h1:=jDk e.2.1
  have h2:=jGr e.2.1
  omega
theorem kOl {e : Re} {j : Nat} {u : Value} (h : (itC e.t.it).toList[j]? = some u) : e.cells[j]? = some u:=by
 unfold Re.cells
 rw [List.getElem?_append_left (List.getElem?_eq_some_iff.1 h).1]
 exact h
abbrev S2 (r op b : Nat) (key : ByteArray) (w : World) : Prop:=w.cell? ⟨r,2,none⟩ = some (.pointer (some ⟨op,0,none⟩)) ∧ w.cell? ⟨b,0,none⟩ = some (.string key)
abbrev S3 (r jp b : Nat) (key : ByteArray) (w : World) : Prop:=w.cell? ⟨r,3,none⟩ = some (.pointer (some ⟨jp,0,none⟩)) ∧ w.cell? ⟨b,0,none⟩ = some (.string key)
abbrev S5 (r g m N cap b : Nat) (v : Iv) (a : Option Addr) (c : Nat) (en : En) (w : World) : Prop:=w.cell? ⟨r,0,none⟩ = some (.slice (some ⟨g,0,none⟩) N cap) ∧ HasM g (m * 12) v a c w ∧ w.cell? ⟨b,0,none⟩ = some (.int .i64 en.now) ∧ w.cell? ⟨b,1,none⟩ = some (.int .u64 en.seq) ∧ w.cell? ⟨b,2,none⟩ = some (.int .i64 en.flush) ∧ w.cell? ⟨b,3,none⟩ = some (.int .u64 en.fseq)
theorem jAc.s5 (H : jAc w0 w r sd P st R) {N cap g m : Nat} (hN : P.es.length = N) (hv : P.vL = .slice (some ⟨g,0,none⟩) N cap) {e : Re} (he : P.es[m]? = some e) {b : Nat} {en : En} {t : TypeId} (hb : w.heap[b]? = some (.cells (enC en) t (0,0))) : S5 r g m N cap b e.t.iv e.t.a e.t.c en w:=by
 obtain ⟨g',e',hcs⟩:=H.reAt hN hv he
 cases e'
 obtain ⟨e0,e1,e2,e3⟩:=jBx hb
 exact ⟨by rw [← hv];exact H.cells.1,kOy fun j u hu => hcs j u (kOl hu),e0,e1,e2,e3⟩
theorem jAc.s2 {A : jAd} {b : Nat} {i : It} {t : TypeId} (H : jAc w0 w r sd P st (A.and ((jAn b (.cells (itC i) t)).and R))) : S2 r P.op b i.key w:=⟨H.cells.2.2.1,(jAk H.boxAt2).1⟩
theorem jAc.s3 {A : jAd} {b : Nat} {i : It} {t : TypeId} (H : jAc w0 w r sd P st (A.and ((jAn b (.cells (itC i) t)).and R))) : S3 r P.jp b i.key w:=⟨H.cells.2.2.2.1,(jAk H.boxAt2).1⟩
theorem jAc.cls (H : jAc w0 w r sd P st R) {N cap g m : Nat} (hN : P.es.length = N) (hv : P.vL = .slice (some ⟨g,0,none⟩) N cap) {e : Re} (he : P.es[m]? = some e) : w.cell? ⟨g,m * 12 + 10,none⟩ = some (.int .i64 e.ck.1):=by
 obtain ⟨g',e',hcs⟩:=H.reAt hN hv he
 cases e'
 exact hcs 10 _ rfl
set_option maxRecDepth 100000 in
theorem jPa (H : jAc w0 w r sd P st R) (hg : jAo n st) (hn : n ≤ 900) (hbud : I64 st.slab.bud) (i : Iv) (hi : i.ok) (a : Option Addr) (c : Nat) (en : En) (had : Option Ent) (hh : jA0 i.key st.ents = had) (x : Int) (t : Hs) (hx : (jAz sd i had en st).1 = x) (ht : (jAz sd i had en st).2 = t) :
  Calls Tryz.prog 110 #[.pointer (some ⟨r,0,none⟩),.agg (itC (jAe i a c)),.agg (enC en)] w fun e w' => e = .returned (.int .i64 x) ∧ ∃ P',jAc w0 w' r sd P' t R:=by
 have H1:=(H.box (.cells (itC (jAe i a c)) 75)).box (.cells (enC en) 35)
 rw [World.size_alloc] at H1
 clear H
 have hk3 : (jAe i a c).key.size ≤ 140737488355328:=Nat.le_trans hi.key (by decide)
 have hv3 : (jAe i a c).vl ≤ 140737488355328:=Nat.le_trans hi.val (by decide)
 have SZ : Hid (50 + ((jAe i a c).key.size : Nat) + ((jAe i a c).vl : Nat) = jAl i):=rfl
 have hRT : jAz sd i had en st = (x,t):=by rw [← hx,← ht]
 have HRT:=jAa hRT
 have hlen9 : st.ents.length ≤ 900:=by have:=hg.len.1;omega
 have hik:=hi.key
 clear hx ht hRT
 go_enter Tryz.func110,Tryz.ntmps110
 go_wp2_with (first
  | (refine ldI w.heap.size (jAe i a c) rfl _ rfl rfl H1.boxAt2 ?_)
  | (go_at_call 108;refine (jIj _ _ hk3 hv3).mono ?_;rintro e w1 ⟨rfl,hgr⟩;have H2:=H1.step hgr.grown;clear H1 hgr;rw [SZ.out]))
 go_loopw [8,9,10,11,12,13,14,15,16,17,18] (fun nn x9 x10 x11 x12 x13 x14 x15 x16 x17 x18 wr => ∃ (j : Nat) (s : Hs) (Q : Rp),nn = .int .i64 j ∧ RoomR w0 r sd n ((jAn (w.heap.size + 1) (.cells (enC en) 35)).and ((jAn w.heap.size (.cells (itC (jAe i a c)) 75)).and R)) st i had en j s Q wr) (fun nn _ _ _ _ _ _ _ _ _ _ _ => 1000 - (intOf nn).toNat)
 case atStart => exact ⟨0,st,P,rfl,by omega,hg,rfl,hh,rfl,H2⟩
 case round =>
  clear H2 hg
  obtain ⟨j,s,Q,rfl,hj,hg,hb,hf,hR,H⟩:=hrel
  have hji : (j : Int) < 100000:=by omega
  rw [← hb] at hbud
  obtain ⟨mk,hmk⟩ : ∃ mk,jDx i.key s.ents = mk:=⟨_,rfl⟩
  have hl1 : (jA3 s.ord).length ≤ 1000:=by have:=hg.len;omega
  have hl64:=kK7 had
  have ki : wr.cell? ⟨w.heap.size,0,none⟩ = some (.string i.key):=(jAk H.boxAt2).1
  rw [HRT.out] at hR
  cases had with
  | none =>
   have HQ : Hid (jCs s i.key = false):=by show jCs s i.key = false;unfold jCs;rw [hf];rfl
   rcases jH1 hg sd i none en with ⟨hft,hr⟩ | ⟨hft,⟨hvc,hr⟩ | ⟨v,ev,hvc,hfe,hvk,hvs,hdis⟩⟩
   ·rw [hr] at hR
    have HF:=jAa hft
    have HX0:=jAa (congrArg Prod.fst hR)
    have HT0:=jAa (congrArg Prod.snd hR)
    clear hft hr hR
    go_wp2_with (first
     | (go_at_call 67;refine (jCb H hg hn i.key _ HQ.out mk hmk).mono ?_;rintro e w2 ⟨rfl,hgr⟩;have H2:=H.step hgr;clear H hgr ki;have k1 : w2.cell? ⟨r,1,none⟩ = some (.pointer (some ⟨Q.sp,0,none⟩)):=H2.cells.2.1)
     | (go_at_call 147;refine (jFr H2.slab (hg.slabSmall hn) hbud (jAl i) (jD0 (none)) hl64).mono ?_;rintro e w4 ⟨rfl,d,rfl⟩;rw [HF.out];have H4:=H2.drewN d;clear H2 k1))
    go_ret
    exact ⟨by cases (show (0 : Int) = x from HX0.out);rfl,Q,by rw [← HT0.out];exact H4.less.less⟩
   ·rw [hr] at hR
    have HF:=jAa hft
    have HX0:=jAa (congrArg Prod.fst hR)
    have HT0:=jAa (congrArg Prod.snd hR)
    have HV1 : Hid ((jDe s.ord i.key).getD ⟨#[]⟩ = ⟨#[]⟩):=by show (jDe s.ord i.key).getD ⟨#[]⟩ = ⟨#[]⟩;rw [hvc];rfl
    have HV2 : Hid ((jDe s.ord i.key).isSome = false):=by show (jDe s.ord i.key).isSome = false;rw [hvc];rfl
    clear hft hr hR hvc
    go_upto_region 12 with (first
     | (go_at_call 67;refine (jCb H hg hn i.key _ HQ.out mk hmk).mono ?_;rintro e w2 ⟨rfl,hgr⟩;have H2:=H.step hgr;clear H hgr ki;have k1 : w2.cell? ⟨r,1,none⟩ = some (.pointer (some ⟨Q.sp,0,none⟩)):=H2.cells.2.1)
     | (go_at_call 147;refine (jFr H2.slab (hg.slabSmall hn) hbud (jAl i) (jD0 (none)) hl64).mono ?_;rintro e w4 ⟨rfl,d,rfl⟩;rw [HF.out];have H5:=(H2.drewN d).drew;clear H2 k1;have c1:=jAa H5.s2))
    go_region_held (S2 r Q.op w.heap.size i.key) (first | exact c2 | exact c1.out) ((go_at_call 148;refine (jKa H5.listOut hl1 i.key _ _ HV1.out HV2.out).mono ?_;rintro e w6 ⟨rfl,N6⟩;have H6 : jAc w0 w6 r sd Q s _:=jAc.listBack H5.ents N6;have c2 : S2 r Q.op w.heap.size i.key w6:=H6.s2;clear N6))
    clear c1 c2 H5
    go_wp2
    go_ret
    exact ⟨by cases (show (5 : Int) = x from HX0.out);rfl,Q,by rw [← HT0.out];exact H6.less.less⟩
   ·have HF:=jAa hft
    have HV1 : Hid ((jDe s.ord i.key).getD ⟨#[]⟩ = v):=by show (jDe s.ord i.key).getD ⟨#[]⟩ = v;rw [hvc];rfl
    have HV2 : Hid ((jDe s.ord i.key).isSome = true):=by show (jDe s.ord i.key).isSome = true;rw [hvc];rfl
    obtain ⟨mv,hmv⟩ : ∃ mv,jDx v s.ents = mv:=⟨_,rfl⟩
    have hpv:=jFz hg.rise hfe
    rw [hmv] at hpv
    obtain ⟨xv,hxv,hxvy⟩:=H.get hpv
    obtain ⟨N,hN⟩ : ∃ N,Q.es.length = N:=⟨_,rfl⟩
    have HN:=jAa hN
    obtain ⟨pv,capv,hvv,hcv1,hcv2⟩:=H.slice HN.out
    unfold maxLen at hcv2
    obtain ⟨gv,rfl,-⟩:=H.reAt HN.out hvv hxv
    have hmvN : mv < N:=by rw [← HN.out];exact (List.getElem?_eq_some_iff.1 hxv).1
    have hmvi : (mv : Int) < (N : Int):=by omega
    have HVL2:=jAa hvv
    have HXv:=jAa hxv
    have HQv : Hid (jCs s v = true):=by show jCs s v = true;unfold jCs;rw [hfe];rfl
    have hlve : jDd xv.t.it.exp xv.t.it.sec xv.t.it.seq en = jCn ev.1 en:=by show jCn xv.ent.1 en = _;rw [hxvy]
    have HAD : Hid (decide (jCt sd s.jd v.data.toList < jCt sd s.jd i.key.data.toList) = jNb sd s i.key v):=rfl
    have GD:=jAa (jGn hg hfe)
    have HBD : Hid ((jBy s v).slab.bud = st.slab.bud):=by show (jBy s v).slab.bud = _;rw [jG3 hfe];exact (jG2 _ _).trans hb
    have HFD : Hid (jA0 i.key (jBy s v).ents = none):=by show jA0 i.key (jBy s v).ents = _;rw [jJg hg hfe (fun e => hvk e.symm)];exact hf
    clear hN hvv hxv hpv hvc hft hxvy hfe
    rcases hdis with ⟨hlv,_,had0,hr⟩ | ⟨hdis,hr⟩
    ·rw [hlv] at hlve
     rw [had0] at HAD
     rw [hr] at hR
     have HLV:=jAa hlve
     have HX0:=jAa (congrArg Prod.fst hR)
     have HT0:=jAa (congrArg Prod.snd hR)
     clear hlve hr hR hlv had0
     go_upto_region 12 with (first
      | (go_at_call 67;refine (jCb H hg hn i.key _ HQ.out mk hmk).mono ?_;rintro e w2 ⟨rfl,hgr⟩;have H2:=H.step hgr;clear H hgr ki;have k1 : w2.cell? ⟨r,1,none⟩ = some (.pointer (some ⟨Q.sp,0,none⟩)):=H2.cells.2.1)
      | (go_at_call 147;refine (jFr H2.slab (hg.slabSmall hn) hbud (jAl i) (jD0 (none)) hl64).mono ?_;rintro e w4 ⟨rfl,d,rfl⟩;rw [HF.out];have H5:=(H2.drewN d).drew;clear H2 k1;have c1:=jAa H5.s2))
     go_region_held (S2 r Q.op w.heap.size i.key) (first | exact c2 | exact c1.out) ((go_at_call 148;refine (jKa H5.listOut hl1 i.key _ _ HV1.out HV2.out).mono ?_;rintro e w6 ⟨rfl,N6⟩;have H6 : jAc w0 w6 r sd Q s _:=jAc.listBack H5.ents N6;have c2 : S2 r Q.op w.heap.size i.key w6:=H6.s2;clear N6))
     clear c1 c2 H5
     go_upto_region 16 with (go_at_call 67;refine (jCb H6 hg hn v _ HQv.out mv hmv).mono ?_;rintro e w7 ⟨rfl,hgr⟩;have H7:=(H6.step hgr).drew;clear H6 hgr;have c3:=jAa (H7.s5 HN.out HVL2.out HXv.out H7.boxAt))
     go_region_held (S5 r gv mv N capv (w.heap.size + 1) xv.t.iv xv.t.a xv.t.c en) (first | exact c4 | exact c3.out) ((go_at_call 68;refine (jF1 xv.t.it en _).mono ?_;rintro e w8 ⟨rfl,hgr⟩;have H8:=H7.step hgr.grown;have c4 : S5 r gv mv N capv (w.heap.size + 1) xv.t.iv xv.t.a xv.t.c en w8:=H8.s5 HN.out HVL2.out HXv.out H8.boxAt;clear hgr;rw [HLV.out]))
     have H9:=H8.drew
     have c5:=jAa H9.s3
     clear c3 c4 H7
     go_upto_region 17 with fail
     go_region_held (S3 r Q.jp w.heap.size i.key) (first | exact c6 | exact c5.out) ((go_at_call 149;refine (jIi H9.judge hg.jdG i.key v (Nat.le_trans hik (by decide)) (Nat.le_trans hvs (by decide))).mono ?_;rintro e w10 ⟨rfl,d2,rfl⟩;have c6 : S3 r Q.jp w.heap.size i.key _:=(H9.drewN d2).s3;rw [HAD.out]))
     have H10:=H8.drewN (1 + d2)
     clear c5 c6 H9 H8
     go_wp2
     go_ret
     exact ⟨by cases (show (8 : Int) = x from HX0.out);rfl,Q,by rw [← HT0.out];exact H10.less.less⟩
    ·have HRD : Hid (jAz sd i none en (jBy s v) = jAz sd i none en st):=by show _ = _;rw [← hr,hR,HRT.out]
     cases hlv : jCn ev.1 en with
     | false =>
      rw [hlv] at hlve
      have HLV:=jAa hlve
      obtain ⟨ad,hadv⟩ : ∃ ad,jNb sd s i.key v = ad:=⟨_,rfl⟩
      rw [hadv] at HAD
      clear hlve hr hR hlv hdis hadv
      go_upto_region 12 with (first
       | (go_at_call 67;refine (jCb H hg hn i.key _ HQ.out mk hmk).mono ?_;rintro e w2 ⟨rfl,hgr⟩;have H2:=H.step hgr;clear H hgr ki;have k1 : w2.cell? ⟨r,1,none⟩ = some (.pointer (some ⟨Q.sp,0,none⟩)):=H2.cells.2.1)
       | (go_at_call 147;refine (jFr H2.slab (hg.slabSmall hn) hbud (jAl i) (jD0 (none)) hl64).mono ?_;rintro e w4 ⟨rfl,d,rfl⟩;rw [HF.out];have H5:=(H2.drewN d).drew;clear H2 k1;have c1:=jAa H5.s2))
      go_region_held (S2 r Q.op w.heap.size i.key) (first | exact c2 | exact c1.out) ((go_at_call 148;refine (jKa H5.listOut hl1 i.key _ _ HV1.out HV2.out).mono ?_;rintro e w6 ⟨rfl,N6⟩;have H6 : jAc w0 w6 r sd Q s _:=jAc.listBack H5.ents N6;have c2 : S2 r Q.op w.heap.size i.key w6:=H6.s2;clear N6))
      clear c1 c2 H5
      go_upto_region 16 with (go_at_call 67;refine (jCb H6 hg hn v _ HQv.out mv hmv).mono ?_;rintro e w7 ⟨rfl,hgr⟩;have H7:=(H6.step hgr).drew;clear H6 hgr;have c3:=jAa (H7.s5 HN.out HVL2.out HXv.out H7.boxAt))
      go_region_held (S5 r gv mv N capv (w.heap.size + 1) xv.t.iv xv.t.a xv.t.c en) (first | exact c4 | exact c3.out) ((go_at_call 68;refine (jF1 xv.t.it en _).mono ?_;rintro e w8 ⟨rfl,hgr⟩;have H8:=H7.step hgr.grown;have c4 : S5 r gv mv N capv (w.heap.size + 1) xv.t.iv xv.t.a xv.t.c en w8:=H8.s5 HN.out HVL2.out HXv.out H8.boxAt;clear hgr;rw [HLV.out]))
      have H9:=H8.drew
      have c5:=jAa H9.s3
      clear c3 c4 H7
      go_upto_region 17 with fail
      go_region_held (S3 r Q.jp w.heap.size i.key) (first | exact c6 | exact c5.out) ((go_at_call 149;refine (jIi H9.judge hg.jdG i.key v (Nat.le_trans hik (by decide)) (Nat.le_trans hvs (by decide))).mono ?_;rintro e w10 ⟨rfl,d2,rfl⟩;have c6 : S3 r Q.jp w.heap.size i.key _:=(H9.drewN d2).s3;rw [HAD.out]))
      have H10:=H8.drewN (1 + d2)
      clear c5 c6 H9 H8
      go_wp2_with (go_at_call 69;refine (jLg H10 hg hn v _ rfl).mono ?_;rintro e w11 ⟨⟨v11,rfl⟩,Q2,H11⟩;clear H10)
      go_roundw
      case rel => exact ⟨j + 1,jBy s v,Q2,by go_num,by have:=GD.out.2.1;omega,GD.out.1,HBD.out,HFD.out,HRD.out,H11⟩
      case measure => simp [intOf];omega
     | true =>
      rw [hlv] at hlve
      have HLV:=jAa hlve
      have hadt : jNb sd s i.key v = true:=by rcases hdis with h | h | h;(rw [hlv] at h;cases h);exact absurd rfl h;exact h
      rw [hadt] at HAD
      clear hlve hr hR hlv hdis hadt
      go_upto_region 12 with (first
       | (go_at_call 67;refine (jCb H hg hn i.key _ HQ.out mk hmk).mono ?_;rintro e w2 ⟨rfl,hgr⟩;have H2:=H.step hgr;clear H hgr ki;have k1 : w2.cell? ⟨r,1,none⟩ = some (.pointer (some ⟨Q.sp,0,none⟩)):=H2.cells.2.1)
       | (go_at_call 147;refine (jFr H2.slab (hg.slabSmall hn) hbud (jAl i) (jD0 (none)) hl64).mono ?_;rintro e w4 ⟨rfl,d,rfl⟩;rw [HF.out];have H5:=(H2.drewN d).drew;clear H2 k1;have c1:=jAa H5.s2))
      go_region_held (S2 r Q.op w.heap.size i.key) (first | exact c2 | exact c1.out) ((go_at_call 148;refine (jKa H5.listOut hl1 i.key _ _ HV1.out HV2.out).mono ?_;rintro e w6 ⟨rfl,N6⟩;have H6 : jAc w0 w6 r sd Q s _:=jAc.listBack H5.ents N6;have c2 : S2 r Q.op w.heap.size i.key w6:=H6.s2;clear N6))
      clear c1 c2 H5
      go_upto_region 16 with (go_at_call 67;refine (jCb H6 hg hn v _ HQv.out mv hmv).mono ?_;rintro e w7 ⟨rfl,hgr⟩;have H7:=(H6.step hgr).drew;clear H6 hgr;have c3:=jAa (H7.s5 HN.out HVL2.out HXv.out H7.boxAt))
      go_region_held (S5 r gv mv N capv (w.heap.size + 1) xv.t.iv xv.t.a xv.t.c en) (first | exact c4 | exact c3.out) ((go_at_call 68;refine (jF1 xv.t.it en _).mono ?_;rintro e w8 ⟨rfl,hgr⟩;have H8:=H7.step hgr.grown;have c4 : S5 r gv mv N capv (w.heap.size + 1) xv.t.iv xv.t.a xv.t.c en w8:=H8.s5 HN.out HVL2.out HXv.out H8.boxAt;clear hgr;rw [HLV.out]))
      have H9:=H8.drew
      have c5:=jAa H9.s3
      clear c3 c4 H7
      go_upto_region 17 with fail
      go_region_held (S3 r Q.jp w.heap.size i.key) (first | exact c6 | exact c5.out) ((go_at_call 149;refine (jIi H9.judge hg.jdG i.key v (Nat.le_trans hik (by decide)) (Nat.le_trans hvs (by decide))).mono ?_;rintro e w10 ⟨rfl,d2,rfl⟩;have c6 : S3 r Q.jp w.heap.size i.key _:=(H9.drewN d2).s3;rw [HAD.out]))
      have H10:=H8.drewN (1 + d2)
      clear c5 c6 H9 H8
      go_wp2_with (go_at_call 69;refine (jLg H10 hg hn v _ rfl).mono ?_;rintro e w11 ⟨⟨v11,rfl⟩,Q2,H11⟩;clear H10)
      go_roundw
      case rel => exact ⟨j + 1,jBy s v,Q2,by go_num,by have:=GD.out.2.1;omega,GD.out.1,HBD.out,HFD.out,HRD.out,H11⟩
      case measure => simp [intOf];omega
  | some y =>
   obtain ⟨N,hN⟩ : ∃ N,Q.es.length = N:=⟨_,rfl⟩
   have hp:=jFz hg.rise hf
   rw [hmk] at hp
   obtain ⟨xe,hxe,hxy⟩:=H.get hp
   obtain ⟨pa,cap,hv,hc1,hc2⟩:=H.slice hN
   unfold maxLen at hc2
   obtain ⟨g,rfl,-⟩:=H.reAt hN hv hxe
   have hmkN : mk < N:=by rw [← hN];exact (List.getElem?_eq_some_iff.1 hxe).1
   have hmki : (mk : Int) < (N : Int):=by omega
   have HXC : Hid (xe.ck = y.2):=by show xe.ck = y.2;rw [← hxy];rfl
   have HN:=jAa hN
   have HVL:=jAa hv
   have HX:=jAa hxe
   have HQ : Hid (jCs s i.key = true):=by show jCs s i.key = true;unfold jCs;rw [hf];rfl
   clear hN hv hxe hxy hp
   rcases jH1 hg sd i (some y) en with ⟨hft,hr⟩ | ⟨hft,⟨hvc,hr⟩ | ⟨v,ev,hvc,hfe,hvk,hvs,hdis⟩⟩
   ·rw [hr] at hR
    have HF:=jAa hft
    have HX0:=jAa (congrArg Prod.fst hR)
    have HT0:=jAa (congrArg Prod.snd hR)
    clear hft hr hR
    go_wp2_with (first
     | (go_at_call 67;refine (jCb H hg hn i.key _ HQ.out mk hmk).mono ?_;rintro e w2 ⟨rfl,hgr⟩;have H2:=H.step hgr;clear H hgr ki;have k1 : w2.cell? ⟨r,1,none⟩ = some (.pointer (some ⟨Q.sp,0,none⟩)):=H2.cells.2.1;have k0 : w2.cell? ⟨r,0,none⟩ = some (.slice (some ⟨g,0,none⟩) N cap):=(by rw [← HVL.out];exact H2.cells.1);have kc : w2.cell? ⟨g,mk * 12 + 10,none⟩ = some (.int .i64 y.2.1):=(by have:=H2.cls HN.out HVL.out HX.out;rw [HXC.out] at this;exact this))
     | (go_at_call 85;refine (jDc _ _).mono ?_;rintro e w3 ⟨rfl,rfl⟩)
     | (go_at_call 147;refine (jFr H2.slab (hg.slabSmall hn) hbud (jAl i) (jD0 (some y)) hl64).mono ?_;rintro e w4 ⟨rfl,d,rfl⟩;rw [HF.out];have H4:=H2.drewN d;clear H2 k1))
    go_ret
    exact ⟨by cases (show (0 : Int) = x from HX0.out);rfl,Q,by rw [← HT0.out];exact H4.less.less⟩
   ·rw [hr] at hR
    have HF:=jAa hft
    have HX0:=jAa (congrArg Prod.fst hR)
    have HT0:=jAa (congrArg Prod.snd hR)
    have HV1 : Hid ((jDe s.ord i.key).getD ⟨#[]⟩ = ⟨#[]⟩):=by show (jDe s.ord i.key).getD ⟨#[]⟩ = ⟨#[]⟩;rw [hvc];rfl
    have HV2 : Hid ((jDe s.ord i.key).isSome = false):=by show (jDe s.ord i.key).isSome = false;rw [hvc];rfl
    clear hft hr hR hvc
    go_upto_region 12 with (first
     | (go_at_call 67;refine (jCb H hg hn i.key _ HQ.out mk hmk).mono ?_;rintro e w2 ⟨rfl,hgr⟩;have H2:=H.step hgr;clear H hgr ki;have k1 : w2.cell? ⟨r,1,none⟩ = some (.pointer (some ⟨Q.sp,0,none⟩)):=H2.cells.2.1;have k0 : w2.cell? ⟨r,0,none⟩ = some (.slice (some ⟨g,0,none⟩) N cap):=(by rw [← HVL.out];exact H2.cells.1);have kc : w2.cell? ⟨g,mk * 12 + 10,none⟩ = some (.int .i64 y.2.1):=(by have:=H2.cls HN.out HVL.out HX.out;rw [HXC.out] at this;exact this))
     | (go_at_call 85;refine (jDc _ _).mono ?_;rintro e w3 ⟨rfl,rfl⟩)
     | (go_at_call 147;refine (jFr H2.slab (hg.slabSmall hn) hbud (jAl i) (jD0 (some y)) hl64).mono ?_;rintro e w4 ⟨rfl,d,rfl⟩;rw [HF.out];have H5:=(H2.drewN d).drew;clear H2 k1;have c1:=jAa H5.s2))
    go_region_held (S2 r Q.op w.heap.size i.key) (first | exact c2 | exact c1.out) ((go_at_call 148;refine (jKa H5.listOut hl1 i.key _ _ HV1.out HV2.out).mono ?_;rintro e w6 ⟨rfl,N6⟩;have H6 : jAc w0 w6 r sd Q s _:=jAc.listBack H5.ents N6;have c2 : S2 r Q.op w.heap.size i.key w6:=H6.s2;clear N6))
    clear c1 c2 H5
    go_wp2
    go_ret
    exact ⟨by cases (show (5 : Int) = x from HX0.out);rfl,Q,by rw [← HT0.out];exact H6.less.less⟩
   ·have HF:=jAa hft
    have HV1 : Hid ((jDe s.ord i.key).getD ⟨#[]⟩ = v):=by show (jDe s.ord i.key).getD ⟨#[]⟩ = v;rw [hvc];rfl
    have HV2 : Hid ((jDe s.ord i.key).isSome = true):=by show (jDe s.ord i.key).isSome = true;rw [hvc];rfl
    obtain ⟨mv,hmv⟩ : ∃ mv,jDx v s.ents = mv:=⟨_,rfl⟩
    have hpv:=jFz hg.rise hfe
    rw [hmv] at hpv
    obtain ⟨xv,hxv,hxvy⟩:=H.get hpv
    obtain ⟨pv,capv,hvv,hcv1,hcv2⟩:=H.slice HN.out
    unfold maxLen at hcv2
    obtain ⟨gv,rfl,-⟩:=H.reAt HN.out hvv hxv
    have hmvN : mv < N:=by rw [← HN.out];exact (List.getElem?_eq_some_iff.1 hxv).1
    have hmvi : (mv : Int) < (N : Int):=by omega
    have HVL2:=jAa hvv
    have HXv:=jAa hxv
    have HQv : Hid (jCs s v = true):=by show jCs s v = true;unfold jCs;rw [hfe];rfl
    have hlve : jDd xv.t.it.exp xv.t.it.sec xv.t.it.seq en = jCn ev.1 en:=by show jCn xv.ent.1 en = _;rw [hxvy]
    have HAD : Hid (decide (jCt sd s.jd v.data.toList < jCt sd s.jd i.key.data.toList) = jNb sd s i.key v):=rfl
    have GD:=jAa (jGn hg hfe)
    have HBD : Hid ((jBy s v).slab.bud = st.slab.bud):=by show (jBy s v).slab.bud = _;rw [jG3 hfe];exact (jG2 _ _).trans hb
    have HFD : Hid (jA0 i.key (jBy s v).ents = (some y)):=by show jA0 i.key (jBy s v).ents = _;rw [jJg hg hfe (fun e => hvk e.symm)];exact hf
    clear hvv hxv hpv hvc hft hxvy hfe
    rcases hdis with ⟨_,hno,_,_⟩ | ⟨_,hr⟩
    ·cases hno
    ·have HRD : Hid (jAz sd i (some y) en (jBy s v) = jAz sd i (some y) en st):=by show _ = _;rw [← hr,hR,HRT.out]
     obtain ⟨ad,hadv⟩ : ∃ ad,jNb sd s i.key v = ad:=⟨_,rfl⟩
     rw [hadv] at HAD
     cases hlv : jCn ev.1 en with
     | false =>
      rw [hlv] at hlve
      have HLV:=jAa hlve
      clear hlve hr hR hlv hadv
      go_upto_region 12 with (first
       | (go_at_call 67;refine (jCb H hg hn i.key _ HQ.out mk hmk).mono ?_;rintro e w2 ⟨rfl,hgr⟩;have H2:=H.step hgr;clear H hgr ki;have k1 : w2.cell? ⟨r,1,none⟩ = some (.pointer (some ⟨Q.sp,0,none⟩)):=H2.cells.2.1;have k0 : w2.cell? ⟨r,0,none⟩ = some (.slice (some ⟨g,0,none⟩) N cap):=(by rw [← HVL.out];exact H2.cells.1);have kc : w2.cell? ⟨g,mk * 12 + 10,none⟩ = some (.int .i64 y.2.1):=(by have:=H2.cls HN.out HVL.out HX.out;rw [HXC.out] at this;exact this))
       | (go_at_call 85;refine (jDc _ _).mono ?_;rintro e w3 ⟨rfl,rfl⟩)
       | (go_at_call 147;refine (jFr H2.slab (hg.slabSmall hn) hbud (jAl i) (jD0 (some y)) hl64).mono ?_;rintro e w4 ⟨rfl,d,rfl⟩;rw [HF.out];have H5:=(H2.drewN d).drew;clear H2 k1;have c1:=jAa H5.s2))
      go_region_held (S2 r Q.op w.heap.size i.key) (first | exact c2 | exact c1.out) ((go_at_call 148;refine (jKa H5.listOut hl1 i.key _ _ HV1.out HV2.out).mono ?_;rintro e w6 ⟨rfl,N6⟩;have H6 : jAc w0 w6 r sd Q s _:=jAc.listBack H5.ents N6;have c2 : S2 r Q.op w.heap.size i.key w6:=H6.s2;clear N6))
      clear c1 c2 H5
      go_upto_region 16 with (go_at_call 67;refine (jCb H6 hg hn v _ HQv.out mv hmv).mono ?_;rintro e w7 ⟨rfl,hgr⟩;have H7:=(H6.step hgr).drew;clear H6 hgr;have c3:=jAa (H7.s5 HN.out HVL2.out HXv.out H7.boxAt))
      go_region_held (S5 r gv mv N capv (w.heap.size + 1) xv.t.iv xv.t.a xv.t.c en) (first | exact c4 | exact c3.out) ((go_at_call 68;refine (jF1 xv.t.it en _).mono ?_;rintro e w8 ⟨rfl,hgr⟩;have H8:=H7.step hgr.grown;have c4 : S5 r gv mv N capv (w.heap.size + 1) xv.t.iv xv.t.a xv.t.c en w8:=H8.s5 HN.out HVL2.out HXv.out H8.boxAt;clear hgr;rw [HLV.out]))
      have H9:=H8.drew
      have c5:=jAa H9.s3
      clear c3 c4 H7
      go_upto_region 17 with fail
      go_region_held (S3 r Q.jp w.heap.size i.key) (first | exact c6 | exact c5.out) ((go_at_call 149;refine (jIi H9.judge hg.jdG i.key v (Nat.le_trans hik (by decide)) (Nat.le_trans hvs (by decide))).mono ?_;rintro e w10 ⟨rfl,d2,rfl⟩;have c6 : S3 r Q.jp w.heap.size i.key _:=(H9.drewN d2).s3;rw [HAD.out]))
      have H10:=H8.drewN (1 + d2)
      clear c5 c6 H9 H8
      go_wp2_with (go_at_call 69;refine (jLg H10 hg hn v _ rfl).mono ?_;rintro e w11 ⟨⟨v11,rfl⟩,Q2,H11⟩;clear H10)
      go_roundw
      case rel => exact ⟨j + 1,jBy s v,Q2,by go_num,by have:=GD.out.2.1;omega,GD.out.1,HBD.out,HFD.out,HRD.out,H11⟩
      case measure => simp [intOf];omega
     | true =>
      rw [hlv] at hlve
      have HLV:=jAa hlve
      clear hlve hr hR hlv hadv
      go_upto_region 12 with (first
       | (go_at_call 67;refine (jCb H hg hn i.key _ HQ.out mk hmk).mono ?_;rintro e w2 ⟨rfl,hgr⟩;have H2:=H.step hgr;clear H hgr ki;have k1 : w2.cell? ⟨r,1,none⟩ = some (.pointer (some ⟨Q.sp,0,none⟩)):=H2.cells.2.1;have k0 : w2.cell? ⟨r,0,none⟩ = some (.slice (some ⟨g,0,none⟩) N cap):=(by rw [← HVL.out];exact H2.cells.1);have kc : w2.cell? ⟨g,mk * 12 + 10,none⟩ = some (.int .i64 y.2.1):=(by have:=H2.cls HN.out HVL.out HX.out;rw [HXC.out] at this;exact this))
       | (go_at_call 85;refine (jDc _ _).mono ?_;rintro e w3 ⟨rfl,rfl⟩)
       | (go_at_call 147;refine (jFr H2.slab (hg.slabSmall hn) hbud (jAl i) (jD0 (some y)) hl64).mono ?_;rintro e w4 ⟨rfl,d,rfl⟩;rw [HF.out];have H5:=(H2.drewN d).drew;clear H2 k1;have c1:=jAa H5.s2))
      go_region_held (S2 r Q.op w.heap.size i.key) (first | exact c2 | exact c1.out) ((go_at_call 148;refine (jKa H5.listOut hl1 i.key _ _ HV1.out HV2.out).mono ?_;rintro e w6 ⟨rfl,N6⟩;have H6 : jAc w0 w6 r sd Q s _:=jAc.listBack H5.ents N6;have c2 : S2 r Q.op w.heap.size i.key w6:=H6.s2;clear N6))
      clear c1 c2 H5
      go_upto_region 16 with (go_at_call 67;refine (jCb H6 hg hn v _ HQv.out mv hmv).mono ?_;rintro e w7 ⟨rfl,hgr⟩;have H7:=(H6.step hgr).drew;clear H6 hgr;have c3:=jAa (H7.s5 HN.out HVL2.out HXv.out H7.boxAt))
      go_region_held (S5 r gv mv N capv (w.heap.size + 1) xv.t.iv xv.t.a xv.t.c en) (first | exact c4 | exact c3.out) ((go_at_call 68;refine (jF1 xv.t.it en _).mono ?_;rintro e w8 ⟨rfl,hgr⟩;have H8:=H7.step hgr.grown;have c4 : S5 r gv mv N capv (w.heap.size + 1) xv.t.iv xv.t.a xv.t.c en w8:=H8.s5 HN.out HVL2.out HXv.out H8.boxAt;clear hgr;rw [HLV.out]))
      have H9:=H8.drew
      have c5:=jAa H9.s3
      clear c3 c4 H7
      go_upto_region 17 with fail
      go_region_held (S3 r Q.jp w.heap.size i.key) (first | exact c6 | exact c5.out) ((go_at_call 149;refine (jIi H9.judge hg.jdG i.key v (Nat.le_trans hik (by decide)) (Nat.le_trans hvs (by decide))).mono ?_;rintro e w10 ⟨rfl,d2,rfl⟩;have c6 : S3 r Q.jp w.heap.size i.key _:=(H9.drewN d2).s3;rw [HAD.out]))
      have H10:=H8.drewN (1 + d2)
      clear c5 c6 H9 H8
      go_wp2_with (go_at_call 69;refine (jLg H10 hg hn v _ rfl).mono ?_;rintro e w11 ⟨⟨v11,rfl⟩,Q2,H11⟩;clear H10)
      go_roundw
      case rel => exact ⟨j + 1,jBy s v,Q2,by go_num,by have:=GD.out.2.1;omega,GD.out.1,HBD.out,HFD.out,HRD.out,H11⟩
      case measure => simp [intOf];omega
end
end Go.Proofs.YtkfeafmpaodagaaGreatDoor
