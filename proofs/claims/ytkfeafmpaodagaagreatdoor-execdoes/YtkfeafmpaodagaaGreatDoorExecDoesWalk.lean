/- ExecDoes returns true for every input, and writes nothing that was there. Conditions: the contracts of package shard; the variables of package num. -/
import Derived.Test.YtkfeafmpaodagaaGreatDoorG42Joined
import Derived.Test.YtkfeafmpaodagaaGreatDoorG32Joined
import Derived.Test.YtkfeafmpaodagaaGreatDoorG43Joined
import Derived.Test.YtkfeafmpaodagaaGreatDoorG39Joined
import Derived.Test.YtkfeafmpaodagaaGreatDoorG34Joined
import Derived.BigQuiet
namespace Go.Proofs.YtkfeafmpaodagaaGreatDoor
set_option maxHeartbeats 16000000
set_option linter.unusedVariables false
set_option linter.unusedSimpArgs false
open Go.RowKit Go.Shelf Go.Sort
variable {Sh : World → Nat → (Nat → Prop) → Nat → Nat → Hs → Prop}
abbrev SX (gc ca off k : Nat) (o : jD4) (W : World) : Prop:=W.heap[gc]? = some (.cells (cmC o.cv o.a o.k) 33 (0,0)) ∧ W.rangeAt ca (off + k * 14 + 10) (enC o.en).toList
theorem jYr {W : World} {g : Nat} {c : Cv} {a : Option Addr} {kk : Nat} {t : TypeId} (h : W.heap[g]? = some (.cells (cmC c a kk) t (0,0))) : W.rangeAt g 0 (cmC c a kk).toList:=fun j v hv => by
 unfold World.cell?
 rw [h]
 show (cmC c a kk)[0 + j]? = some v
 rw [Nat.zero_add,← Array.getElem?_toList]
 exact hv
section
variable {L : jA7 Sh} {w0 w : World} {r sd sd2 n b : Nat} {own : Nat → Prop} {P : Rp} {s st : Hs} {R A : jAd}
theorem jAc.shD (H : jAc w0 w r sd P s ((shQ L b own sd2 n st).and R)) : Law w0 w ((shQ L b own sd2 n st).and ((jCi (jIv w0.heap.size r sd P s)).and R)):=H.law.rot
theorem jAc.ofShD (he : P.es.map Re.ent = s.ents) (N : Law w0 w ((shQ L b own sd2 n st).and (A.and ((jCi (jIv w0.heap.size r sd P s)).and R)))) : jAc w0 w r sd P s ((shQ L b own sd2 n st).and (A.and R)):=⟨N.rin.rot,he⟩
end
theorem do_bud {n : Nat} {st : Hs} (g : jAo n st) (sd : Nat) {c : Cv} {en : En} (hc : c.ok) (hen : en.ok) (hn : n ≤ 900) : (doH sd st c en).2.slab.bud = st.slab.bud:=(kOz g sd hc hen (.inl hn)).2
def zeroCv : Cv:=⟨0,⟨#[]⟩,[],0,0,0,0,0,false,false⟩
set_option maxRecDepth 100000 in
theorem jZr (L : jA7 Sh) (sd : Nat) (hd : sd < 18446744073709551616) (bud most : Int) (hbu : I64 bud) (hmo : I64 most) {w : World} (hLd : jBr w) {a : Option Addr} {len cap : Nat} {os : List jD4} (h : jHy w a len cap os) (hS : FewL os) :
  Calls Tryz.prog 3 #[.int .u64 sd,.int .i64 bud,.int .i64 most,.slice a len cap] w fun e w' => e = .returned (.bool true) ∧ Below w.heap.size w w':=by
 have hl:=h.len_
 have hlen : len ≤ 80:=by rw [← hl];exact hS.1
 have HB:=Law.start w
 have HA:=jAa (fun W (HW : Law w W jAd.emp) => jVg L HW hLd)
 go_enter Tryz.func3,Tryz.ntmps3
 go_wp2_with (first
  | (go_at_call 5;refine (HA.out _ HB).mono ?_;clear HB HA;rintro e w1 ⟨rfl,HB⟩)
  | (go_at_call 6;refine (kBc (h.on HB.below)).mono ?_;rintro e w2 ⟨⟨q,rfl,hq⟩,hg⟩;obtain rfl : q = true:=hq.2 hS;replace HB:=HB.step hg;clear hg hq)
  | (go_at_call 7;refine (jR2 L HB sd bud most hd hbu hmo).mono ?_;clear HB;rintro e w3 ⟨b,own,rfl,H⟩)
  | (go_at_call 8;refine (kD2 H sd bud most).mono ?_;clear H;rintro e w4 ⟨r,P,rfl,H⟩))
 go_loopw [13,14,15,16] (fun i' x14 x15 x16 wr => ∃ (k n : Nat) (own : Nat → Prop) (P : Rp) (st : Hs),k ≤ len ∧ n ≤ k ∧ i' = .int .i64 k ∧ st.slab.bud = bud ∧ jAc w wr r sd P st ((shQ L b own sd n st).and jAd.emp)) (fun i' _ _ _ _ => len - (intOf i').toNat)
 case atStart => exact ⟨0,0,own,P,_,Nat.zero_le _,Nat.le_refl _,rfl,rfl,H⟩
 case round =>
  clear H
  obtain ⟨k,n,own,P,st,hk',hnk,rfl,hsb,H⟩:=hrel
  by_cases hlt : k < len
  ·obtain ⟨ca,off,rfl,hcell,hok⟩:=h.at k (by omega)
   have hfw:=hS.2 _ (List.getElem_mem (show k < os.length by omega))
   have hki : (k : Int) < (len : Int):=by omega
   obtain ⟨o,ho⟩ : ∃ o,os[k] = o:=⟨_,rfl⟩
   rw [ho] at hcell hok hfw
   obtain ⟨⟨hk3,hv2,he1,he2⟩,hn1,hn2⟩:=hfw
   have C1:=hcell.on (Nat.le_refl _) H.law.below
   have hcm:=C1.cm
   have hbu2 : I64 st.slab.bud:=by rw [hsb];exact hbu
   have hT4 : T40 o.cv.exp:=⟨he2,he1⟩
   have hN4 : N41 o.en.now:=⟨hn1,by omega⟩
   have hG : jAo n st:=L.good H.law.q.2.1.1
   have hbd:=do_bud hG sd hok.cv hok.en (by omega)
   obtain ⟨T,hT⟩ : ∃ T,(doH sd st o.cv o.en).2 = T:=⟨_,rfl⟩
   obtain ⟨rv,hrv⟩ : ∃ rv,(doH sd st o.cv o.en).1 = rv:=⟨_,rfl⟩
   have hDo : doH sd st o.cv o.en = (rv,T):=by rw [← hT,← hrv]
   rw [hT,hsb] at hbd
   have HCL:=jAa hcell
   have HBT:=jAa hbd
   have HD1 : Hid (∀ (W : World) (own' : Nat → Prop) (R' : jAd),Law w W ((shQ L b own' sd n st).and R') → Calls Tryz.prog 10 #[.pointer (some ⟨b,0,none⟩),.agg (cmC o.cv o.a o.k),.agg (enC o.en)] W (jDl L w b sd (n + 1) R' (rv,T))):=fun W own' R' HW => by
    rw [← hDo]
    exact jSo HW hLd (Nat.lt_of_le_of_lt (show n ≤ 900 by omega) (by decide)) (.inl (by omega)) hok.en hok.cv (Rd.old hok.bs)
   have HD2 : Hid (∀ (W : World) (P' : Rp) (R' : jAd),jAc w W r sd P' st R' → Calls Tryz.prog 11 #[.pointer (some ⟨r,0,none⟩),.agg (cmC o.cv o.a o.k),.agg (enC o.en)] W (jCo w r sd R' (rv,T))):=fun W P' R' HW => by
    rw [← hDo]
    exact kOm HW hG (by omega) hbu2 hok.en hok.cv hT4 hN4 (fun V hV => hok.bs.on hV.below) (by omega)
   have HRG : Hid (∀ W,Law w W jAd.emp → W.rangeAt ca (off + k * 14 + 10) (enC o.en).toList):=fun W HW => (hcell.on (Nat.le_refl _) HW.below).en
   have H1:=H.box (.cells (cmC o.cv o.a o.k) 33)
   clear ho hcell hok C1 hT hrv hDo hbd hG hT4 hN4 hbu2 he1 he2 hn1 hn2 hk3 hv2 hsb
   go_upto_region 11 with (first
    | (refine wpList_load_mid rfl 33 _ rfl ca (off + k * 14) rfl (cmC o.cv o.a o.k).toList _ hcm Tryz.underlying33 rfl (by rw [jGz o.cv o.a o.k,Array.length_toList]) ?_)
    | (refine wpList_store_row rfl 33 _ _ rfl wr.heap.size (cmC o.cv o.a o.k) rfl rfl _ (cmC zeroCv none 0) (World.alloc_heap_new wr _) (jGz _ _ _) rfl (kNj _ _ _) ?_;rw [jAq]))
   generalize wr.alloc (.cells (cmC o.cv o.a o.k) 33) = W1 at *
   obtain ⟨gc,hgc⟩ : ∃ gc,wr.heap.size = gc:=⟨_,rfl⟩
   rw [hgc] at H1 ⊢
   clear hgc hcm H
   have H2:=H1.drew
   have hS2 : SX gc ca off k o W1.drew:=⟨H2.boxAt,HRG.out _ ⟨H2.law.below,trivial,fun _ h => h.elim⟩⟩
   clear H1
   refine jE0 (S:=SX gc ca off k o) 17 (by kernel_rfl) (by simp) (by kernel_rfl) ?_
   simp only [List.take_succ_cons,List.take_zero,List.drop_succ_cons,List.drop_zero]
   generalize W1.drew = W2 at *
   refine tkA 0 54 (v:=.pointer (some ⟨b,0,none⟩)) rfl rfl (by kernel_rfl) (fun _ _ _ h => h) (Or.inl ⟨by rfl,fun W hW => by go_simp⟩) hS2 ?_
   simp only [Act.put,lyA,lyB,lyC]
   refine tkA 1 55 (v:=.agg (cmC o.cv o.a o.k)) rfl rfl (by kernel_rfl) (fun _ _ _ h => h) (yieldsIf_load_mid (by rfl) 33 _ rfl gc 0 rfl (cmC o.cv o.a o.k).toList _ (fun W hW => jYr hW.1) Tryz.underlying33 rfl (by rw [jGz o.cv o.a o.k,Array.length_toList])) hS2 ?_
   simp only [Act.put,lyA,lyB,lyC]
   refine tkA 2 56 (v:=.slice (some ⟨ca,off,none⟩) len cap) rfl rfl (by kernel_rfl) (fun _ _ _ h => h) (Or.inl ⟨by rfl,fun W hW => by go_simp⟩) hS2 ?_
   simp only [Act.put,lyA,lyB,lyC]
   refine tkA 3 57 (v:=.int .i64 (k : Int)) rfl rfl (by kernel_rfl) (fun _ _ _ h => h) (Or.inl ⟨by rfl,fun W hW => by go_simp⟩) hS2 ?_
   simp only [Act.put,lyA,lyB,lyC]
   refine tkA 4 58 (v:=.pointer (some ⟨ca,off + k * 14,none⟩)) rfl rfl (by kernel_rfl) (fun _ _ _ h => h) (Or.inl ⟨by rfl,fun W hW => by go_simp⟩) hS2 ?_
   simp only [Act.put,lyA,lyB,lyC]
   refine tkA 5 59 (v:=.pointer (some ⟨ca,off + k * 14 + 10,none⟩)) rfl rfl (by kernel_rfl) (fun _ _ _ h => h) (Or.inl ⟨by rfl,fun W hW => by go_simp⟩) hS2 ?_
   simp only [Act.put,lyA,lyB,lyC]
   refine tkA 6 60 (v:=.agg (enC o.en)) rfl rfl (by kernel_rfl) (fun _ _ _ h => h) (yieldsIf_load_mid (by rfl) 35 _ rfl ca (off + k * 14 + 10) rfl (enC o.en).toList _ (fun W hW => hW.2) Tryz.underlying35 rfl (by rw [jHs o.en,Array.length_toList])) hS2 ?_
   simp only [Act.put,lyA,lyB,lyC]
   refine tkA 8 62 (v:=.pointer (some ⟨r,0,none⟩)) rfl rfl (by kernel_rfl) (fun _ _ _ h => h) (Or.inl ⟨by rfl,fun W hW => by go_simp⟩) hS2 ?_
   simp only [Act.put,lyA,lyB,lyC]
   refine tkA 9 63 (v:=.agg (cmC o.cv o.a o.k)) rfl rfl (by kernel_rfl) (fun _ _ _ h => h) (yieldsIf_load_mid (by rfl) 33 _ rfl gc 0 rfl (cmC o.cv o.a o.k).toList _ (fun W hW => jYr hW.1) Tryz.underlying33 rfl (by rw [jGz o.cv o.a o.k,Array.length_toList])) hS2 ?_
   simp only [Act.put,lyA,lyB,lyC]
   refine tkA 10 64 (v:=.slice (some ⟨ca,off,none⟩) len cap) rfl rfl (by kernel_rfl) (fun _ _ _ h => h) (Or.inl ⟨by rfl,fun W hW => by go_simp⟩) hS2 ?_
   simp only [Act.put,lyA,lyB,lyC]
   refine tkA 11 65 (v:=.int .i64 (k : Int)) rfl rfl (by kernel_rfl) (fun _ _ _ h => h) (Or.inl ⟨by rfl,fun W hW => by go_simp⟩) hS2 ?_
   simp only [Act.put,lyA,lyB,lyC]
   refine tkA 12 66 (v:=.pointer (some ⟨ca,off + k * 14,none⟩)) rfl rfl (by kernel_rfl) (fun _ _ _ h => h) (Or.inl ⟨by rfl,fun W hW => by go_simp⟩) hS2 ?_
   simp only [Act.put,lyA,lyB,lyC]
   refine tkA 13 67 (v:=.pointer (some ⟨ca,off + k * 14 + 10,none⟩)) rfl rfl (by kernel_rfl) (fun _ _ _ h => h) (Or.inl ⟨by rfl,fun W hW => by go_simp⟩) hS2 ?_
   simp only [Act.put,lyA,lyB,lyC]
   refine tkA 14 68 (v:=.agg (enC o.en)) rfl rfl (by kernel_rfl) (fun _ _ _ h => h) (yieldsIf_load_mid (by rfl) 35 _ rfl ca (off + k * 14 + 10) rfl (enC o.en).toList _ (fun W hW => hW.2) Tryz.underlying35 rfl (by rw [jHs o.en,Array.length_toList])) hS2 ?_
   simp only [Act.put,lyA,lyB,lyC]
   refine jC8 7 (by kernel_rfl) rfl rfl ?_
   refine jCe 61 rfl (by go_simp) (HD1.out _ _ _ H2.swap.shD) ?_
   rintro e w3 ⟨a3,c3,own3,rfl,N3⟩
   refine ⟨_,rfl,?_⟩
   have H3:=jAc.ofShD H2.ents N3
   have S3 : SX gc ca off k o w3:=⟨H3.law.q.2.1.2.1.2.1.1,HRG.out _ ⟨H3.law.below,trivial,fun _ h => h.elim⟩⟩
   clear N3 H2 hS2
   refine ⟨S3,?_⟩
   simp only [Act.put,lyA,lyB,lyC]
   refine jC8 15 (by kernel_rfl) rfl rfl ?_
   refine jCe 69 rfl (by go_simp) (HD2.out _ _ _ H3) ?_
   rintro e w4 ⟨a4,c4,P4,rfl,H4⟩
   refine ⟨_,rfl,?_⟩
   have S4 : SX gc ca off k o w4:=⟨H4.law.q.2.1.2.1.2.1.2.1.1,HRG.out _ ⟨H4.law.below,trivial,fun _ h => h.elim⟩⟩
   clear H3 S3
   refine ⟨S4,?_⟩
   simp only [Act.put,lyA,lyB,lyC]
   refine jC8 16 (by kernel_rfl) rfl rfl ?_
   refine jCe 70 rfl (by go_simp) (kB9 (r:=rv) (a:=a3) (a':=a4) (k:=c3) (k':=c4) (jDi.bs H4.law.q.2.1.2.1.2.1.1) (jDi.bs H4.law.q.2.1.1)) ?_
   rintro e w5 ⟨rfl,hg5⟩
   refine ⟨_,rfl,?_⟩
   have H5:=(H4.step hg5).less
   have S5 : SX gc ca off k o w5:=⟨H5.law.q.2.1.2.1.2.1.1,HRG.out _ ⟨H5.law.below,trivial,fun _ h => h.elim⟩⟩
   clear H4 S4 hg5
   refine ⟨S5,?_⟩
   simp only [Act.put,lyA,lyB,lyC]
   refine wpAnyH_done (by kernel_rfl) ?_ _
   change wpList _ _ _ _ _ _
   clear S5 HD1 HD2 HRG HCL
   have HK1:=jAa (fun W => jI6 o.cv.op W)
   have HK2:=jAa (fun W => jDn o.cv.op W)
   have HS1:=jAa (fun W => kDn o.cv.op W)
   have HS2:=jAa (fun W => kAe o.cv.op W)
   generalize jCc o.cv.op = kq at *
   generalize jNk o.cv.op = sq at *
   have hkk : (kq != kq) = false:=by cases kq <;> rfl
   have hss : (sq != sq) = false:=by cases sq <;> rfl
   go_upto_region 13 with (go_at_call 12;refine (kAg L H5 (by omega)).mono ?_;rintro e w6 ⟨rfl,hg6⟩;have H6:=H5.step hg6;clear H5 hg6)
   have d0:=(jAf (show w6.heap[gc]? = some (.cells (cmC o.cv o.a o.k) 33 (0,0)) from H6.law.q.2.1.2.1.2.1.1)).1
   have HH:=jAa H6
   clear H6
   go_quiet (first
    | (go_at_call 13;exact Calls.quiet_of_same (HK1.out _))
    | (go_at_call 14;exact Calls.quiet_of_same (HK2.out _))
    | (go_at_call 15;exact Calls.quiet_of_same (HS1.out _))
    | (go_at_call 16;exact Calls.quiet_of_same (HS2.out _)))
   have H7:=HH.out.drewN nq
   clear d0 HH
   go_wp2
   go_roundw
   case rel => exact ⟨k + 1,n + 1,own3,P4,T,by omega,by omega,by go_num,HBT.out,H7.swap.less.swap.less⟩
   case measure => simp [intOf];omega
  ·have hlt2 : ¬ ((k : Int) < (len : Int)):=by omega
   obtain ⟨l,hl2⟩ : ∃ l,st.drops = l:=⟨_,rfl⟩
   have hl9 : l.length ≤ 140737488351232:=by rw [← hl2];have:=(L.good H.law.q.2.1.1).len.2.1;omega
   have HL:=jAa hl2
   replace H:=jAa H
   clear hl2
   go_wp2_with (first
    | (go_at_call 18;refine (kDv L H.out.shD _ HL.out).mono ?_;rintro e w2 ⟨v,own2,rfl,N2⟩;have H2 : jAc w w2 r sd P st _:=⟨N2.rin.rot.rin,H.out.ents⟩;replace H:=jAa H2;clear H2 N2)
    | (go_at_call 19;refine (kCh H.out _ HL.out).mono ?_;rintro e w3 ⟨P3,rfl,H3⟩;replace H:=jAa H3;clear H3;have hv1:=jAa (jEy (show _ from H.out.law.q.2.1.2.1.1));have hv2:=jAa (jEy (show _ from H.out.law.q.2.1.1)))
    | (go_at_call 17;refine (kOg _ _ _ l hl9 hv1.out hv2.out).mono ?_;rintro e w4 ⟨rfl,hg⟩;replace H:=jAa (H.out.step hg);clear hg))
   go_ret
   exact ⟨rfl,H.out.law.below⟩
set_option maxRecDepth 100000 in
theorem jYe (L : jA7 Sh) (sd : Nat) (hd : sd < 18446744073709551616) (bud most : Int) (hbu : I64 bud) (hmo : I64 most) {w : World} (hLd : jBr w) {a : Option Addr} {len cap : Nat} {os : List jD4} (h : jHy w a len cap os) (hs : ¬ FewL os) :
  Calls Tryz.prog 3 #[.int .u64 sd,.int .i64 bud,.int .i64 most,.slice a len cap] w fun e w' => e = .returned (.bool true) ∧ Below w.heap.size w w':=by
 have HB:=Law.start w
 have HA:=jAa (fun W (HW : Law w W jAd.emp) => jVg L HW hLd)
 go_enter Tryz.func3,Tryz.ntmps3
 go_wp2_with (first
  | (go_at_call 5;refine (HA.out _ HB).mono ?_;clear HB HA;rintro e w1 ⟨rfl,HB⟩)
  | (go_at_call 6;refine (kBc (h.on HB.below)).mono ?_;rintro e w2 ⟨⟨q,rfl,hq⟩,hg⟩;obtain rfl : q = false:=Bool.eq_false_iff.2 fun e => hs (hq.1 e);replace HB:=HB.step hg;clear hg hq)
  | (go_at_call 7;refine (jR2 L HB sd bud most hd hbu hmo).mono ?_;clear HB;rintro e w3 ⟨b,own,rfl,H⟩))
 go_ret
 exact ⟨rfl,H.below⟩
theorem jV6 (L : jA7 Sh) (W : World) (a0 : Int) (w0 : (Lit.int .u64 a0).wf = true) (a1 : Int) (w1 : (Lit.int .i64 a1).wf = true) (a2 : Int) (w2 : (Lit.int .i64 a2).wf = true) (a3 : Option Addr) (len3 cap3 : Nat) (z3 : List jD4) (w3 : jHy W a3 len3 cap3 z3) (hLd : jBr W) :
  Calls Tryz.prog 3 #[.int .u64 a0,.int .i64 a1,.int .i64 a2,.slice a3 len3 cap3] W fun e W' => e = .returned (.bool true) ∧ Below W.heap.size W W':=by
 obtain ⟨h0,h1⟩:=jNf w0
 obtain ⟨sd,rfl⟩:=Int.eq_ofNat_of_zero_le h0
 by_cases h : FewL z3
 ·exact jZr L sd (by omega) a1 a2 (jKu w1) (jKu w2) hLd w3 h
 ·exact jYe L sd (by omega) a1 a2 (jKu w1) (jKu w2) hLd w3 h
end Go.Proofs.YtkfeafmpaodagaaGreatDoor
